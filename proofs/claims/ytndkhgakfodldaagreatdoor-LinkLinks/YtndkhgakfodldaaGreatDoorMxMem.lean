import Derived.Test.YtndkhgakfodldaaGreatDoorMxLeaf
import Derived.Deep.AppendLies
namespace Go.Proofs.YtndkhgakfodldaaGreatDoor
namespace Mx
open Go.RowKit
theorem hid {p:Prop} (h:p):Hid p:=h
def ints (l:List Int):List Value:=l.map (Value.int .i64 ·)
theorem zce (l:List Int):(ints l).length=l.length:=by simp [ints]
theorem zjx (a b:List Int):ints (a++b)=ints a++ints b:=by simp [ints]
theorem zg4 (l:List Int) (n:Nat):(ints l).take n=ints (l.take n):=by simp [ints]
theorem zs5 (l:List Int):∀ u ∈ ints l,u.oneCell'=true:=fun u hu=>by
 obtain ⟨_,_,rfl⟩:=List.mem_map.1 hu
 rfl
def flat (gs:List (List Int × Int)):List Int:=gs.flatMap (·.1)
theorem zjy (gs:List (List Int × Int)) (f:List Int × Int):flat (gs++[f])=flat gs++f.1:=by simp [flat]
def cF:Nat->List (List Int × Int)->List Value
 | _,[]=>[]
 | n,f :: r=>.int .i64 n :: .int .i64 f.2 :: cF (n+f.1.length) r
theorem zg5:∀ (n:Nat) (gs:List (List Int × Int)),(cF n gs).length=gs.length*2
 | _,[]=>rfl
 | n,f :: r=>by simp only [cF,List.length_cons,zg5 _ r];omega
theorem zhz:∀ (n:Nat) (gs:List (List Int × Int)) (f:List Int × Int),cF n (gs++[f])=cF n gs++[.int .i64 ((n+(flat gs).length:Nat):Int),.int .i64 f.2]
 | n,[],f=>by simp [cF,flat]
 | n,g :: r,f=>by
   simp only [List.cons_append,cF,zhz _ r f,flat,List.flatMap_cons,List.length_append];rw [Nat.add_assoc]
theorem z3l (n:Nat) (gs:List (List Int × Int)) (f:List Int × Int):(cF n (gs++[f])).take (gs.length*2)=cF n gs:=by
 rw [zhz,List.take_append_of_le_length (by rw [zg5];exact Nat.le_refl _),List.take_of_length_le (by rw [zg5];exact Nat.le_refl _)]
theorem zwx:∀ (n:Nat) (gs:List (List Int × Int)) (f g:List Int × Int),f.2=g.2->cF n (gs++[f])=cF n (gs++[g]):=fun n gs f g h=>by rw [zhz,zhz,h]
theorem lt_of_heap {w:World} {b:Nat} {o:Obj} (h:w.heap[b]? = some o):b<w.heap.size:=by
 rcases Nat.lt_or_ge b w.heap.size with h' | h'
 . exact h'
 . simp [Array.getElem?_eq_none h'] at h
theorem heap_set {w:World} {b i:Nat} {cs:Array Value} {t:TypeId} {f:Nat × Nat} (h:w.heap[b]? = some (.cells cs t f)) (u:Value):(w.setCell ⟨b,i,none⟩ u).heap[b]? = some (.cells (cs.setIfInBounds i u) t f):=by
 simp [World.setCell,Array.getElem?_modify,h]
structure Own (w:World) (T:Nat->Nat) (B mark:Nat) (e:TypeId) (sz:Nat) (v:Value) (n:Nat) (xs:List Value):Prop where
 own:w.ownsRow B e sz v n xs
 mark:∀ k,v.ownBlock=some k->T k=mark
section
variable {w w':World} {T T':Nat->Nat} {B mark:Nat} {e:TypeId} {sz:Nat} {v:Value} {n:Nat} {xs:List Value}
theorem Own.keep (h:Own w T B mark e sz v n xs) (hk:∀ k,k<w.heap.size->T k=mark->w'.heap[k]? = w.heap[k]?) (hT:∀ k,k<w.heap.size->T k=mark->T' k=mark):Own w' T' B mark e sz v n xs:=by
 have hl:=h.own.lt;refine ⟨⟨h.own.1,?_⟩,fun k F5=>hT k (hl k F5).2 (h.mark k F5)⟩
 rcases h.own.2 with h1 | ⟨g,cap,AC,hv,hb,hg,hr⟩
 . exact Or.inl h1
 . exact Or.inr ⟨g,cap,AC,hv,hb,(hk g (lt_of_heap hg) (h.mark g (by rw [hv];rfl))).trans hg,hr⟩
theorem Own.form (h:Own w T B mark e sz v n xs):∃ a cap,v = .slice a n cap/\n<=cap/\cap<=maxLen:=by
 rcases h.own.2 with ⟨h1,h2⟩ | ⟨g,cap,AC,hv,_,_,h3,h4,_⟩
 . exact ⟨none,0,by rw [h2];exact h1,by omega,by unfold maxLen;omega⟩
 . exact ⟨_,cap,hv,h3,h4⟩
theorem Own.place (h:Own w T B mark e sz v n xs) (hn:0<n):∃ g cap,v = .slice (some ⟨g,0,none⟩) n cap/\n<=cap/\cap<=maxLen/\B<=g/\g<w.heap.size/\T g=mark/\(∀ j,w.frozen? ⟨g,j,none⟩=false)/\(∀ j u,xs[j]? = some u->w.cell? ⟨g,j,none⟩=some u):=by
 rcases h.own.2 with ⟨_,h2⟩ | ⟨g,cap,AC,hv,hb,hg,h3,h4,_⟩
 . omega
 . refine ⟨g,cap,hv,h3,h4,hb,lt_of_heap hg,h.mark g (by rw [hv];rfl),fun j=>Lib.frozen_of_heap hg j,fun j u hu=>?_⟩
   have:=h.own.cells (g:=g) (by rw [hv];rfl) j u hu;rw [show (⟨g,0,none⟩:Addr).add j=⟨g,j,none⟩ from by unfold Addr.add;split<;>simp_all] at this;exact this
theorem Own.cut (h:Own w T B mark e sz v n xs) {m:Nat} (hm:m<=n) {a:Option Addr} {cap:Nat} (hv:v = .slice a n cap):Own w T B mark e sz (.slice a m cap) m (xs.take (m*sz)):=by
 have Ai:=h.own.1;refine ⟨⟨by rw [List.length_take,Ai];exact Nat.min_eq_left (Nat.mul_le_mul_right _ hm),?_⟩,fun k hk=>h.mark k (by rw [hv];exact (show Value.ownBlock (.slice a n cap)=Value.ownBlock (.slice a m cap) from by cases a<;>rfl).trans hk)⟩
 rcases h.own.2 with ⟨h1,h2⟩ | ⟨g,cap',AC,h1,hb,hg,h3,h4,h5,h6⟩
 . rw [hv] at h1
   cases h1
   obtain rfl:m=0:=by omega
   exact Or.inl ⟨rfl,rfl⟩
 . rw [hv] at h1
   cases h1;refine Or.inr ⟨g,cap,AC,rfl,hb,hg,by omega,h4,h5,?_⟩;rw [← h6,List.take_take,Nat.min_eq_left (Nat.mul_le_mul_right _ hm)]
end
def zwy (w:World) (B:Nat) (v:Value) (code:List Mc.Ins):Prop:=
 ∃ b off cap,v = .slice (some ⟨b,off,none⟩) code.length cap/\b<B/\∀ i (h:i<code.length),
   w.cell? ⟨b,off+i*3,none⟩=some (.int .i64 code[i].op)/\w.cell? ⟨b,off+i*3+1,none⟩=some (.int .i64 code[i].a)/\w.cell? ⟨b,off+i*3+2,none⟩=some (.int .i64 code[i].b)
def zl7 (w:World) (B:Nat) (v:Value) (l:List Int):Prop:=
 ∃ a cap,v = .slice a l.length cap/\l.length<=cap/\cap<=maxLen/\(l=[]\/∃ b off,a=some ⟨b,off,none⟩/\b<B/\∀ i (h:i<l.length),w.cell? ⟨b,off+i,none⟩=some (.int .i64 l[i]))
def fit64 (n:Int):Prop:=-9223372036854775808<=n/\n<=9223372036854775807
structure CfgOk (c:Mc.Cfg):Prop where
 mt:c.mt<=2000
 ms:c.ms<=134217728
 len:c.code.length<=2048
 ops:∀ i ∈ c.code,1<=i.op/\i.op<=22/\fit64 i.a/\fit64 i.b
structure Vs where
 cv:Value
 st:Value
 lo:Value
 fr:Value
 da:Value
 iv:Value
 ou:Value
structure MAt (B R:Nat) (c:Mc.Cfg) (w0 w:World) (T:Nat->Nat) (v:Vs) (s:Mc.St):Prop where
 blk:w.heap[R]? = some (.cells #[v.cv,.int .i64 s.pc,v.st,v.lo,v.fr,v.da,v.iv,v.ou,.int .i64 c.mt,.int .i64 s.ticks,.int .i64 c.ms,.int .i64 s.steps,.int .i64 s.en] 168 (0,0))
 hR:B<=R
 tR:T R=1
 st:Own w T B 2 3 1 v.st s.stack.length (ints s.stack)
 lo:Own w T B 3 3 1 v.lo (flat s.gs++s.lo).length (ints (flat s.gs++s.lo))
 fr:Own w T B 4 231 2 v.fr (s.gs.length+1) (cF 0 (s.gs++[(s.lo,s.bk)]))
 da:Own w T B 5 3 1 v.da s.data.length (ints s.data)
 ou:Own w T B 6 3 1 v.ou s.out.length (ints s.out)
 below:Below B w0 w
 cfg:CfgOk c
 code:zwy w0 B v.cv c.code
 inp:zl7 w0 B v.iv s.inp
 bst:s.stack.length<=2048
 bgs:s.gs.length<=24
 bfr:∀ f ∈ s.gs,f.1.length<=2048
 blo:s.lo.length<=2048
 bda:s.data.length<=512
 bou:s.out.length<=200
 bin:s.inp.length<=64
 tk:0<=s.ticks/\s.ticks<=c.mt
 sp:0<=s.steps/\s.steps<=c.ms
section
variable {B R:Nat} {c:Mc.Cfg} {w0 w w':World} {T:Nat->Nat} {v:Vs} {s:Mc.St}
theorem MAt.ltR (h:MAt B R c w0 w T v s):R<w.heap.size:=lt_of_heap h.blk
theorem MAt.cell (h:MAt B R c w0 w T v s):w.cell? ⟨R,0,none⟩=some v.cv/\w.cell? ⟨R,1,none⟩=some (.int .i64 s.pc)/\w.cell? ⟨R,2,none⟩=some v.st/\w.cell? ⟨R,3,none⟩=some v.lo/\w.cell? ⟨R,4,none⟩=some v.fr/\w.cell? ⟨R,5,none⟩=some v.da/\w.cell? ⟨R,6,none⟩=some v.iv/\w.cell? ⟨R,7,none⟩=some v.ou/\w.cell? ⟨R,8,none⟩=some (.int .i64 c.mt)/\w.cell? ⟨R,9,none⟩=some (.int .i64 s.ticks)/\w.cell? ⟨R,10,none⟩=some (.int .i64 c.ms)/\w.cell? ⟨R,11,none⟩=some (.int .i64 s.steps)/\w.cell? ⟨R,12,none⟩=some (.int .i64 s.en)/\(∀ j,w.frozen? ⟨R,j,none⟩=false):=by
 refine ⟨?_,?_,?_,?_,?_,?_,?_,?_,?_,?_,?_,?_,?_,fun j=>Lib.frozen_of_heap h.blk j⟩<;>(rw [Lib.cell_of_heap h.blk];rfl)
theorem znm:∀ (gs:List (List Int × Int)),(∀ f ∈ gs,f.1.length<=2048)->(flat gs).length<=gs.length*2048
 | [],_=>by simp [flat]
 | f :: r,h=>by
   have:=znm r (fun g hg=>h g (List.mem_cons_of_mem _ hg));have h0:=h f (List.mem_cons_self ..);simp only [flat,List.flatMap_cons,List.length_append,List.length_cons] at this ⊢;omega
theorem MAt.locals_le (h:MAt B R c w0 w T v s):(flat s.gs++s.lo).length<=51200:=by
 have:=znm s.gs h.bfr;have h1:=h.bgs;have h2:=h.blo;rw [List.length_append];have h3:s.gs.length*2048<=24*2048:=Nat.mul_le_mul_right _ h1;omega
theorem MAt.later (h:MAt B R c w0 w T v s) (hb:Below w.heap.size w w') (hB:B<=w.heap.size):MAt B R c w0 w' T v s:=
 { h with
   blk:=(hb.block R h.ltR).trans h.blk
   st:=h.st.keep (fun k hk _=>hb.block k hk) (fun _ _ e=>e)
   lo:=h.lo.keep (fun k hk _=>hb.block k hk) (fun _ _ e=>e)
   fr:=h.fr.keep (fun k hk _=>hb.block k hk) (fun _ _ e=>e)
   da:=h.da.keep (fun k hk _=>hb.block k hk) (fun _ _ e=>e)
   ou:=h.ou.keep (fun k hk _=>hb.block k hk) (fun _ _ e=>e)
   below:=h.below.trans (hb.mono hB) }
theorem MAt.hB (h:MAt B R c w0 w T v s):B<=w.heap.size:=Nat.le_trans h.hR (Nat.le_of_lt h.ltR)
theorem MAt.alloc (h:MAt B R c w0 w T v s) (o:Obj):MAt B R c w0 (w.alloc o) T v s:=h.later ((Below.refl _ _).alloc (Nat.le_refl _) o) h.hB
theorem MAt.drew (h:MAt B R c w0 w T v s):MAt B R c w0 w.drew T v s:=h.later (Below.refl _ _).drew h.hB
theorem MAt.setN (h:MAt B R c w0 w T v s) (j:Nat) (x:Value) (s':Mc.St)
 (hb:(#[v.cv,.int .i64 s.pc,v.st,v.lo,v.fr,v.da,v.iv,v.ou,.int .i64 c.mt,.int .i64 s.ticks,.int .i64 c.ms,.int .i64 s.steps,.int .i64 s.en].setIfInBounds j x:Array Value)=#[v.cv,.int .i64 s'.pc,v.st,v.lo,v.fr,v.da,v.iv,v.ou,.int .i64 c.mt,.int .i64 s'.ticks,.int .i64 c.ms,.int .i64 s'.steps,.int .i64 s'.en])
 (e1:s'.stack=s.stack) (e2:s'.gs=s.gs) (e3:s'.lo=s.lo) (e4:s'.bk=s.bk) (e5:s'.data=s.data) (e6:s'.inp=s.inp) (e7:s'.out=s.out)
 (tk:0<=s'.ticks/\s'.ticks<=c.mt) (sp:0<=s'.steps/\s'.steps<=c.ms):MAt B R c w0 (w.setCell ⟨R,j,none⟩ x) T v s':=by
 have hk:∀ m,m≠1->∀ k,k<w.heap.size->T k=m->(w.setCell ⟨R,j,none⟩ x).heap[k]? = w.heap[k]?:=fun m hm k _ e=>
  Below.heap_setCell w ⟨R,j,none⟩ x k (fun e'=>by subst e';exact hm (e.symm.trans h.tR))
 exact {
  blk:=by rw [heap_set h.blk,hb]
  hR:=h.hR,tR:=h.tR
  st:=by rw [e1];exact h.st.keep (hk 2 (by decide)) (fun _ _ e=>e)
  lo:=by rw [e2,e3];exact h.lo.keep (hk 3 (by decide)) (fun _ _ e=>e)
  fr:=by rw [e2,e3,e4];exact h.fr.keep (hk 4 (by decide)) (fun _ _ e=>e)
  da:=by rw [e5];exact h.da.keep (hk 5 (by decide)) (fun _ _ e=>e)
  ou:=by rw [e7];exact h.ou.keep (hk 6 (by decide)) (fun _ _ e=>e)
  below:=h.below.setCell (p:=⟨R,j,none⟩) h.hR x
  cfg:=h.cfg,code:=h.code
  inp:=by rw [e6];exact h.inp
  bst:=by rw [e1];exact h.bst
  bgs:=by rw [e2];exact h.bgs
  bfr:=by rw [e2];exact h.bfr
  blo:=by rw [e3];exact h.blo
  bda:=by rw [e5];exact h.bda
  bou:=by rw [e7];exact h.bou
  bin:=by rw [e6];exact h.bin
  tk:=tk,sp:=sp }
theorem MAt.setEn (h:MAt B R c w0 w T v s) (e:Int):MAt B R c w0 (w.setCell ⟨R,12,none⟩ (.int .i64 e)) T v { s with en:=e }:=
 h.setN 12 _ _ rfl rfl rfl rfl rfl rfl rfl rfl h.tk h.sp
theorem MAt.setPc (h:MAt B R c w0 w T v s) (e:Int):MAt B R c w0 (w.setCell ⟨R,1,none⟩ (.int .i64 e)) T v { s with pc:=e }:=
 h.setN 1 _ _ rfl rfl rfl rfl rfl rfl rfl rfl h.tk h.sp
theorem MAt.setTicks (h:MAt B R c w0 w T v s) (e:Int) (h0:0<=e) (h1:e<=c.mt):MAt B R c w0 (w.setCell ⟨R,9,none⟩ (.int .i64 e)) T v { s with ticks:=e }:=
 h.setN 9 _ _ rfl rfl rfl rfl rfl rfl rfl rfl ⟨h0,h1⟩ h.sp
theorem MAt.setSteps (h:MAt B R c w0 w T v s) (e:Int) (h0:0<=e) (h1:e<=c.ms):MAt B R c w0 (w.setCell ⟨R,11,none⟩ (.int .i64 e)) T v { s with steps:=e }:=
 h.setN 11 _ _ rfl rfl rfl rfl rfl rfl rfl rfl h.tk ⟨h0,h1⟩
theorem MAt.setIn (h:MAt B R c w0 w T v s) (x:Value) (l:List Int) (hi:zl7 w0 B x l) (hl:l.length<=64):MAt B R c w0 (w.setCell ⟨R,6,none⟩ x) T { v with iv:=x } { s with inp:=l }:=by
 have hk:∀ m,m≠1->∀ k,k<w.heap.size->T k=m->(w.setCell ⟨R,6,none⟩ x).heap[k]? = w.heap[k]?:=fun m hm k _ e=>
  Below.heap_setCell w ⟨R,6,none⟩ x k (fun e'=>by subst e';exact hm (e.symm.trans h.tR))
 exact { h with
  blk:=by rw [heap_set h.blk];rfl
  st:=h.st.keep (hk 2 (by decide)) (fun _ _ e=>e)
  lo:=h.lo.keep (hk 3 (by decide)) (fun _ _ e=>e)
  fr:=h.fr.keep (hk 4 (by decide)) (fun _ _ e=>e)
  da:=h.da.keep (hk 5 (by decide)) (fun _ _ e=>e)
  ou:=h.ou.keep (hk 6 (by decide)) (fun _ _ e=>e)
  below:=h.below.setCell (p:=⟨R,6,none⟩) h.hR x
  inp:=hi
  bin:=hl }
theorem MAt.rest (h:MAt B R c w0 w T v s) {w1:World} {vr:Value} {m:Nat} (hm:∀ k,vr.ownBlock=some k->T k=m/\B<=k) (Dy:m≠1) (hg:w.grownBy w1 vr.ownBlock) (j:Nat) (x:Value) :
 (∀ k,k<w.heap.size->T k≠m->k≠R->(w1.setCell ⟨R,j,none⟩ x).heap[k]? = w.heap[k]?)/\w1.heap[R]? = w.heap[R]?/\Below B w0 (w1.setCell ⟨R,j,none⟩ x):=by
 have hR:w1.heap[R]? = w.heap[R]?:=hg.block R h.ltR (fun e=>Dy (by rw [← (hm R e.symm).1];exact h.tR));refine ⟨fun k hk ht Aj=>?_,hR,?_⟩
 . rw [Below.heap_setCell w1 ⟨R,j,none⟩ x k Aj]
   exact hg.block k hk (fun e=>ht (hm k e.symm).1)
 . exact (h.below.grown hg h.hB (fun k e=>(hm k e).2)).setCell (p:=⟨R,j,none⟩) h.hR x
def zfh (w:World) (T:Nat->Nat) (m:Nat):Nat->Nat:=fun k=>if w.heap.size<=k then m else T k
theorem zao {w:World} {T:Nat->Nat} (m a:Nat):∀ k,k<w.heap.size->T k=a->zfh w T m k=a:=fun k hk e=>by
 unfold zfh;rw [if_neg (by omega)];exact e
theorem MAt.row (h:MAt B R c w0 w T v s) {w1:World} {m:Nat} {e:TypeId} {sz n:Nat} {xs:List Value} {vr x:Value} (hm:∀ k,vr.ownBlock=some k->T k=m) (Dy:m≠1) (ho:w1.ownsRow B e sz x n xs)
 (AF:∀ k,x.ownBlock=some k->k<w.heap.size->vr.ownBlock=some k) (j:Nat) (y:Value):Own (w1.setCell ⟨R,j,none⟩ y) (zfh w T m) B m e sz x n xs:=by
 have A0:=h.ltR
 have Jb:∀ k,x.ownBlock=some k->zfh w T m k=m:=by
  intro k e
  by_cases hk:w.heap.size<=k
  . unfold zfh;rw [if_pos hk]
  . exact zao m m k (by omega) (hm k (AF k e (by omega)))
 refine ⟨⟨ho.1,?_⟩,Jb⟩
 rcases ho.2 with h1 | ⟨g,cap,AC,hv,KR,hgg,hr⟩
 . exact Or.inl h1
 . refine Or.inr ⟨g,cap,AC,hv,KR,?_,hr⟩
   rw [Below.heap_setCell w1 ⟨R,j,none⟩ y g ?_]
   . exact hgg
   . intro e
     have e':g=R:=e;subst e';have:=hm g (AF g (by rw [hv];rfl) A0);rw [h.tR] at this;exact Dy this.symm
theorem MAt.keeps (h:MAt B R c w0 w T v s) {w1:World} {m:Nat} {j:Nat} {x:Value} (hk:∀ k,k<w.heap.size->T k≠m->k≠R->(w1.setCell ⟨R,j,none⟩ x).heap[k]? = w.heap[k]?) :
 ∀ a,a≠1->a≠m->∀ k,k<w.heap.size->T k=a->(w1.setCell ⟨R,j,none⟩ x).heap[k]? = w.heap[k]?:=fun a h1 h2 k F5 e=>
 hk k F5 (by rw [e];exact h2) (fun e'=>by subst e';exact h1 (e.symm.trans h.tR))
theorem MAt.setSt (h:MAt B R c w0 w T v s) {w1:World} {x:Value} {l:List Int} (hg:w.grownBy w1 v.st.ownBlock) (ho:w1.ownsRow B 3 1 x l.length (ints l))
 (AF:∀ k,x.ownBlock=some k->k<w.heap.size->v.st.ownBlock=some k) (hl:l.length<=2048) :
 MAt B R c w0 (w1.setCell ⟨R,2,none⟩ x) (zfh w T 2) { v with st:=x } { s with stack:=l }:=by
 obtain ⟨hk,hR,hb⟩:=h.rest (m:=2) (fun k e=>⟨h.st.mark k e,(h.st.own.lt k e).1⟩) (by decide) hg 2 x;have keep:=h.keeps hk
 exact { h with
  blk:=by rw [heap_set (hR.trans h.blk)];rfl
  tR:=zao 2 1 R h.ltR h.tR
  st:=h.row (fun k e=>h.st.mark k e) (by decide) ho AF 2 x
  lo:=h.lo.keep (keep 3 (by decide) (by decide)) (zao 2 3)
  fr:=h.fr.keep (keep 4 (by decide) (by decide)) (zao 2 4)
  ou:=h.ou.keep (keep 6 (by decide) (by decide)) (zao 2 6)
  da:=h.da.keep (keep 5 (by decide) (by decide)) (zao 2 5)
  below:=hb
  bst:=hl }
theorem MAt.setLo (h:MAt B R c w0 w T v s) {w1:World} {x:Value} {l:List Int} (hg:w.grownBy w1 v.lo.ownBlock) (ho:w1.ownsRow B 3 1 x (flat s.gs++l).length (ints (flat s.gs++l)))
 (AF:∀ k,x.ownBlock=some k->k<w.heap.size->v.lo.ownBlock=some k) (hl:l.length<=2048) :
 MAt B R c w0 (w1.setCell ⟨R,3,none⟩ x) (zfh w T 3) { v with lo:=x } { s with lo:=l }:=by
 obtain ⟨hk,hR,hb⟩:=h.rest (m:=3) (fun k e=>⟨h.lo.mark k e,(h.lo.own.lt k e).1⟩) (by decide) hg 3 x;have keep:=h.keeps hk
 exact { h with
  blk:=by rw [heap_set (hR.trans h.blk)];rfl
  tR:=zao 3 1 R h.ltR h.tR
  st:=h.st.keep (keep 2 (by decide) (by decide)) (zao 3 2)
  lo:=h.row (fun k e=>h.lo.mark k e) (by decide) ho AF 3 x
  fr:=by
   have:=h.fr.keep (keep 4 (by decide) (by decide)) (zao (T:=T) 3 4);rw [zwx 0 s.gs (s.lo,s.bk) (l,s.bk) rfl] at this;exact this
  ou:=h.ou.keep (keep 6 (by decide) (by decide)) (zao 3 6)
  da:=h.da.keep (keep 5 (by decide) (by decide)) (zao 3 5)
  below:=hb
  blo:=hl }
theorem MAt.setOu (h:MAt B R c w0 w T v s) {w1:World} {x:Value} {l:List Int} (hg:w.grownBy w1 v.ou.ownBlock) (ho:w1.ownsRow B 3 1 x l.length (ints l))
 (AF:∀ k,x.ownBlock=some k->k<w.heap.size->v.ou.ownBlock=some k) (hl:l.length<=200) :
 MAt B R c w0 (w1.setCell ⟨R,7,none⟩ x) (zfh w T 6) { v with ou:=x } { s with out:=l }:=by
 obtain ⟨hk,hR,hb⟩:=h.rest (m:=6) (fun k e=>⟨h.ou.mark k e,(h.ou.own.lt k e).1⟩) (by decide) hg 7 x;have keep:=h.keeps hk
 exact { h with
  blk:=by rw [heap_set (hR.trans h.blk)];rfl
  tR:=zao 6 1 R h.ltR h.tR
  st:=h.st.keep (keep 2 (by decide) (by decide)) (zao 6 2)
  lo:=h.lo.keep (keep 3 (by decide) (by decide)) (zao 6 3)
  fr:=h.fr.keep (keep 4 (by decide) (by decide)) (zao 6 4)
  ou:=h.row (fun k e=>h.ou.mark k e) (by decide) ho AF 7 x
  da:=h.da.keep (keep 5 (by decide) (by decide)) (zao 6 5)
  below:=hb
  bou:=hl }
theorem MAt.setFr (h:MAt B R c w0 w T v s) {w1:World} {x:Value} {gs:List (List Int × Int)} {l:List Int} {b:Int} (hg:w.grownBy w1 v.fr.ownBlock) (ho:w1.ownsRow B 231 2 x (gs.length+1) (cF 0 (gs++[(l,b)])))
 (AF:∀ k,x.ownBlock=some k->k<w.heap.size->v.fr.ownBlock=some k) (hl:l.length<=2048) (EE:gs.length<=24) (Qz:∀ f ∈ gs,f.1.length<=2048) (Eg:flat gs++l=flat s.gs++s.lo) :
 MAt B R c w0 (w1.setCell ⟨R,4,none⟩ x) (zfh w T 4) { v with fr:=x } { s with gs:=gs,lo:=l,bk:=b }:=by
 obtain ⟨hk,hR,hb⟩:=h.rest (m:=4) (fun k e=>⟨h.fr.mark k e,(h.fr.own.lt k e).1⟩) (by decide) hg 4 x;have keep:=h.keeps hk
 exact { h with
  blk:=by rw [heap_set (hR.trans h.blk)];rfl
  tR:=zao 4 1 R h.ltR h.tR
  st:=h.st.keep (keep 2 (by decide) (by decide)) (zao 4 2)
  lo:=by
   have:=h.lo.keep (keep 3 (by decide) (by decide)) (zao (T:=T) 4 3);rw [← Eg] at this;exact this
  fr:=h.row (fun k e=>h.fr.mark k e) (by decide) ho AF 4 x
  ou:=h.ou.keep (keep 6 (by decide) (by decide)) (zao 4 6)
  da:=h.da.keep (keep 5 (by decide) (by decide)) (zao 4 5)
  below:=hb
  blo:=hl
  bgs:=EE
  bfr:=Qz }
end
end Mx
set_option maxRecDepth 100000
set_option maxHeartbeats 400000
namespace Mx
open Go.RowKit
def Mch (B R:Nat) (c:Mc.Cfg) (w0 w:World) (s:Mc.St):Prop:=∃ T v,MAt B R c w0 w T v s
def zap {α:Type} (B R:Nat) (c:Mc.Cfg) (w0:World) (r:Mc.Res α) (AD:α->Value) (e:Ending) (w':World):Prop:=
 match r with
 | .ok a s=>e = .returned (AD a)/\Mch B R c w0 w' s
 | .stop s=>e = .panicked (zdr s.en)/\Mch B R c w0 w' s
def za3 (_:Unit):Value:=.tuple #[]
def intV (n:Int):Value:=.int .i64 n
theorem z3m:(Tryz.prog.info? 3).map (fun i=>(i.zero,i.size,i.bytes))=some (some (.int .i64 0),1,8):=by kernel_rfl
theorem z5t:(Tryz.prog.info? 231).map (fun i=>(i.zero,i.size,i.bytes))=some (some (.agg #[.int .i64 0,.int .i64 0]),2,16):=by kernel_rfl
theorem grown_refl (w:World) (r:Option Nat):w.grownBy w r:=⟨rfl,rfl,rfl,Nat.le_refl _,fun _ _ _=>rfl⟩
theorem zap.ok {α:Type} {B R:Nat} {c:Mc.Cfg} {w0 w':World} {r:Mc.Res α} {AD:α->Value} {a:α} {s:Mc.St} {u:Value} (hr:r = .ok a s) (hu:u=AD a) (h:Mch B R c w0 w' s):zap B R c w0 r AD (.returned u) w':=by
 subst hr;subst hu;exact ⟨rfl,h⟩
theorem zap.stop {α:Type} {B R:Nat} {c:Mc.Cfg} {w0 w':World} {r:Mc.Res α} {AD:α->Value} {s:Mc.St} {e:Int} (hr:r = .stop s) (he:e=s.en) (h:Mch B R c w0 w' s):zap B R c w0 r AD (.panicked (zdr e)) w':=by
 subst hr;subst he;exact ⟨rfl,h⟩
theorem MAt.far {B R:Nat} {c:Mc.Cfg} {w0 w w1:World} {T:Nat->Nat} {v:Vs} {s:Mc.St} {vr:Value} {m:Nat} (h:MAt B R c w0 w T v s) (hm:∀ k,vr.ownBlock=some k->T k=m) (Dy:m≠1) (hg:w.grownBy w1 vr.ownBlock) :
 (∀ j,w1.cell? ⟨R,j,none⟩=w.cell? ⟨R,j,none⟩)/\(∀ j,w1.frozen? ⟨R,j,none⟩=false)/\R<w1.heap.size:=by
 have e:w1.heap[R]? = w.heap[R]?:=hg.block R h.ltR (fun e=>Dy (by rw [← hm R e.symm];exact h.tR));exact ⟨fun j=>World.cell?_of_block (w:=w) e,fun j=>(World.frozen?_of_block (w:=w) e).trans (h.cell.2.2.2.2.2.2.2.2.2.2.2.2.2 j),Nat.lt_of_lt_of_le h.ltR hg.size⟩
theorem MAt.drewN {B R:Nat} {c:Mc.Cfg} {w0 w:World} {T:Nat->Nat} {v:Vs} {s:Mc.St} (h:MAt B R c w0 w T v s) (n:Nat):MAt B R c w0 (w.drewN n) T v s:=h.later ⟨rfl,rfl,rfl,Nat.le_refl _,fun _ _=>rfl⟩ h.hB
theorem zph (l:List Int) (n:Int):ints l++[.int .i64 n]=ints (l++[n]):=by simp [ints]
theorem len_snoc {α:Type} (l:List α) (n:α):(l++[n]).length=l.length+1:=by simp
theorem zq8 {g n cap H:Nat} {o:Option Nat} (h:o=some g\/g=H):∀ k,Value.ownBlock (.slice (some ⟨g,0,none⟩) n cap)=some k->k<H->o=some k:=by
 intro k hk A0
 have e:g=k:=by simpa [Value.ownBlock] using hk
 subst e
 rcases h with h | h
 . exact h
 . omega
theorem zdv (B R:Nat) (c:Mc.Cfg) (w0:World) (s:Mc.St) (n:Int) (w:World) (h:Mch B R c w0 w s) :
 Calls Tryz.prog 221 #[.pointer (some ⟨R,0,none⟩),.int .i64 n] w (zap B R c w0 (Mc.push n s) za3):=by
 obtain ⟨T,⟨cv,st,lo,fr,da,iv,ou⟩,h⟩:=h;obtain ⟨i0,hi,Bs,Ao,AA⟩:=info_parts z3m;obtain ⟨a,cap,hv,AG,hmax⟩:=h.st.form;simp only at hv;subst hv;have HM:Hid (MAt B R c w0 w T ⟨cv,.slice a s.stack.length cap,lo,fr,da,iv,ou⟩ s):=h;obtain ⟨-, -,c2, -, -, -, -, -, -, -, -, -,CP,hf⟩:=h.cell;simp only at c2;unfold maxLen at hmax;have Jv:=h.bst;have Bk:=h.ltR;clear h
 by_cases hl:s.stack.length<2048
 . have HP:Hid (Mc.push n s = .ok () { s with stack:=s.stack++[n] }):=if_pos hl
   go_enter Tryz.func221,Tryz.ntmps221;go_wp2_with fail;refine (zbx _ _ _ (by simp;omega)).mono ?_;rintro e w' ⟨rfl,rfl⟩
   go_wp2_with (at_builtin;refine wpList_append_lies _ rfl _ _ _ rfl B 3 i0 _ 1 8 Tryz.underlying49 hi Bs Ao AA rfl (by omega) (.slice a s.stack.length cap) s.stack.length (ints s.stack) rfl (HM.out.alloc _).st.own ⟨_,0,none⟩ 1 1 [.int .i64 n] rfl rfl (cell_one_new _ _ _) (by simp;rfl) (by omega) (by unfold maxLen;omega) (by omega) (by have:=HM.out.hB;simp;omega) _ rfl ?_;intro g cap' w1 hown1 hg AF A0;obtain ⟨fc,ff,fl⟩:=(HM.out.alloc _).far (fun k e=>HM.out.st.mark k e) (by decide) hg;have TD:=(fc 2).trans (HM.out.alloc _).cell.2.2.1;have Tz:=ff 2;have HO:=hid hown1;have HG:=hid hg;have HT:=hid AF;clear hown1 hg AF fc ff)
   go_returns
   exact zap.ok HP.out rfl ⟨_,_,(HM.out.alloc _).setSt HG.out (by rw [len_snoc,← zph];exact HO.out) (zq8 HT.out) (by rw [len_snoc];omega)⟩
 . have HP:Hid (Mc.push n s = .stop { s with en:=6 }):=if_neg hl
   go_enter Tryz.func221,Tryz.ntmps221;go_wp2_with fail;refine (zgs R _ _ _ (by simp;omega) CP (hf 12)).mono ?_;rintro e w' ⟨rfl,rfl⟩;go_wp2_with fail;exact ⟨rfl,zap.stop HP.out rfl ⟨_,_,HM.out.setEn 6⟩⟩
theorem zjc (l:List Int) (k:Nat) (h:k<l.length):(ints l)[k]? = some (.int .i64 (l.getD k 0)):=by
 simp [ints,List.getD_eq_getElem?_getD,List.getElem?_eq_getElem h]
def zfs {α:Type} (B R:Nat) (c:Mc.Cfg) (w0:World) (L D:Value) (r:Mc.Res α) (AD:α->Value) (e:Ending) (w':World):Prop:=
 match r with
 | .ok a s=>e = .returned (AD a)/\∃ T v,MAt B R c w0 w' T v s/\v.lo=L/\v.da=D
 | .stop s=>e = .panicked (zdr s.en)/\Mch B R c w0 w' s
theorem zfs.ok {α:Type} {B R:Nat} {c:Mc.Cfg} {w0 w':World} {L D:Value} {r:Mc.Res α} {AD:α->Value} {a:α} {s:Mc.St} {u:Value} {T:Nat->Nat} {v:Vs} (hr:r = .ok a s) (hu:u=AD a) (h:MAt B R c w0 w' T v s) (h1:v.lo=L) (h2:v.da=D):zfs B R c w0 L D r AD (.returned u) w':=by
 subst hr;subst hu;exact ⟨rfl,T,v,h,h1,h2⟩
theorem zfs.stop {α:Type} {B R:Nat} {c:Mc.Cfg} {w0 w':World} {L D:Value} {r:Mc.Res α} {AD:α->Value} {s:Mc.St} {e:Int} (hr:r = .stop s) (he:e=s.en) (h:Mch B R c w0 w' s):zfs B R c w0 L D r AD (.panicked (zdr e)) w':=by
 subst hr;subst he;exact ⟨rfl,h⟩
theorem zfs.plain {α:Type} {B R:Nat} {c:Mc.Cfg} {w0 w':World} {L D:Value} {r:Mc.Res α} {AD:α->Value} {e:Ending} (h:zfs B R c w0 L D r AD e w'):zap B R c w0 r AD e w':=by
 cases r with
 | ok a s=>obtain ⟨h1,T,v,h2,_⟩:=h;exact ⟨h1,T,v,h2⟩
 | stop s=>exact h
theorem zf5 (B R:Nat) (c:Mc.Cfg) (w0:World) (s:Mc.St) (w:World) (T:Nat->Nat) (v:Vs) (h:MAt B R c w0 w T v s) :
 Calls Tryz.prog 225 #[.pointer (some ⟨R,0,none⟩)] w (fun e w'=>zfs B R c w0 v.lo v.da (Mc.pop s) intV e w'/\∀ k,k≠R->w'.heap[k]? = w.heap[k]?):=by
 obtain ⟨cv,st,lo,fr,da,iv,ou⟩:=v;simp only
 by_cases hl:0<s.stack.length
 . obtain ⟨k,hk⟩:∃ k,s.stack.length=k+1:=⟨s.stack.length - 1,by omega⟩
   have HP:Hid (Mc.pop s = .ok (s.stack.getD k 0) { s with stack:=s.stack.take k }):=by
    show Mc.pop s=_;unfold Mc.pop
    rw [if_pos hl,hk];rfl
   obtain ⟨g,cap,hv,AG,hmax,hBg,G1,Dx,CS,hcell⟩:=h.st.place hl;simp only at hv;subst hv;have hx:=hcell k _ (zjc _ k (by omega));generalize s.stack.getD k 0=x at *;have Jv:=h.bst;rw [hk] at Jv AG;have HK:Hid (s.stack.length=k+1):=hk;have HM:Hid (MAt B R c w0 w T ⟨cv,.slice (some ⟨g,0,none⟩) s.stack.length cap,lo,fr,da,iv,ou⟩ s):=h;obtain ⟨-, -,c2, -, -, -, -, -, -, -, -, -, -,hf⟩:=h.cell;simp only [hk] at c2;unfold maxLen at hmax;clear h hcell hl hk;go_enter Tryz.func225,Tryz.ntmps225;go_wp2_with fail;refine (zbx _ _ _ (by simp)).mono ?_;rintro e w' ⟨rfl,rfl⟩;go_wp2_with fail
   go_returns
   have Ai:(s.stack.take k).length=k:=by rw [List.length_take,HK.out];omega
   refine ⟨zfs.ok HP.out rfl (HM.out.setSt (grown_refl _ _) ?_ (fun j e _=>e) (by rw [Ai];omega)) rfl rfl,fun k hk=>Below.heap_setCell _ _ _ k hk⟩;have:=(HM.out.st.cut (m:=k) (by rw [HK.out];omega) rfl).own;rw [Nat.mul_one,zg4] at this;rw [Ai];exact this
 . have HP:Hid (Mc.pop s = .stop { s with en:=6 }):=if_neg hl
   obtain ⟨a,cap,hv,AG,hmax⟩:=h.st.form;simp only at hv;subst hv;have HM:Hid (MAt B R c w0 w T ⟨cv,.slice a s.stack.length cap,lo,fr,da,iv,ou⟩ s):=h;obtain ⟨-, -,c2, -, -, -, -, -, -, -, -, -,CP,hf⟩:=h.cell
   have h0:s.stack.length=0:=by omega
   simp only [h0] at c2;clear h hl h0 AG;go_enter Tryz.func225,Tryz.ntmps225;go_wp2_with fail;refine (zgs R _ _ _ (by simp) CP (hf 12)).mono ?_;rintro e w' ⟨rfl,rfl⟩;go_wp2_with fail;exact ⟨rfl,zfs.stop HP.out rfl ⟨_,_,HM.out.setEn 6⟩,fun k hk=>Below.heap_setCell _ _ _ k hk⟩
theorem zft (B R:Nat) (c:Mc.Cfg) (w0:World) (s:Mc.St) (w:World) (h:Mch B R c w0 w s) :
 Calls Tryz.prog 225 #[.pointer (some ⟨R,0,none⟩)] w (zap B R c w0 (Mc.pop s) intV):=by
 obtain ⟨T,v,h⟩:=h
 exact (zf5 B R c w0 s w T v h).mono fun e w' h=>h.1.plain
theorem tell_any (B R:Nat) (c:Mc.Cfg) (w0:World) (s:Mc.St) (n:Int) (w:World) (h:Mch B R c w0 w s) :
 Calls Tryz.prog 234 #[.pointer (some ⟨R,0,none⟩),.int .i64 n] w (zap B R c w0 (Mc.tell n s) za3):=by
 obtain ⟨T,⟨cv,st,lo,fr,da,iv,ou⟩,h⟩:=h;obtain ⟨i0,hi,Bs,Ao,AA⟩:=info_parts z3m;obtain ⟨a,cap,hv,AG,hmax⟩:=h.ou.form;simp only at hv;subst hv;have HM:Hid (MAt B R c w0 w T ⟨cv,st,lo,fr,da,iv,.slice a s.out.length cap⟩ s):=h;obtain ⟨-, -, -, -, -, -, -,c7, -, -, -, -,CP,hf⟩:=h.cell;simp only at c7;unfold maxLen at hmax;have QJ:=h.bou;have Bk:=h.ltR;clear h
 by_cases hl:s.out.length=200
 . have HP:Hid (Mc.tell n s = .stop { s with en:=5 }):=if_pos hl
   have hb:((s.out.length:Int) == 200)=true:=beq_iff_eq.2 (by omega);clear hl;go_enter Tryz.func234,Tryz.ntmps234;go_wp2_with fail;refine (stop_any R _ _ _ CP (hf 12)).mono ?_;rintro e w' ⟨rfl,rfl⟩;go_wp2_with fail;exact ⟨rfl,zap.stop HP.out rfl ⟨_,_,HM.out.setEn 5⟩⟩
 . have HP:Hid (Mc.tell n s = .ok () { s with out:=s.out++[n] }):=if_neg hl
   have hb:((s.out.length:Int) == 200)=false:=beq_eq_false_iff_ne.2 (by omega)
   have F3:s.out.length<200:=by omega
   clear hl;go_enter Tryz.func234,Tryz.ntmps234
   go_wp2_with (at_builtin;refine wpList_append_lies _ rfl _ _ _ rfl B 3 i0 _ 1 8 Tryz.underlying49 hi Bs Ao AA rfl (by omega) (.slice a s.out.length cap) s.out.length (ints s.out) rfl (HM.out.alloc _).ou.own ⟨_,0,none⟩ 1 1 [.int .i64 n] rfl rfl (cell_one_new _ _ _) (by simp;rfl) (by omega) (by unfold maxLen;omega) (by omega) (by have:=HM.out.hB;simp;omega) _ rfl ?_;intro g cap' w1 hown1 hg AF A0;obtain ⟨fc,ff,fl⟩:=(HM.out.alloc _).far (fun k e=>HM.out.ou.mark k e) (by decide) hg;have TB:=(fc 7).trans (HM.out.alloc _).cell.2.2.2.2.2.2.2.1;have Tx:=ff 7;have HO:=hid hown1;have HG:=hid hg;have HT:=hid AF;clear hown1 hg AF fc ff)
   go_returns
   exact zap.ok HP.out rfl ⟨_,_,(HM.out.alloc _).setOu HG.out (by rw [len_snoc,← zph];exact HO.out) (zq8 HT.out) (by rw [len_snoc];omega)⟩
theorem tick_any (B R:Nat) (c:Mc.Cfg) (w0:World) (s:Mc.St) (w:World) (h:Mch B R c w0 w s) :
 Calls Tryz.prog 232 #[.pointer (some ⟨R,0,none⟩)] w (zap B R c w0 (Mc.tick c.mt s) za3):=by
 obtain ⟨T,v,h⟩:=h;have HM:Hid (MAt B R c w0 w T v s):=h;obtain ⟨-, -, -, -, -, -, -, -,c8,c9, -, -,CP,hf⟩:=h.cell;have O1:=h.tk.1;have O0:=h.tk.2;have SQ:=h.cfg.mt;have Bk:=h.ltR;clear h
 by_cases hl:s.ticks=c.mt
 . have HP:Hid (Mc.tick c.mt s = .stop { s with en:=3 }):=if_pos hl
   have hb:(s.ticks == c.mt)=true:=beq_iff_eq.2 hl;clear hl;go_enter Tryz.func232,Tryz.ntmps232;go_wp2_with fail
   go_quiet ((fail))
   go_wp2_with fail;refine (stop_any R _ _ _ (by simpa using CP) (by simpa using hf 12)).mono ?_;rintro e w' ⟨rfl,rfl⟩;go_wp2_with fail;exact ⟨rfl,zap.stop HP.out rfl ⟨_,_,(HM.out.drewN _).setEn 3⟩⟩
 . have HP:Hid (Mc.tick c.mt s = .ok () { s with ticks:=s.ticks+1 }):=if_neg hl
   have hb:(s.ticks == c.mt)=false:=beq_eq_false_iff_ne.2 hl
   have A0:s.ticks<c.mt:=by omega
   clear hl;go_enter Tryz.func232,Tryz.ntmps232;go_wp2_with fail
   go_quiet ((fail))
   go_wp2_with fail
   go_returns
   exact zap.ok HP.out rfl ⟨_,_,(HM.out.drewN _).setTicks _ (by omega) (by omega)⟩
theorem next_any (B R:Nat) (c:Mc.Cfg) (w0:World) (s:Mc.St) (w:World) (h:Mch B R c w0 w s) :
 Calls Tryz.prog 233 #[.pointer (some ⟨R,0,none⟩)] w (zap B R c w0 (Mc.next s) intV):=by
 obtain ⟨T,⟨cv,st,lo,fr,da,iv,ou⟩,h⟩:=h;obtain ⟨a,cap,hv,AG,hmax,hcells⟩:=h.inp;simp only at hv;subst hv;have HM:Hid (MAt B R c w0 w T ⟨cv,st,lo,fr,da,.slice a s.inp.length cap,ou⟩ s):=h;obtain ⟨-, -, -, -, -, -,c6, -, -, -, -, -, -,hf⟩:=h.cell;simp only at c6;have Bk:=h.ltR;have GS:=h.bin;unfold maxLen at hmax
 cases DB:s.inp with
 | nil=>
   have HP:Hid (Mc.next s = .ok 0 s):=by
    show Mc.next s=_
    have e:{ s with inp:=s.inp.tail }=s:=by rw [DB];cases s;simp_all
    unfold Mc.next
    rw [e,DB];rfl
   rw [DB] at c6;simp only [List.length_nil] at c6;clear h AG hcells GS DB;go_enter Tryz.func233,Tryz.ntmps233;go_wp2_with fail
   go_returns
   exact zap.ok HP.out rfl ⟨_,_,HM.out⟩
 | cons x r=>
   have HP:Hid (Mc.next s = .ok x { s with inp:=r }):=by
    show Mc.next s=_;unfold Mc.next
    rw [DB];rfl
   rw [DB] at c6 GS AG hcells
   rcases hcells with hc | ⟨b,off,rfl,hbB,hc⟩
   . cases hc
   have hx:w.cell? ⟨b,off,none⟩=some (.int .i64 x):=(h.below.cell (p:=⟨b,off,none⟩) hbB).trans (hc 0 (by simp))
   have HI:Hid (zl7 w0 B (.slice (some ⟨b,off+1,none⟩) r.length (cap - 1)) r):=by
    refine ⟨_,_,rfl,by simp at AG;omega,by unfold maxLen;omega,?_⟩
    cases r with
    | nil=>exact Or.inl rfl
    | cons y r=>exact Or.inr ⟨b,off+1,rfl,hbB,fun i hi=>by
     have:=hc (i+1) (by simp at hi ⊢;omega);rw [show off+(i+1)=off+1+i from by omega] at this
     simpa using this⟩
   simp only [List.length_cons] at c6 GS AG;generalize hr:r.length=n at *;have HR:Hid (r.length=n):=hr;clear h hc DB hr
   by_cases Bg:cap=1
   . subst Bg
     obtain rfl:n=0:=by omega
     have BA:r=[]:=List.eq_nil_of_length_eq_zero HR.out;subst BA;clear HI
     have HI:Hid (zl7 w0 B (.slice (some ⟨b,off,none⟩) 0 0) []):=⟨_,_,rfl,Nat.le_refl _,by unfold maxLen;omega,Or.inl rfl⟩
     go_enter Tryz.func233,Tryz.ntmps233;go_wp2_with fail
     go_returns
     exact zap.ok HP.out rfl ⟨_,_,HM.out.setIn _ _ HI.out (by simp)⟩
   . go_enter Tryz.func233,Tryz.ntmps233
     go_wp2_with fail
     go_returns
     exact zap.ok HP.out rfl ⟨_,_,HM.out.setIn _ _ HI.out (by rw [HR.out];omega)⟩
end Mx
set_option maxHeartbeats 800000
namespace Mx
open Go.RowKit
def InsFit (i:Mc.Ins):Prop:=fit64 i.a/\fit64 i.b
def ImgAt (w:World) (a:Option Addr) (code:List Mc.Ins):Prop:=
 code=[]\/∃ b off,a=some ⟨b,off,none⟩/\b<w.heap.size/\∀ i (h:i<code.length),
  w.cell? ⟨b,off+i*3,none⟩=some (.int .i64 code[i].op)/\w.cell? ⟨b,off+i*3+1,none⟩=some (.int .i64 code[i].a)/\w.cell? ⟨b,off+i*3+2,none⟩=some (.int .i64 code[i].b)
theorem ImgAt.later {w w':World} {a:Option Addr} {code:List Mc.Ins} (h:ImgAt w a code) (hb:Below w.heap.size w w'):ImgAt w' a code:=by
 rcases h with h | ⟨b,off,e,hl,h⟩
 . exact Or.inl h
 . exact Or.inr ⟨b,off,e,Nat.lt_of_lt_of_le hl hb.size,fun i hi=>⟨(hb.cell (p:=⟨b,off+i*3,none⟩) hl).trans (h i hi).1,(hb.cell (p:=⟨b,off+i*3+1,none⟩) hl).trans (h i hi).2.1,(hb.cell (p:=⟨b,off+i*3+2,none⟩) hl).trans (h i hi).2.2⟩⟩
theorem ImgAt.place {w:World} {a:Option Addr} {code:List Mc.Ins} (h:ImgAt w a code) {k:Nat} (hk:k<code.length):∃ b off,a=some ⟨b,off,none⟩/\b<w.heap.size/\
 w.cell? ⟨b,off+k*3,none⟩=some (.int .i64 code[k].op)/\w.cell? ⟨b,off+k*3+1,none⟩=some (.int .i64 code[k].a)/\w.cell? ⟨b,off+k*3+2,none⟩=some (.int .i64 code[k].b):=by
 rcases h with h | ⟨b,off,e,hl,h⟩
 . subst h;simp at hk
 . exact ⟨b,off,e,hl,h k hk⟩
def opB (i:Mc.Ins):Bool:=decide (1<=i.op)&&decide (i.op<=22)
def checkI (code:List Mc.Ins) (d:Int):Int:=
 if code.length<1\/2048<code.length then 2 else if code.all opB then (if d<0\/512<d then 3 else 0) else 4
theorem all_snoc {α:Type} (ts:List α) (p:α->Bool) (k:Nat) (h:k<ts.length):(ts.take (k+1)).all p=((ts.take k).all p&&p ts[k]):=by
 rw [List.take_succ_eq_append_getElem h,List.all_append];simp
theorem all_not {α:Type} (ts:List α) (p:α->Bool) (k:Nat) (h:k<ts.length) (hp:p ts[k]=false):ts.all p=false:=by
 rw [List.all_eq_false];exact ⟨ts[k],List.getElem_mem _,by simp [hp]⟩
theorem Check_any (a:Option Addr) (cap:Nat) (code:List Mc.Ins) (d:Int) (w:World) (hT:ImgAt w a code) (hl:code.length<=1000000000000000) :
 Calls Tryz.prog 46 #[.agg #[.slice a code.length cap,.int .i64 d]] w fun e w'=>e = .returned (.int .i64 (checkI code d))/\Below w.heap.size w w':=by
 have HT:Hid (ImgAt w a code):=hT;clear hT
 by_cases h1:code.length<1\/2048<code.length
 . have HF:Hid (checkI code d=2):=if_pos h1
   have D8:code.length<1\/1<=code.length/\2048<code.length:=by omega
   clear h1;generalize code.length=n at *
   rcases D8 with h1 | ⟨h1,h2⟩
   all_goals
    go_enter Tryz.func46,Tryz.ntmps46;go_wp2_with fail;go_ret;exact ⟨ret_int HF.out.symm,(Below.refl _ _).alloc (Nat.le_refl _) _⟩
 have Dw:¬ code.length<1:=fun h=>h1 (Or.inl h)
 have Dv:¬ 2048<code.length:=fun h=>h1 (Or.inr h)
 have H0:Hid (checkI code d=if code.all opB then (if d<0\/512<d then 3 else 0) else 4):=if_neg h1;clear h1;go_enter Tryz.func46,Tryz.ntmps46;go_wp2_with fail
 go_loopw [18,4] (fun i _ wr=>∃ k:Nat,k<=code.length/\i = .int .i64 k/\(code.take k).all opB=true/\Below (w.heap.size+1) (w.alloc (.cells #[.slice a code.length cap,.int .i64 d] 81)) wr) (fun i _ _=>code.length - (intOf i).toNat)
 case atStart=>exact ⟨0,Nat.zero_le _,rfl,rfl,Below.refl _ _⟩
 case round=>
  obtain ⟨k,hk,rfl,A6,hb⟩:=hrel;have HA:=hid A6;have HB:Hid (Below w.heap.size w wr):=((Below.refl _ _).alloc (Nat.le_refl _) _).trans (hb.mono (by omega));clear A6
  by_cases A0:k<code.length
  . obtain ⟨b,off,rfl,Au,c0,c1,c2⟩:=(HT.out.later HB.out).place A0
    have HS:=hid (all_snoc code opB k A0)
    by_cases BB:1<=code[k].op/\code[k].op<=22
    . obtain ⟨GA,ho2⟩:=BB
      have HO:Hid (opB code[k]=true):=by show opB code[k]=true;simp [opB,GA,ho2]
      go_wp2_with fail;go_roundw
      case rel=>exact ⟨k+1,by omega,by go_num,by rw [HS.out,HA.out,HO.out];rfl,hb.alloc (by have:=hb.size;simp at this;omega) _⟩
      case measure=>simp [intOf];omega
    . have HF:Hid (checkI code d=4):=by
       show checkI code d=4
       rw [H0.out,all_not code opB k A0 (by simp [opB];omega)];rfl
      by_cases CA:code[k].op<1
      . clear BB
        go_wp2_with fail;go_ret;exact ⟨ret_int HF.out.symm,HB.out.alloc HB.out.size _⟩
      . have F4:22<code[k].op:=by omega
        clear BB;go_wp2_with fail;go_ret;exact ⟨ret_int HF.out.symm,HB.out.alloc HB.out.size _⟩
  . have HO:Hid (checkI code d=if d<0\/512<d then 3 else 0):=by
     show checkI code d=_;have:=HA.out;rw [List.take_of_length_le (by omega)] at this
     rw [H0.out,this];rfl
    have cd:wr.cell? ⟨w.heap.size,1,none⟩=some (.int .i64 d):=(hb.cell (p:=⟨w.heap.size,1,none⟩) (by simp)).trans (by simp)
    by_cases hd:d<0
    . have HF:Hid (checkI code d=3):=HO.out.trans (if_pos (Or.inl hd))
      go_wp2_with fail;go_ret;exact ⟨ret_int HF.out.symm,HB.out⟩
    . by_cases Df:512<d
      . have HF:Hid (checkI code d=3):=HO.out.trans (if_pos (Or.inr Df))
        go_wp2_with fail;go_ret;exact ⟨ret_int HF.out.symm,HB.out⟩
      . have HF:Hid (checkI code d=0):=HO.out.trans (if_neg (by omega))
        go_wp2_with fail;go_ret;exact ⟨ret_int HF.out.symm,HB.out⟩
def errR (code:List Mc.Ins) (d:Int) (n:Nat) (ticks steps:Int):Int:=
 if checkI code d≠0 then checkI code d else if 64<n then 2 else if ticks<0\/2000<ticks\/steps<0\/134217728<steps then 3 else 0
theorem zpi (a:Option Addr) (cap:Nat) (code:List Mc.Ins) (d:Int) (ia:Option Addr) (n Bx:Nat) (ticks steps:Int) (w:World) (hT:ImgAt w a code) (hl:code.length<=1000000000000000) (hn:n<=1000000000000000) :
 Calls Tryz.prog 109 #[.agg #[.slice a code.length cap,.int .i64 d],.slice ia n Bx,.int .i64 ticks,.int .i64 steps] w fun e w'=>e = .returned (.int .i64 (errR code d n ticks steps))/\Below w.heap.size w w':=by
 have HT:Hid (ImgAt w a code):=hT
 have HC:Hid (∀ w:World,ImgAt w a code->Calls Tryz.prog 46 #[.agg #[.slice a code.length cap,.int .i64 d]] w fun e w'=>e = .returned (.int .i64 (checkI code d))/\Below w.heap.size w w'):=fun w h=>Check_any a cap code d w h hl
 have HE:Hid (errR code d n ticks steps=if checkI code d≠0 then checkI code d else if 64<n then 2 else if ticks<0\/2000<ticks\/steps<0\/134217728<steps then 3 else 0):=rfl;clear hT;generalize errR code d n ticks steps=E at *;generalize checkI code d=C at *
 by_cases hc:C=0
 . subst hc
   by_cases OL:64<n
   . have HF:Hid (E=2):=HE.out.trans ((if_neg (by simp)).trans (if_pos OL))
     go_enter Tryz.func109,Tryz.ntmps109;go_wp2_with fail;refine (HC.out _ (HT.out.later ((Below.refl _ _).alloc (Nat.le_refl _) _))).mono ?_;rintro e w1 ⟨rfl,hb⟩;go_wp2_with fail;go_ret;exact ⟨ret_int HF.out.symm,((Below.refl _ _).alloc (Nat.le_refl _) _).trans (hb.mono (by simp))⟩
   . have HF:Hid (E=if ticks<0\/2000<ticks\/steps<0\/134217728<steps then 3 else 0):=HE.out.trans ((if_neg (by simp)).trans (if_neg OL))
     by_cases hr:ticks<0\/2000<ticks\/steps<0\/134217728<steps
     . have Eb:Hid (E=3):=HF.out.trans (if_pos hr)
       have Q2:ticks<0\/(¬ ticks<0/\2000<ticks)\/(¬ ticks<0/\¬ 2000<ticks/\steps<0)\/(¬ ticks<0/\¬ 2000<ticks/\¬ steps<0/\134217728<steps):=by omega
       clear hr
       rcases Q2 with h1 | ⟨h1,h2⟩ | ⟨h1,h2,h3⟩ | ⟨h1,h2,h3,h4⟩
       all_goals
        go_enter Tryz.func109,Tryz.ntmps109;go_wp2_with fail;refine (HC.out _ (HT.out.later ((Below.refl _ _).alloc (Nat.le_refl _) _))).mono ?_;rintro e w1 ⟨rfl,hb⟩;go_wp2_with fail;go_ret;exact ⟨ret_int Eb.out.symm,((Below.refl _ _).alloc (Nat.le_refl _) _).trans (hb.mono (by simp))⟩
     . have Eb:Hid (E=0):=HF.out.trans (if_neg hr)
       have h1:¬ ticks<0:=by omega
       have h2:¬ 2000<ticks:=by omega
       have h3:¬ steps<0:=by omega
       have h4:¬ 134217728<steps:=by omega
       clear hr;go_enter Tryz.func109,Tryz.ntmps109;go_wp2_with fail;refine (HC.out _ (HT.out.later ((Below.refl _ _).alloc (Nat.le_refl _) _))).mono ?_;rintro e w1 ⟨rfl,hb⟩;go_wp2_with fail;go_ret;exact ⟨ret_int Eb.out.symm,((Below.refl _ _).alloc (Nat.le_refl _) _).trans (hb.mono (by simp))⟩
 . have HF:Hid (E=C):=HE.out.trans (if_pos hc)
   have Io:(C != 0)=true:=by rw [bne_iff_ne];exact hc
   clear hc;go_enter Tryz.func109,Tryz.ntmps109;go_wp2_with fail;refine (HC.out _ (HT.out.later ((Below.refl _ _).alloc (Nat.le_refl _) _))).mono ?_;rintro e w1 ⟨rfl,hb⟩;go_wp2_with fail;go_ret;exact ⟨ret_int HF.out.symm,((Below.refl _ _).alloc (Nat.le_refl _) _).trans (hb.mono (by simp))⟩
end Mx
namespace Mx
open Go.RowKit
def zb9 (d:Nat) (inp:List Int):Mc.St:={ pc:=0,stack:=[],gs:=[],lo:=[],bk:=0,data:=List.replicate d 0,inp:=inp,out:=[],ticks:=0,steps:=0,en:=0 }
def zer (d:Nat):Array Value:=madeCells #[.int .i64 0] d
theorem zz4 (d:Nat):(zer d).size=d:=size_madeCells _ _
theorem zz5 (d:Nat):(zer d).toList=ints (List.replicate d 0):=by
 apply List.ext_getElem?
 intro i
 by_cases h:i<d
 . simp [zer,madeCells,ints,h,Nat.mod_one]
 . simp [zer,madeCells,ints,h]
theorem zz6:(Tryz.prog.info? 3).map (fun i=>(i.zero,i.size,i.bytes))=some (some (.int .i64 0),1,8):=by kernel_rfl
theorem zz7 (d:Nat) (hd:d<=512) (w:World):(Instr.makeSlice 49 (.int .i64 (d:Int)) (.int .i64 (d:Int))).run Tryz.prog w = .ok (.slice (some ⟨w.heap.size,0,none⟩) d d) (w.alloc (.cells (zer d) 3)):=by
 obtain ⟨i0,hi,Bs,Ao,AA⟩:=info_parts zz6;have:=run_make (P:=Tryz.prog) w 49 3 i0 _ Tryz.underlying49 hi Bs .i64 .i64 (d:Int) (d:Int) (by omega) (by omega) (by rw [AA];omega) (by omega);rw [this,Ao,Nat.mul_one,Int.toNat_natCast]
 rfl
theorem zz8 {w W:World} {R bf bd d:Nat} {cv iv:Value} {c:Mc.Cfg} {inp:List Int} (hb:Below w.heap.size w W) (hR:w.heap.size<=R) (hf:w.heap.size<=bf) (Im:w.heap.size<=bd) (h1:R≠bf) (h2:R≠bd) (h3:bf≠bd)
 (kR:W.heap[R]? = some (.cells #[cv,.int .i64 0,.slice none 0 0,.slice none 0 0,.slice (some ⟨bf,0,none⟩) 1 1,.slice (some ⟨bd,0,none⟩) d d,iv,.slice none 0 0,.int .i64 c.mt,.int .i64 0,.int .i64 c.ms,.int .i64 0,.int .i64 0] 168 (0,0)))
 (kf:W.heap[bf]? = some (.cells #[.int .i64 0,.int .i64 0] 231 (0,0))) (kd:W.heap[bd]? = some (.cells (zer d) 3 (0,0)))
 (hc:CfgOk c) (Ct:zwy w w.heap.size cv c.code) (hi:zl7 w w.heap.size iv inp) (DB:inp.length<=64) (hd:d<=512) (ht:0<=c.mt) (hs:0<=c.ms) :
 MAt w.heap.size R c w W (fun k=>if k=R then 1 else if k=bf then 4 else if k=bd then 5 else 9) ⟨cv,.slice none 0 0,.slice none 0 0,.slice (some ⟨bf,0,none⟩) 1 1,.slice (some ⟨bd,0,none⟩) d d,iv,.slice none 0 0⟩ (zb9 d inp) where
 blk:=kR
 hR:=hR
 tR:=if_pos rfl
 st:=⟨World.ownsRow_nil _ _ _ _,fun k e=>by cases e⟩
 lo:=⟨World.ownsRow_nil _ _ _ _,fun k e=>by cases e⟩
 fr:=⟨⟨rfl,Or.inr ⟨bf,1,_,rfl,hf,kf,Nat.le_refl _,by unfold maxLen;omega,rfl,rfl⟩⟩,fun k e=>by
  have e:bf=k:=by simpa [Value.ownBlock] using e
  subst e;show (if bf=R then 1 else if bf=bf then 4 else if bf=bd then 5 else 9)=4
  rw [if_neg (Ne.symm h1),if_pos rfl]⟩
 da:=⟨⟨by rw [zce,Nat.mul_one],Or.inr ⟨bd,d,_,by simp [zb9],Im,kd,by simp [zb9],by unfold maxLen;omega,by rw [zz4,Nat.mul_one],by
  rw [Nat.mul_one,zz5]
  exact List.take_of_length_le (by rw [zce];exact Nat.le_refl _)⟩⟩,fun k e=>by
  have e:bd=k:=by simpa [Value.ownBlock] using e
  subst e;show (if bd=R then 1 else if bd=bf then 4 else if bd=bd then 5 else 9)=5
  rw [if_neg (Ne.symm h2),if_neg (Ne.symm h3),if_pos rfl]⟩
 ou:=⟨World.ownsRow_nil _ _ _ _,fun k e=>by cases e⟩
 below:=hb
 cfg:=hc
 code:=Ct
 inp:=hi
 bst:=by simp [zb9]
 bgs:=by simp [zb9]
 bfr:=fun f hf=>by simp [zb9] at hf
 blo:=by simp [zb9]
 bda:=by simp [zb9];exact hd
 bou:=by simp [zb9]
 bin:=DB
 tk:=⟨Int.le_refl _,ht⟩
 sp:=⟨Int.le_refl _,hs⟩
theorem zs6 (w:World) (o1 o2 o3 o4:Obj):((((w.alloc o1).alloc o2).alloc o3).alloc o4).drew.heap[w.heap.size+1]? = some o2/\((((w.alloc o1).alloc o2).alloc o3).alloc o4).drew.heap[w.heap.size+1+1]? = some o3/\((((w.alloc o1).alloc o2).alloc o3).alloc o4).drew.heap[w.heap.size+1+1+1]? = some o4/\Below w.heap.size w ((((w.alloc o1).alloc o2).alloc o3).alloc o4).drew:=by
 have e:∀ (v:World) (o:Obj),(v.alloc o).heap=v.heap.push o:=fun _ _=>rfl
 have e2:∀ v:World,v.drew.heap=v.heap:=fun _=>rfl
 refine ⟨?_,?_,?_,((((Below.refl _ _).alloc (Nat.le_refl _) _).alloc (by simp) _).alloc (by simp;omega) _).alloc (by simp;omega) _ |>.drew⟩
 . simp only [e,e2,Array.getElem?_push,Array.size_push]
   rw [if_neg (by omega),if_neg (by omega),if_pos trivial]
 . simp only [e,e2,Array.getElem?_push,Array.size_push]
   rw [if_neg (by omega),if_pos trivial]
 . simp only [e,e2,Array.getElem?_push,Array.size_push]
   rw [if_pos trivial]
theorem z3n (a ia:Option Addr) (cap n m Bx d:Nat) (c:Mc.Cfg) (inp:List Int) (w:World) (hd:d<=512)
 (hc:CfgOk c) (Ct:zwy w w.heap.size (.slice a n cap) c.code) (hi:zl7 w w.heap.size (.slice ia m Bx) inp) (DB:inp.length<=64) (ht:0<=c.mt) (hs:0<=c.ms) :
 Calls Tryz.prog 110 #[.agg #[.slice a n cap,.int .i64 d],.slice ia m Bx,.int .i64 c.mt,.int .i64 c.ms] w fun e w'=>∃ R T v,e = .returned (.pointer (some ⟨R,0,none⟩))/\MAt w.heap.size R c w w' T v (zb9 d inp):=by
 have Dx:=zz7 d hd
 have HS:Hid (∀ (W:World) (R bf bd:Nat),Below w.heap.size w W->w.heap.size<=R->w.heap.size<=bf->w.heap.size<=bd->R≠bf->R≠bd->bf≠bd->
  W.heap[R]? = some (.cells #[.slice a n cap,.int .i64 0,.slice none 0 0,.slice none 0 0,.slice (some ⟨bf,0,none⟩) 1 1,.slice (some ⟨bd,0,none⟩) d d,.slice ia m Bx,.slice none 0 0,.int .i64 c.mt,.int .i64 0,.int .i64 c.ms,.int .i64 0,.int .i64 0] 168 (0,0))->
  W.heap[bf]? = some (.cells #[.int .i64 0,.int .i64 0] 231 (0,0))->W.heap[bd]? = some (.cells (zer d) 3 (0,0))->∃ T v,MAt w.heap.size R c w W T v (zb9 d inp)):=fun W R bf bd h1 h2 h3 h4 h5 h6 h7 h8 h9 DG=>⟨_,_,zz8 h1 h2 h3 h4 h5 h6 h7 h8 h9 DG hc Ct hi DB hd ht hs⟩
 clear hc Ct hi DB ht hs;go_enter Tryz.func110,Tryz.ntmps110;go_wp2_with fail
 go_region
 all_goals
  go_wp2_with fail
  go_returns
 . obtain ⟨k1,k2,k3,kb⟩:=zs6 w (.cells #[.slice a n cap,.int .i64 (d:Int)] 81) (.cells #[.int .i64 0,.int .i64 0] 231) (.cells (zer d) 3) (.cells #[.slice a n cap,.int .i64 0,.slice none 0 0,.slice none 0 0,.slice (some ⟨w.heap.size+1,0,none⟩) 1 1,.slice (some ⟨w.heap.size+1+1,0,none⟩) d d,.slice ia m Bx,.slice none 0 0,.int .i64 c.mt,.int .i64 0,.int .i64 c.ms,.int .i64 0,.int .i64 0] 168)
   obtain ⟨T,v,h⟩:=HS.out _ (w.heap.size+1+1+1) (w.heap.size+1) (w.heap.size+1+1) kb (by omega) (by omega) (by omega) (by omega) (by omega) (by omega) k3 k1 k2;exact ⟨_,T,v,rfl,h⟩
 . obtain ⟨k1,k2,k3,kb⟩:=zs6 w (.cells #[.slice a n cap,.int .i64 (d:Int)] 81) (.cells (zer d) 3) (.cells #[.int .i64 0,.int .i64 0] 231) (.cells #[.slice a n cap,.int .i64 0,.slice none 0 0,.slice none 0 0,.slice (some ⟨w.heap.size+1+1,0,none⟩) 1 1,.slice (some ⟨w.heap.size+1,0,none⟩) d d,.slice ia m Bx,.slice none 0 0,.int .i64 c.mt,.int .i64 0,.int .i64 c.ms,.int .i64 0,.int .i64 0] 168)
   obtain ⟨T,v,h⟩:=HS.out _ (w.heap.size+1+1+1) (w.heap.size+1+1) (w.heap.size+1) kb (by omega) (by omega) (by omega) (by omega) (by omega) (by omega) k3 k2 k1;exact ⟨_,T,v,rfl,h⟩
end Mx
end Go.Proofs.YtndkhgakfodldaaGreatDoor
