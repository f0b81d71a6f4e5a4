/-
  The reference's items of a module.
-/
import Derived.Test.YtndkhgakfodldaaGreatDoorUn
import Derived.Test.YtndkhgakfodldaaGreatDoorUi
import Derived.Deep.RegionHeldLaw
import Derived.BigRegion
namespace Go.Proofs.YtndkhgakfodldaaGreatDoor
set_option maxRecDepth 100000
set_option maxHeartbeats 6400000
open Go.RowKit Go.Maps Go.WideMaps
set_option linter.unusedSimpArgs false
set_option linter.unusedVariables false
def Apt (v u:Value):Prop:=∀ k,v.ownBlock=some k->u.ownBlock≠some k
theorem Apt.symm {v u:Value} (h:Apt v u):Apt u v:=fun k h1 h2=>h k h2 h1
theorem Apt.nil (u:Value):Apt (.slice none 0 0) u:=fun k h=>by simp [Value.ownBlock] at h
theorem append_two {P:Program} {ops:Array Oper} {rest:List Oper} {o:Oper} {a:Act} {Q:Exit->Act->World->Prop} (hgd:o.guard=none) (s x:Operand) (t:TypeId)
 (ho:o.op = .call { callee:=.builtin .append,args:=#[s,x],argTypes:=#[t,t] }) (base:Nat) (e:TypeId) (z:Value) (size bytes:Nat) (ht:P.underlying t=some (.slice e))
 (hi:(P.info? e).map (fun i=>(i.zero,i.size,i.bytes))=some (some z,size,bytes)) (hzs:z.cells.size=size) (hsz:0<size) (w:World) (v:Value) (n:Nat) (xs:List Value) (hs:a.eval s=v) (hrow:w.ownsRow base e size v n xs)
 (cs:Array Value) (H:Nat) (hH:H=w.heap.size) (hx:a.eval x = .slice (some ⟨H,0,none⟩) 1 1) (hcs:cs.size=size) (h1:∀ u ∈ cs.toList,u.oneCell'=true)
 (hn:n<=2000000) (hby:bytes<=200) (hbase:base<=w.heap.size)
 (h:∀ g cap w',w'.ownsRow base e size (.slice (some ⟨g,0,none⟩) (n+1) cap) (n+1) (xs++cs.toList)->Below base w w'->w.heap.size<w'.heap.size->
   (∀ (b2:Nat) (e2:TypeId) (z2 n2:Nat) (u:Value) (ys:List Value),w.ownsRow b2 e2 z2 u n2 ys->Apt u v->w'.ownsRow b2 e2 z2 u n2 ys/\Apt u (.slice (some ⟨g,0,none⟩) (n+1) cap))->(∀ (b:Nat) (x:Obj),w.heap[b]? = some x->v.ownBlock≠some b->w'.heap[b]? = some x)->
   wpList P ops Q rest (a.put o.dst (.slice (some ⟨g,0,none⟩) (n+1) cap)) w') :
 wpList P ops Q (o :: rest) a (w.alloc (.cells cs e)):=by
 obtain ⟨i0,hi,hz0,hz1,hz2⟩:=info_parts hi
 have hsize:(w.alloc (.cells cs e)).heap.size=w.heap.size+1:=by simp
 refine wpList_append_lies (w.alloc (.cells cs e)) hgd s x t ho base e i0 z size bytes ht hi hz0 hz1 hz2 hzs hsz v n xs hs (hrow.alloc _) ⟨H,0,none⟩ 1 1 cs.toList hx (by simp [hcs]) ?_ h1 (by omega) (by unfold maxLen;omega) ?_ (by omega) _ rfl ?_
 . intro j u hj
   subst hH
   have:(⟨w.heap.size,0,none⟩:Addr).add j=⟨w.heap.size,j,none⟩:=by unfold Addr.add;split<;>simp_all
   rw [this,Lib.cell_of_heap (heap_newP w _)];simpa using hj
 . have:(n+1)*bytes<=2000001*200:=Nat.mul_le_mul (by omega) hby
   omega
 . intro g cap w' hown' hgrow hat hlt
   have hbel:Below base w w':=((Below.refl base w).alloc hbase _).grown hgrow (by omega) (fun k hk=>(hrow.lt k hk).1);have hgz:=hgrow.size;refine h g cap w' hown' hbel (by omega) (fun b2 e2 z2 n2 u ys hu hap=>?_) (fun b x hb hne=>?_)
   . refine ⟨(hu.alloc _).kept hgrow ?_,fun k hk hg=>?_⟩
     . cases hk:u.ownBlock with
       | none=>exact Or.inl rfl
       | some k=>exact Or.inr (fun e=>hap k hk e.symm)
     . have hlt2:=(hu.lt k hk).2
       simp only [Value.ownBlock,Option.some.injEq] at hg
       rcases hat with h1 | h1
       . exact hap k hk (by rw [h1,hg])
       . omega
   . have hb':(w.alloc (.cells cs e)).heap[b]? = some x:=heap_old hb
     exact (hgrow.block b (lt_of_heap hb') (fun e=>hne e.symm)).trans hb'
def BoolsAt (w:World) (a:Option Addr) (l:List Bool):Prop:=l=[]\/∃ b off,a=some ⟨b,off,none⟩/\b<w.heap.size/\∀ i (h:i<l.length),w.cell? ⟨b,off+i,none⟩=some (.bool l[i])
theorem BoolsAt.later {w w':World} {a:Option Addr} {l:List Bool} (h:BoolsAt w a l) (hb:Below w.heap.size w w'):BoolsAt w' a l:=by
 rcases h with h | ⟨b,off,e,hl,h⟩
 . exact Or.inl h
 . exact Or.inr ⟨b,off,e,Nat.lt_of_lt_of_le hl hb.size,fun i hi=>(hb.cell (p:=⟨b,off+i,none⟩) hl).trans (h i hi)⟩
theorem BoolsAt.place {w:World} {a:Option Addr} {l:List Bool} (h:BoolsAt w a l) {k:Nat} (hk:k<l.length):∃ b off,a=some ⟨b,off,none⟩/\b<w.heap.size/\w.cell? ⟨b,off+k,none⟩=some (.bool l[k]):=by
 rcases h with h | ⟨b,off,e,hl,h⟩
 . subst h;simp at hk
 . exact ⟨b,off,e,hl,h k hk⟩
end Go.Proofs.YtndkhgakfodldaaGreatDoor

namespace Go.Proofs.YtndkhgakfodldaaGreatDoor
set_option maxRecDepth 100000
open Go.RowKit Go.Maps Go.WideMaps
set_option linter.unusedSimpArgs false
set_option linter.unusedVariables false
structure Gi where
 op:Int
 a:Int
 b:Int
structure Gf where
 at_:Int
 kind:Int
 m:Int
structure Wrt where
 code:List Gi
 fixes:List Gf
def putW (op a b:Int) (s:Wrt):Wrt:=⟨s.code++[⟨op,a,b⟩],s.fixes⟩
def fixW (kind m:Int) (i:Gi) (s:Wrt):Wrt:=⟨s.code++[i],s.fixes++[⟨s.code.length,kind,m⟩]⟩
def jmpW (op t:Int) (s:Wrt):Wrt:=fixW 1 0 ⟨op,t,0⟩ s
def setA (x:Int) (i:Gi):Gi:=⟨i.op,x,i.b⟩
def landW (k:Nat) (s:Wrt):Wrt:=⟨s.code.modify k (setA s.code.length),s.fixes⟩
def fullW (s:Wrt):Bool:=decide (2048<s.code.length)
def andW (f g:Wrt->Wrt) (s:Wrt):Wrt:=
 let s1:=f s
 let s4:=putW 22 0 0 (g (jmpW 12 0 s1))
 landW s4.code.length (putW 1 0 0 (landW s1.code.length (jmpW 11 0 s4)))
def orW (f g:Wrt->Wrt) (s:Wrt):Wrt:=
 let s1:=f s
 let s3:=putW 1 1 0 (jmpW 12 0 s1)
 landW s3.code.length (putW 22 0 0 (g (landW s1.code.length (jmpW 11 0 s3))))
def nd0:Nd:=⟨0,0,0,0,[]⟩
def argN (l:List Nd) (i:Nat):Nd:=l.getD i nd0
def ndsW (f:Nd->Wrt->Wrt) (l:List Nd) (s:Wrt):Wrt:=l.foldl (fun s y=>f y s) s
def idxW (f:Wrt->Wrt) (n m at_:Int) (s:Wrt):Wrt:=fixW 3 m ⟨6,at_,n⟩ (f s)
def callW (f:Wrt->Wrt) (m at_:Int) (s:Wrt):Wrt:=fixW 2 m ⟨13,at_,0⟩ (f s)
def ndW:Nat->Nd->Wrt->Wrt
 | 0,_,s=>s
 | k+1,x,s=>
   if x.op=1 then putW 1 x.n 0 s
   else if x.op=2 then putW 18 0 0 s
   else if x.op=16 then putW 2 x.at_ 0 s
   else if x.op=3 then fixW 3 x.m ⟨4,x.at_,0⟩ s
   else if x.op=4 then putW 7 0 0 (idxW (ndW k (argN x.args 0)) x.n x.m x.at_ s)
   else if x.op=5 then callW (ndsW (ndW k) x.args) x.m x.at_ s
   else if x.op=6 then putW 9 0 0 (ndW k (argN x.args 0) s)
   else if x.op=7 then andW (ndW k (argN x.args 0)) (ndW k (argN x.args 1)) s
   else if x.op=8 then orW (ndW k (argN x.args 0)) (ndW k (argN x.args 1)) s
   else putW 10 x.op 0 (ndsW (ndW k) x.args s)
def blkW (f:Ac->Wrt->Wrt) (l:List Ac) (s:Wrt):Wrt:=l.foldl (fun s y=>if fullW s=true then s else f y s) s
def setW (f:Wrt->Wrt) (m at_:Int) (s:Wrt):Wrt:=if m = -1 then putW 3 at_ 0 (f s) else fixW 3 m ⟨5,at_,0⟩ (f s)
def brW (f g h:Wrt->Wrt) (e:Bool) (s:Wrt):Wrt:=
 let s1:=f s
 let s2:=g (jmpW 12 0 s1)
 if e=true then landW s1.code.length s2
 else landW s2.code.length (h (landW s1.code.length (jmpW 11 0 s2)))
def whW (f g:Wrt->Wrt) (s:Wrt):Wrt:=
 let s1:=f s
 landW s1.code.length (jmpW 11 s.code.length (g (putW 16 0 0 (jmpW 12 0 s1))))
def acW:Nat->Ac->Wrt->Wrt
 | 0,_,s=>s
 | k+1,a,s=>
   if a.op=1 then setW (ndW 6 (argN a.args 0)) a.m a.at_ s
   else if a.op=2 then putW 8 0 0 (ndW 6 (argN a.args 1) (idxW (ndW 6 (argN a.args 0)) a.n a.m a.at_ s))
   else if a.op=3 then putW 17 0 0 (callW (ndsW (ndW 6) a.args) a.m a.at_ s)
   else if a.op=4 then brW (ndW 6 (argN a.args 0)) (blkW (acW k) a.body) (blkW (acW k) a.other) a.other.isEmpty s
   else if a.op=5 then whW (ndW 6 (argN a.args 0)) (blkW (acW k) a.body) s
   else if a.op=6 then putW 15 0 0 (ndW 6 (argN a.args 0) s)
   else if a.op=7 then putW 19 0 0 (ndW 6 (argN a.args 0) s)
   else s
def bodyW (p:Pt) (s:Wrt):Wrt:=putW 15 0 0 (putW 1 0 0 (blkW (acW 6) p.body (putW 14 p.params p.locals s)))
def Mono (f:Wrt->Wrt):Prop:=∀ s,s.code.length<=(f s).code.length
theorem putW_len (op a b:Int) (s:Wrt):(putW op a b s).code.length=s.code.length+1:=by simp [putW]
theorem fixW_len (k m:Int) (i:Gi) (s:Wrt):(fixW k m i s).code.length=s.code.length+1:=by simp [fixW]
theorem jmpW_len (op t:Int) (s:Wrt):(jmpW op t s).code.length=s.code.length+1:=fixW_len ..
theorem landW_len (k:Nat) (s:Wrt):(landW k s).code.length=s.code.length:=by simp [landW]
theorem ndsW_mono {f:Nd->Wrt->Wrt} (hf:∀ x,Mono (f x)):∀ l,Mono (ndsW f l)
 | [],s=>Nat.le_refl _
 | x :: r,s=>Nat.le_trans (hf x s) (ndsW_mono hf r (f x s))
theorem blkW_mono {f:Ac->Wrt->Wrt} (hf:∀ x,Mono (f x)):∀ l,Mono (blkW f l)
 | [],s=>Nat.le_refl _
 | x :: r,s=>by
   show _<=(blkW f r (if fullW s=true then s else f x s)).code.length;refine Nat.le_trans ?_ (blkW_mono hf r _);split
   . exact Nat.le_refl _
   . exact hf x s
theorem andW_mono {f g:Wrt->Wrt} (hf:Mono f) (hg:Mono g):Mono (andW f g):=fun s=>by
 have h1:=hf s;have h2:=hg (jmpW 12 0 (f s));simp only [andW,landW_len,putW_len,jmpW_len] at h2 ⊢;omega
theorem orW_mono {f g:Wrt->Wrt} (hf:Mono f) (hg:Mono g):Mono (orW f g):=fun s=>by
 have h1:=hf s;have h2:=hg (landW (f s).code.length (jmpW 11 0 (putW 1 1 0 (jmpW 12 0 (f s)))));simp only [orW,landW_len,putW_len,jmpW_len] at h2 ⊢;omega
theorem ndW_mono:∀ k x,Mono (ndW k x)
 | 0,_,s=>Nat.le_refl _
 | k+1,x,s=>by
   have ih:=fun y=>ndW_mono k y
   have h1:=ih (argN x.args 0) s;have h2:=ndsW_mono ih x.args s;have h3:=andW_mono (ih (argN x.args 0)) (ih (argN x.args 1)) s;have h4:=orW_mono (ih (argN x.args 0)) (ih (argN x.args 1)) s;unfold ndW
   repeat' split
   all_goals first | assumption | (simp only [putW_len,fixW_len,idxW,callW];omega)
theorem brW_mono {f g h:Wrt->Wrt} (hf:Mono f) (hg:Mono g) (hh:Mono h) (e:Bool):Mono (brW f g h e):=fun s=>by
 have h1:=hf s;have h2:=hg (jmpW 12 0 (f s));have h3:=hh (landW (f s).code.length (jmpW 11 0 (g (jmpW 12 0 (f s)))));simp only [brW,landW_len,putW_len,jmpW_len] at h2 h3 ⊢
 split<;>simp only [landW_len]<;>omega
theorem whW_mono {f g:Wrt->Wrt} (hf:Mono f) (hg:Mono g):Mono (whW f g):=fun s=>by
 have h1:=hf s;have h2:=hg (putW 16 0 0 (jmpW 12 0 (f s)));simp only [whW,landW_len,putW_len,jmpW_len] at h2 ⊢;omega
theorem setW_mono {f:Wrt->Wrt} (hf:Mono f) (m at_:Int):Mono (setW f m at_):=fun s=>by
 have h1:=hf s;unfold setW
 split<;>simp only [putW_len,fixW_len]<;>omega
theorem acW_mono:∀ k x,Mono (acW k x)
 | 0,_,s=>Nat.le_refl _
 | k+1,x,s=>by
   have ih:=fun y=>acW_mono k y
   have n0:=ndW_mono 6 (argN x.args 0);have h1:=n0 s;have h2:=setW_mono n0 x.m x.at_ s;have h3:=ndW_mono 6 (argN x.args 1) (idxW (ndW 6 (argN x.args 0)) x.n x.m x.at_ s);have h4:=ndsW_mono (ndW_mono 6) x.args s;have h5:=brW_mono n0 (blkW_mono ih x.body) (blkW_mono ih x.other) x.other.isEmpty s;have h6:=whW_mono n0 (blkW_mono ih x.body) s;unfold acW
   repeat' split
   all_goals first | assumption | (simp only [putW_len,fixW_len,idxW,callW] at h3 ⊢;omega)
theorem blkW_full (f:Ac->Wrt->Wrt):∀ (l:List Ac) (s:Wrt),fullW s=true->blkW f l s=s
 | [],s,_=>rfl
 | x :: r,s,h=>by
   show blkW f r (if fullW s=true then s else f x s)=s;rw [if_pos h];exact blkW_full f r s h
theorem ndsW_take (f:Nd->Wrt->Wrt) (l:List Nd) (s:Wrt) (j:Nat) (h:j<l.length):ndsW f (l.take (j+1)) s=f l[j] (ndsW f (l.take j) s):=by
 rw [List.take_succ_eq_append_getElem h];unfold ndsW;rw [List.foldl_append]
 rfl
theorem blkW_take (f:Ac->Wrt->Wrt) (l:List Ac) (s:Wrt) (j:Nat) (h:j<l.length) (hn:fullW (blkW f (l.take j) s)=false):blkW f (l.take (j+1)) s=f l[j] (blkW f (l.take j) s):=by
 rw [List.take_succ_eq_append_getElem h];unfold blkW at hn ⊢;rw [List.foldl_append];simp only [List.foldl_cons,List.foldl_nil];rw [if_neg (by rw [hn];decide)]
theorem blkW_stop (f:Ac->Wrt->Wrt) (l:List Ac) (s:Wrt) (j:Nat) (hn:fullW (blkW f (l.take j) s)=true):blkW f l s=blkW f (l.take j) s:=by
 have:=blkW_full f (l.drop j) (blkW f (l.take j) s) hn;rw [← this];unfold blkW;rw [← List.foldl_append,List.take_append_drop]
theorem ndsW_le (f:Nd->Wrt->Wrt) (hf:∀ x,Mono (f x)) (l:List Nd) (s:Wrt) (j:Nat):(ndsW f (l.take j) s).code.length<=(ndsW f l s).code.length:=by
 have:=ndsW_mono hf (l.drop j) (ndsW f (l.take j) s);unfold ndsW at this ⊢;rwa [← List.foldl_append,List.take_append_drop] at this
theorem blkW_le (f:Ac->Wrt->Wrt) (hf:∀ x,Mono (f x)) (l:List Ac) (s:Wrt) (j:Nat):(blkW f (l.take j) s).code.length<=(blkW f l s).code.length:=by
 have:=blkW_mono hf (l.drop j) (blkW f (l.take j) s);unfold blkW at this ⊢;rwa [← List.foldl_append,List.take_append_drop] at this
theorem argN_get (l:List Nd) (i:Nat) (h:i<l.length):argN l i=l[i]:=by simp [argN,List.getD_eq_getElem?_getD,List.getElem?_eq_getElem h]
def giV (i:Gi):List Value:=[.int .i64 i.op,.int .i64 i.a,.int .i64 i.b]
def gisV (l:List Gi):List Value:=l.flatMap giV
def gfV (f:Gf):List Value:=[.int .i64 f.at_,.int .i64 f.kind,.int .i64 f.m]
def gfsV (l:List Gf):List Value:=l.flatMap gfV
theorem gisV_snoc (l:List Gi) (i:Gi):gisV (l++[i])=gisV l++giV i:=by simp [gisV]
theorem gfsV_snoc (l:List Gf) (i:Gf):gfsV (l++[i])=gfsV l++gfV i:=by simp [gfsV]
theorem gisV_set:∀ (l:List Gi) (k:Nat) (x:Int),k<l.length->gisV (l.modify k (setA x))=(gisV l).set (k*3+1) (.int .i64 x)
 | [],k,_,h=>by simp at h
 | i :: r,0,x,_=>by simp [gisV,giV,setA]
 | i :: r,k+1,x,h=>by
   have:=gisV_set r k x (by simpa using h);simp only [gisV,List.modify_succ_cons,List.flatMap_cons] at this ⊢;rw [this,show (k+1)*3+1=(giV i).length+(k*3+1) from by simp [giV];omega,List.set_append_right _ _ (by omega),Nat.add_sub_cancel_left]
theorem gisV_get (l:List Gi) (k:Nat) (h:k<l.length):(gisV l)[k*3+1]? = some (.int .i64 l[k].a):=by
 induction l generalizing k with
 | nil=>simp at h
 | cons x r ih=>
   cases k with
   | zero=>rfl
   | succ k=>
     have:=ih k (by simpa using h);simp only [gisV,List.flatMap_cons,List.getElem_cons_succ] at this ⊢;rw [List.getElem?_append_right (by simp [giV];omega),show (k+1)*3+1 - (giV x).length=k*3+1 from by simp [giV];omega];exact this
theorem gi_one (i:Gi):∀ u ∈ giV i,u.oneCell'=true:=by simp [giV];exact ⟨rfl,rfl,rfl⟩
theorem gf_one (i:Gf):∀ u ∈ gfV i,u.oneCell'=true:=by simp [gfV];exact ⟨rfl,rfl,rfl⟩
end Go.Proofs.YtndkhgakfodldaaGreatDoor

namespace Go.Proofs.YtndkhgakfodldaaGreatDoor
set_option maxRecDepth 100000
set_option maxHeartbeats 8000000
open Go.RowKit Go.Maps Go.WideMaps
set_option linter.unusedSimpArgs false
theorem step_append_strs {ops:Array Oper} {o:Oper} {a:Act} {K:Act->World->Prop} {Q:Exit->Act->World->Prop} {E:Prop} {w:World} (hgd:o.guard=none) (s x:Operand)
 (ho:o.op = .call { callee:=.builtin .append,args:=#[s,x],argTypes:=#[22,22] }) (us:List ByteArray) (b:Option Addr) (c:Nat) (hs:a.eval s = .slice none 0 0) (hx:a.eval x = .slice b us.length c) (hS:Fx.StrsAt w b us) (hlen:us.length<=10000)
 (h:∀ v' w',w'.ownsRow w.heap.size 9 1 v' us.length (strV us)->Below w.heap.size w w'->K (a.put o.dst v') w') :
 if Region.wanted o (yielded ops a.tmps)=true then Oper.wp Tryz.prog o a w K Q else E:=by
 have hw:Region.wanted o (yielded ops a.tmps)=true:=by simp [Region.wanted,hgd]
 rw [if_pos hw];obtain ⟨v',w',hr,h2,h3⟩:=run_append_strs w.heap.size o.type (.slice none 0 0) 0 [] (World.ownsRow_nil _ _ _ _) us b c hS (by omega) (Nat.le_refl _);refine Lib.wp_append_run w s x _ _ ho _ _ hs hx v' w' hr (h v' w' (by simpa using h2) ?_);exact (Below.refl w.heap.size w).grown h3 (Nat.le_refl _) (fun k hk=>by simp [Value.ownBlock] at hk)
theorem Tryz.infoPart:(Tryz.prog.info? 106).map (fun i=>(i.zero,i.size,i.bytes))=some (some (.agg #[.int .i64 0,.int .i64 0,.slice none 0 0]),3,40):=by kernel_rfl
theorem pt_evals {A:Nat->Prop} {t:Pt} {w:World} {a:Option Addr} {cap:Nat} (h:EAt w A a t.body.length (acsD t.body)):EVals w A t.ds [.int .i64 t.params,.int .i64 t.locals,.slice a t.body.length cap]:=.cons eint (.cons eint (.cons h.val .nil))
theorem ptsD_snoc (l:List Pt) (x:Pt):ptsD (l++[x])=ptsD l++x.ds:=by simp [ptsD]
theorem box5lt {w:World} {b:Nat} {x0 x1 x2 x3 x4:Value} {t:TypeId} (h:w.heap[b]? = some (.cells #[x0,x1,x2,x3,x4] t (0,0))):w.cell? ⟨b,0,none⟩=some x0/\w.cell? ⟨b,1,none⟩=some x1/\w.cell? ⟨b,2,none⟩=some x2/\w.cell? ⟨b,3,none⟩=some x3/\w.cell? ⟨b,4,none⟩=some x4/\(∀ i,w.frozen? ⟨b,i,none⟩=false)/\b<w.heap.size:=by
 obtain ⟨h0,h1,h2,h3,h4,h5⟩:=cellsOf5 h;exact ⟨h0,h1,h2,h3,h4,h5,lt_of_heap h⟩
theorem b01_alloc {W:World} {b:Nat} {x0 x1:Value} (hb:b<W.heap.size) (h:W.cell? ⟨b,0,none⟩=some x0/\W.cell? ⟨b,1,none⟩=some x1) (o:Obj):(W.alloc o).cell? ⟨b,0,none⟩=some x0/\(W.alloc o).cell? ⟨b,1,none⟩=some x1:=
 ⟨((al1 W o).cell (p:=⟨b,0,none⟩) hb).trans h.1,((al1 W o).cell (p:=⟨b,1,none⟩) hb).trans h.2⟩
theorem b01_allocD {W:World} {b:Nat} {x0 x1:Value} (hb:b<W.heap.size) (h:W.cell? ⟨b,0,none⟩=some x0/\W.cell? ⟨b,1,none⟩=some x1) (o:Obj):(W.alloc o).drew.cell? ⟨b,0,none⟩=some x0/\(W.alloc o).drew.cell? ⟨b,1,none⟩=some x1:=b01_alloc hb h o
theorem b01_set {W:World} {b c:Nat} {x0 x1:Value} (hn:b≠c) (h:W.cell? ⟨b,0,none⟩=some x0/\W.cell? ⟨b,1,none⟩=some x1) (u0 u1 u2 u3 u4:Value) :
 (((((W.setCell ⟨c,0,none⟩ u0).setCell ⟨c,1,none⟩ u1).setCell ⟨c,2,none⟩ u2).setCell ⟨c,3,none⟩ u3).setCell ⟨c,4,none⟩ u4).cell? ⟨b,0,none⟩=some x0/\(((((W.setCell ⟨c,0,none⟩ u0).setCell ⟨c,1,none⟩ u1).setCell ⟨c,2,none⟩ u2).setCell ⟨c,3,none⟩ u3).setCell ⟨c,4,none⟩ u4).cell? ⟨b,1,none⟩=some x1:=by
 have e:(((((W.setCell ⟨c,0,none⟩ u0).setCell ⟨c,1,none⟩ u1).setCell ⟨c,2,none⟩ u2).setCell ⟨c,3,none⟩ u3).setCell ⟨c,4,none⟩ u4).heap[b]? = W.heap[b]?:=(heap_set_ne hn _).trans ((heap_set_ne hn _).trans ((heap_set_ne hn _).trans ((heap_set_ne hn _).trans (heap_set_ne hn _))));exact ⟨(World.cell?_of_block (w:=W) (a:=⟨b,0,none⟩) e).trans h.1,(World.cell?_of_block (w:=W) (a:=⟨b,1,none⟩) e).trans h.2⟩
theorem bdrew (w:World):Below w.heap.size w w.drew:=(Below.refl _ _).drew
theorem bAdrew (w:World) (o:Obj):Below w.heap.size w (w.alloc o).drew:=((Below.refl _ w).alloc (Nat.le_refl _) o).drew
theorem unit_cells {w wu:World} {x0 x1 x2 x3 x4:Value} {t:TypeId} (hb:Below (w.alloc (.cells #[x0,x1,x2,x3,x4] t)).drew.heap.size (w.alloc (.cells #[x0,x1,x2,x3,x4] t)).drew wu) :
 wu.cell? ⟨w.heap.size,0,none⟩=some x0/\wu.cell? ⟨w.heap.size,1,none⟩=some x1/\wu.cell? ⟨w.heap.size,2,none⟩=some x2/\wu.cell? ⟨w.heap.size,3,none⟩=some x3/\wu.cell? ⟨w.heap.size,4,none⟩=some x4/\(∀ i,wu.frozen? ⟨w.heap.size,i,none⟩=false)/\w.heap.size<wu.heap.size:=by
 have h:wu.heap[w.heap.size]? = some (.cells #[x0,x1,x2,x3,x4] t):=(hb.block w.heap.size (by show w.heap.size<(w.alloc _).heap.size;simp)).trans (heap_newP w _);obtain ⟨h0,h1,h2,h3,h4,h5⟩:=cellsOf5 h;exact ⟨h0,h1,h2,h3,h4,h5,lt_of_heap h⟩
theorem strs_evals {A:Nat->Prop} {w:World}:∀ (l:List ByteArray),(∀ s ∈ l,s.size<=maxLen)->EVals w A (strsD l) (strV l)
 | [],_=>.nil
 | s :: r,h=>.cons (estr (h s (by simp))) (strs_evals r fun x hx=>h x (by simp [hx]))
theorem strs_eat {w:World} {B:Nat} {v:Value} {l:List ByteArray} (h:w.ownsRow B 9 1 v l.length (strV l)) (hs:∀ s ∈ l,s.size<=maxLen):∀ a cap,v = .slice a l.length cap->EAt w (B<=·) a l.length (strsD l):=by
 rintro a cap rfl;exact EAt.of_own h (fun _ h=>h) (strs_evals l hs)
theorem unit_any (m:Mo) (v:Value) (a1:Option Addr) (c1:Nat) (a2:Option Addr) (c2:Nat) (a3:Option Addr) (c3:Nat) (a4:Option Addr) (c4:Nat) (l:List Fc) (al:Option Addr) (cl:Nat) (w:World) (hM:MoAt w Tt m v a1 c1 a2 c2 a3 c3 a4 c4) (he:m.err=0) (hF:DAt w Tt al l.length (fcsD l)) (hl3:l.length<=3) (h16:∀ f ∈ l,f.items.length<=16) :
 Calls Tryz.prog 64 #[v,.slice al l.length cl] w fun e w'=>unitEnd w.heap.size (unitM m l) e w'/\Below w.heap.size w w':=by
 obtain rfl:=hM.val;have HM:=hid hM;have HLy:=lay_ok he;have HPa:=hid (many_parts he);have HFs:=hid hF;have H16:=hid h16;have HC:=hid (layout_any m _ a1 c1 a2 c2 a3 c3 a4 c4 ((w.alloc (.cells #[.string m.name,.slice a1 m.uses.length c1,.slice a2 m.decls.length c2,.slice a3 m.procs.length c3,.slice a4 m.main.length c4] 27)).alloc (.cells #[.string ⟨#[]⟩,.slice none 0 0,.int .i64 0,.slice none 0 0,.slice none 0 0] 42)) (hM.later (bl2 _ _ _)) HLy)
 have HIl:Hid ((layItems m).length<=16):=by have h1:=HLy.decls;have h2:=HLy.procs;show (layItems m).length<=16;rw [layItems_len];omega
 have hd10:=HLy.decls;have hp6:=HLy.procs;clear hM hF h16 he HLy;go_enter Tryz.func64,Tryz.ntmps64;go_wp2_with fail;refine HC.out.mono ?_;rintro e w1 ⟨⟨ai,ci,rfl,hit⟩,hb1⟩;have HB1:=hid (thenB (bl2 w _ _) hb1);have hz1:=hb1.size;simp at hz1;have P0:=hid ((hb1.block w.heap.size (by simp;omega)).trans (heap_old (heap_newP w _)));have P1:Hid (w1.heap[w.heap.size+1]? = some (.cells #[.string ⟨#[]⟩,.slice none 0 0,.int .i64 0,.slice none 0 0,.slice none 0 0] 42)):=(hb1.block (w.heap.size+1) (by simp)).trans (by simpa using heap_newP (w.alloc _) _);obtain ⟨HI,HF⟩:=items_at hit;have HIt:=hid HI;have HFi:=hid HF;have hmm:=@run_makeMap Tryz.prog;have HKm0:=hid ((KmAt.made w1).later (al1 _ (.cells #[.map (some w1.heap.size)] 189)));have HIb:=hid (items_block HI (R:=w1.heap.size) (Nat.le_refl _));have HC2:=hid (declare_any (fun _ _=>none) w1.heap.size 0 ⟨#[]⟩ 0 (layItems m) ai ci ((w1.alloc (.map #[] 0)).alloc (.cells #[.map (some w1.heap.size)] 189)) HKm0.out (Nat.zero_le _) (HI.later (bl2 _ _ _)) HF (by have:=HIl.out;omega) (by omega) HIb.out)
 clear hb1 hit HI HF HC;go_wp2_with fail;refine HC2.out.mono ?_;rintro e w2 ⟨rfl,hkm,hke⟩
 have HKm:Hid (KmAt w2 w1.heap.size (layItems m).length (ownK m)):=by have:=hkm;rw [Nat.zero_add] at this;exact this
 have HE:=hid hke;clear hkm hke HC2 hmm HKm0;go_wp2_with fail
 go_loopw [9,10,30] (fun _ _ i wr=>∃ (j n:Nat),j<=l.length/\i = .int .i64 j/\n<=16+16*j/\KmAt wr w1.heap.size n (facesK (ownK m) (l.take j))/\Keeps w1.heap.size ((w1.alloc (.map #[] 0)).alloc (.cells #[.map (some w1.heap.size)] 189)) wr) (fun _ _ i _=>l.length - (intOf i).toNat)
 case atStart=>exact ⟨0,_,Nat.zero_le _,rfl,by have:=HIl.out;omega,HKm.out,HE.out⟩
 case round =>
  clear HKm HE;obtain ⟨j,n,hj,rfl,hn,hkm,hke⟩:=hrel;have HKm:=hid hkm;have HE:=hid hke;have hzr:=hke.size;simp at hzr;have nb:wr.heap[w1.heap.size+1]? = some (.cells #[.map (some w1.heap.size)] 189):=(hke.block _ (by simp) (by omega)).trans (by simpa using heap_newP (w1.alloc (.map #[] 0)) (.cells #[.map (some w1.heap.size)] 189));have HNb:=hid nb
  have k0:wr.cell? ⟨w1.heap.size+1,0,none⟩=some (.map (some w1.heap.size)):=by rw [Lib.cell_of_heap nb];rfl
  have hnl:=lt_of_heap nb;have HBr:Hid (Below w.heap.size w wr):=Keeps.below (thenB HB1.out (bl2 _ _ _)) HE.out (by omega) (by simp;omega);clear hkm hke nb
  by_cases hlt:j<l.length
  . obtain ⟨b,off,aj,cj,rfl,hbl,x0,x1,hnm,hdj⟩:=(HFs.out.later HBr.out).fc j hlt
    obtain ⟨b',off',aj',cj',hal,hbl0,_,x1',_,hdj0⟩:=HFs.out.fc j hlt
    have hjj:aj'=aj:=by
     have e0:=Option.some.inj hal
     injection e0 with e1 e2
     subst e1 e2;have:=(HBr.out.cell (p:=⟨b,off+j*2+1,none⟩) hbl0).trans x1';rw [this] at x1;have:=Option.some.inj x1;injection this
    subst hjj;obtain ⟨HIj,HFj⟩:=items_atD hdj;have hib:=items_block (items_atD hdj0).1 (R:=w1.heap.size) (by omega);have h16j:=H16.out l[j] (List.getElem_mem _)
    have HSn:Hid (declK (facesK (ownK m) (l.take j)) l[j].name ((j:Int)+1) l[j].items=facesK (ownK m) (l.take (j+1))):=by
     show _=facesK (ownK m) (l.take (j+1));rw [List.take_succ_eq_append_getElem hlt,facesK_snoc,List.length_take,Nat.min_eq_left (by omega)]
    have hwr:IntKind.i64.wrap ((j:Int)+1)=(j:Int)+1:=by simp only [IntKind.wrap,IntKind.bits,IntKind.signed];simp;omega
    clear hal hbl0 x1' hdj hdj0;generalize l[j]=f at *;have HC3:=hid (declare_any (facesK (ownK m) (l.take j)) w1.heap.size n f.name ((j:Int)+1) f.items aj' cj (wr.alloc (.cells #[.string f.name,.slice aj' f.items.length cj] 30)) (HKm.out.later (al1 _ _)) hnm (HIj.later (al1 _ _)) HFj (by omega) (by omega) hib);clear hnm HIj HFj hib;go_wp2_with fail;refine HC3.out.mono ?_;rintro e w3 ⟨rfl,hkm3,hke3⟩;rw [HSn.out] at hkm3;have HKm3:=hid hkm3;have HE3:=hid ((HE.out.alloc (.cells #[.string f.name,.slice aj' f.items.length cj] 30)).trans hke3);clear hkm3 hke3 HC3;go_wp2_with fail;go_roundw
    case rel=>exact ⟨j+1,n+f.items.length,by omega,by go_num,by omega,HKm3.out,HE3.out⟩
    case measure=>simp [intOf];omega
  . obtain rfl:j=l.length:=by omega
    have HKf:Hid (KnAt wr (.map (some w1.heap.size)) (knownK m l)):=by have:=HKm.out.known;rw [List.take_length] at this;exact this
    have Q0:Hid (wr.heap[w.heap.size]? = some (.cells #[.string m.name,.slice a1 m.uses.length c1,.slice a2 m.decls.length c2,.slice a3 m.procs.length c3,.slice a4 m.main.length c4] 27)):=(HE.out.block _ (by simp;omega) (by omega)).trans (heap_old (heap_old P0.out));have Q1:Hid (wr.heap[w.heap.size+1]? = some (.cells #[.string ⟨#[]⟩,.slice none 0 0,.int .i64 0,.slice none 0 0,.slice none 0 0] 42)):=(HE.out.block _ (by simp;omega) (by omega)).trans (heap_old (heap_old P1.out));have HUs:=hid (fun W (hW:Below wr.heap.size wr W)=>((strs_at HM.out.uses).1.later (thenB HBr.out hW)));obtain ⟨x0,x1,x2,x3,x4,xf⟩:=cellsOf5 Q0.out;have hl0:=lt_of_heap Q0.out;have hu3:=HPa.out.1;have HSz:=hid (strs_at HM.out.uses).2;have HBx:=hid (fun W (hW:Below wr.heap.size wr W)=>box5lt ((hW.block _ hl0).trans Q0.out));clear HKm HE k0;go_wp2_with fail
    have hne1:w.heap.size≠wr.heap.size:=by omega
    have FF0:Hid (wr.cell? ⟨w.heap.size,0,none⟩=some (.string m.name)/\wr.cell? ⟨w.heap.size,1,none⟩=some (.slice a1 m.uses.length c1)):=⟨x0,x1⟩
    have FF:Hid (wr.drew.cell? ⟨w.heap.size,0,none⟩=some (.string m.name)/\wr.drew.cell? ⟨w.heap.size,1,none⟩=some (.slice a1 m.uses.length c1)):=⟨x0,x1⟩
    go_region_held_law (fun W=>W.cell? ⟨w.heap.size,0,none⟩=some (.string m.name)/\W.cell? ⟨w.heap.size,1,none⟩=some (.slice a1 m.uses.length c1)) (first | with_reducible exact FF.out | with_reducible exact b01_alloc hfl FF.out _ | with_reducible exact b01_allocD hl0 FF0.out _ | with_reducible exact b01_alloc hl0 FF0.out _ | with_reducible exact b01_set hne1 FF.out _ _ _ _ _)
     (first | (refine step_append_strs rfl _ _ rfl m.uses a1 c1 rfl rfl (HUs.out _ (by first | exact bdrew wr | exact bAdrew wr _)) (by omega) ?_;intro vu wu hou hbu;have HEu:=hid (strs_eat hou HSz.out);obtain ⟨au,cu,rfl,_⟩:=strV_own hou;clear hou;(first | (refine And.elim ?_ (unit_cells hbu);intro e0 hcs;obtain ⟨e1,e2,e3,e4,ef,hel⟩:=hcs;refine And.elim ?_ (HBx.out wu (thenB (bAdrew wr _) hbu));intro f0 fr;obtain ⟨f1,f2,f3,f4,ff,hfl⟩:=fr;have HBu:=hid (thenB (bAdrew wr _) hbu);have FF:=hid (And.intro f0 f1)) | (refine And.elim ?_ (HBx.out wu (thenB (bdrew wr) hbu));intro f0 fr;obtain ⟨f1,f2,f3,f4,ff,hfl⟩:=fr;have HBu:=hid (thenB (bdrew wr) hbu);have FF:=hid (And.intro f0 f1)))))
    . obtain ⟨wL,hwL⟩:∃ x,x=wr:=⟨_,rfl⟩
      subst hwL;have HW:Hid (Below wL.heap.size wL (wu.alloc (.cells #[.string m.name,.slice au m.uses.length cu,.int .i64 (layData m),.slice none 0 0,.slice none 0 0] 42))):=thenB HBu.out (al1 _ _);have HU:Hid ((wu.alloc (.cells #[.string m.name,.slice au m.uses.length cu,.int .i64 (layData m),.slice none 0 0,.slice none 0 0] 42)).heap[wu.heap.size]? = some (.cells #[.string m.name,.slice au m.uses.length cu,.int .i64 (layData m),.slice none 0 0,.slice none 0 0] 42)):=heap_newP _ _;have HA:Hid (EAt (wu.alloc (.cells #[.string m.name,.slice au m.uses.length cu,.int .i64 (layData m),.slice none 0 0,.slice none 0 0] 42)) (fun b=>wL.heap.size<=b/\b≠wu.heap.size) au m.uses.length (strsD m.uses)):=(HEu.out au cu rfl).moves ⟨by simp,fun b hb h=>⟨⟨h,by omega⟩,(al1 _ _).block b hb⟩⟩;have hU:wL.heap.size<=wu.heap.size:=HBu.out.size;have hUl:=lt_of_heap HU.out
      have T0:=hid ((HW.out.block _ hl0).trans Q0.out);have T1:=hid ((HW.out.block _ (lt_of_heap Q1.out)).trans Q1.out);have T2:=hid ((HW.out.block _ hnl).trans HNb.out);have hl1:=lt_of_heap Q1.out;clear hbu HBu HEu FF FF0 f0 f1 f2 f3 f4 ff x0 x1 x2 x3 x4 xf hfl;generalize (wu.alloc (.cells #[.string m.name,.slice au m.uses.length cu,.int .i64 (layData m),.slice none 0 0,.slice none 0 0] 42))=W3 at *;obtain ⟨x0,x1,x2,x3,x4,xf⟩:=cellsOf5 T0.out;have hlT0:=lt_of_heap T0.out;have hlT1:=lt_of_heap T1.out;have hlT2:=lt_of_heap T2.out;have hz3:=HW.out.size;go_wp2_with fail;clear x0 x1 x2 x3 x4 xf
      go_loopw [13,14,15,54] (fun _ _ _ i wt=>∃ (j:Nat) (acc:List Pt) (vp:Value),j<=m.procs.length/\i = .int .i64 j/\acc.length=j/\partsM (knownK m l) (m.procs.take j) = .ok acc/\wt.heap[wu.heap.size]? = some (.cells #[.string m.name,.slice au m.uses.length cu,.int .i64 (layData m),vp,.slice none 0 0] 42)/\Row W3.heap.size 106 3 wt vp acc.length (ptsD acc)/\Keeps wu.heap.size W3 wt) (fun _ _ _ i _=>m.procs.length - (intOf i).toNat)
      case atStart=>exact ⟨0,[],.slice none 0 0,Nat.zero_le _,rfl,rfl,rfl,HU.out,Row.nil _ _ _ _,Keeps.refl _ _⟩
      case round=>
       clear HU;obtain ⟨j,acc,vp,hj,rfl,hacc,hpm,hub,hrow,hke⟩:=hrel;have HPm:=hid hpm;have HUb:=hid hub;have HRo:=hid hrow;have HKe:=hid hke;have hzt:=hke.size;have hUt:=lt_of_heap hub;have R0:=hid ((hke.block _ hlT0 (by omega)).trans T0.out);have R1:=hid ((hke.block _ hlT1 (by omega)).trans T1.out);have R2:=hid ((hke.block _ hlT2 (by omega)).trans T2.out);have HBL:Hid (Below wL.heap.size wL wr):=Keeps.below HW.out hke hU (by omega);have HBw:=hid (thenB HBr.out HBL.out);have HKt:=hid (HKf.out.later HBL.out);obtain ⟨x0,x1,x2,x3,x4,xf⟩:=cellsOf5 R0.out
       have n0:wr.cell? ⟨w1.heap.size+1,0,none⟩=some (.map (some w1.heap.size)):=by rw [Lib.cell_of_heap R2.out];rfl
       have hlR0:=lt_of_heap R0.out;have hlR1:=lt_of_heap R1.out;have hlR2:=lt_of_heap R2.out;clear hpm hub hrow hke
       by_cases hlt:j<m.procs.length
       . obtain ⟨b,off,q1,d1,q2,d2,q3,d3,rfl,hx⟩:=(HM.out.procs.later HBw.out).pr j hlt
         obtain ⟨hbl,g0,g1,g2,g3,g4,hq1,hq2,hq3,hnm⟩:=hx;obtain ⟨hpp,hpl,hpb⟩:=HPa.out.2.2.2.1 m.procs[j] (List.getElem_mem _);have HErr:=hid (fun c (he:partM (knownK m l) m.procs[j] = .error c)=>unit_parts (partsM_err hlt HPm.out he));have HOk:=hid (fun y (he:partM (knownK m l) m.procs[j] = .ok y)=>partsM_snoc hlt HPm.out he);generalize m.procs[j]=p at *;have HC4:=hid (part_any (knownK m l) w1.heap.size p q1 d1 q2 d2 q3 d3 (wr.alloc (.cells #[.string p.name,.bool p.pub,.slice q1 p.params.length d1,.slice q2 p.locals.length d2,.slice q3 p.body.length d3] 118)) (HKt.out.later (al1 _ _)) (hq1.later (al1 _ _)) (hq2.later (al1 _ _)) (hq3.later (al1 _ _)) hpp hpl hpb);clear hq1 hq2 hq3 hpp hpl hpb hnm x0 x1 x2 x3 x4 xf;go_wp2_with fail;refine HC4.out.mono ?_;rintro e w4 ⟨hend,hb4⟩;have HB4:=hid (thenB (al1 wr _) hb4);have hz4:=hb4.size;simp at hz4;clear hb4 HC4 n0 g0 g1 g2 g3 g4
         cases hr:partM (knownK m l) p with
         | error c=>
           rw [hr] at hend;obtain ⟨px,py,pa,pk,pc,rfl,hne⟩:=hend;have HR:=hid (HErr.out c hr);have v1:=(HB4.out.block _ hlR1).trans R1.out;have hlr:=lt_of_heap v1;obtain ⟨r0,r1,r2,r3,r4,rf⟩:=cellsOf5 v1;clear hr v1;go_wp2_with fail;refine bodyPost_ret (v:=.tuple #[.agg #[.string ⟨#[]⟩,.slice none 0 0,.int .i64 0,.slice none 0 0,.slice none 0 0],.int .i64 c]) (by simp [results,Tryz.results64,go_sem,r0,r1,r2,r3,r4,hlr]) rfl ⟨by rw [HR.out];exact ⟨rfl,hne⟩,?_⟩;exact (bset5 (thenB HBw.out HB4.out) (by omega) _ _ _ _ _).alloc (by simp;omega) _
         | ok t=>
           rw [hr] at hend;obtain ⟨pa,pc,rfl,hea⟩:=hend;have HR:=hid (HOk.out t hr);have HUb4:=hid ((HB4.out.block _ hUt).trans HUb.out);have HRo4:Hid (Row W3.heap.size 106 3 (w4.alloc (.cells #[.int .i64 t.params,.int .i64 t.locals,.slice pa t.body.length pc] 106)) vp acc.length (ptsD acc)):=(HRo.out.later HB4.out).alloc _;have HE4:Hid (EVals (w4.alloc (.cells #[.int .i64 t.params,.int .i64 t.locals,.slice pa t.body.length pc] 106)) (wr.heap.size+1<=·) t.ds [.int .i64 t.params,.int .i64 t.locals,.slice pa t.body.length pc]):=pt_evals (hea.moves (((Moves.refl w4 _).alloc _).trans ⟨Nat.le_refl _,fun b _ h=>⟨by simp at h;exact h,rfl⟩⟩));have HLt:=hid (fun k hk=>(HRo.out.lt k hk).2);obtain ⟨o0,o1,o2,o3,o4,of⟩:=cellsOf5 HUb4.out;have hUl4:=lt_of_heap HUb4.out;have HKe4:=hid (((HKe.out.later HB4.out)).alloc (.cells #[.int .i64 t.params,.int .i64 t.locals,.slice pa t.body.length pc] 106))
           clear hr hea
           go_wp2_with (at_builtin;refine append_row rfl (.tmp 69) (.tmp 71) 39 rfl W3.heap.size 106 _ 3 40 Tryz.underlying39 Tryz.infoPart rfl (by decide) (w4.alloc (.cells #[.int .i64 t.params,.int .i64 t.locals,.slice pa t.body.length pc] 106)) vp acc.length (ptsD acc) t.ds rfl HRo4.out #[.int .i64 t.params,.int .i64 t.locals,.slice pa t.body.length pc] _ (by simp) rfl rfl (wr.heap.size+1<=·) HE4.out ?_ (by omega) (by decide) (by simp;omega) ?_)
           . intro b _ hb
             have hb':wr.heap.size+1<=b:=hb;exact ⟨by omega,fun h=>by have:=HLt.out b h;omega⟩
           . intro g5 c5 w5 HO5 HB5 hz5
             have HKe5:=hid (HKe4.out.belowOf HB5);have HUb5:=hid ((HB5.block _ (by omega)).trans (heap_old HUb4.out));have HO5':=hid (HO5.set (p:=⟨wu.heap.size,3,none⟩) (by show wu.heap.size<W3.heap.size;omega) (.slice (some ⟨g5,0,none⟩) (j+1) c5));have HUb6:Hid ((w5.setCell ⟨wu.heap.size,3,none⟩ (.slice (some ⟨g5,0,none⟩) (j+1) c5)).heap[wu.heap.size]? = some (.cells #[.string m.name,.slice au m.uses.length cu,.int .i64 (layData m),.slice (some ⟨g5,0,none⟩) (j+1) c5,.slice none 0 0] 42)):=heap_set HUb5.out _;have HKe6:=hid (HKe5.out.own 3 (.slice (some ⟨g5,0,none⟩) (j+1) c5));obtain ⟨s0,s1,s2,s3,s4,sf⟩:=cellsOf5 HUb5.out;have hUl5:=lt_of_heap HUb5.out;clear HO5 HB5 HRo4 HE4 o0 o1 o2 o3 o4 of HKe5 HKe4;go_wp2_with fail;go_roundw
             case rel=>exact ⟨j+1,acc++[t],_,by omega,by go_num,by simp [hacc],HR.out,HUb6.out,by rw [ptsD_snoc,List.length_append,hacc];exact HO5'.out,HKe6.out⟩
             case measure=>simp [intOf];omega
       . obtain rfl:j=m.procs.length:=by omega
         have HPf:Hid (partsM (knownK m l) m.procs = .ok acc):=by have:=HPm.out;rw [List.take_length] at this;exact this
         have HC5:=hid (acts_any 6 m.main HPa.out.2.2.2.2 (knownK m l) (fun _=>none) (.map (some w1.heap.size)) (.map none) Tt a4 c4 wr HKt.out (none_names wr) (HM.out.main.later HBw.out));go_wp2_with fail;refine HC5.out.mono ?_;rintro e w4 ⟨hend,hb4⟩;have HB4:=hid hb4;have hz4:=hb4.size;have v1:=(hb4.block _ hlR1).trans R1.out;have hlr:=lt_of_heap v1;obtain ⟨r0,r1,r2,r3,r4,rf⟩:=cellsOf5 v1;have HUb4:=hid ((hb4.block _ hUt).trans HUb.out);clear hb4 HC5 v1 n0 x0 x1 x2 x3 x4 xf
         cases hr:rsSs (knownK m l) (fun _=>none) m.main with
         | error c=>
           rw [hr] at hend;obtain ⟨rfl,hne⟩:=hend;have HR:=hid (unit_main HPf.out hr);clear hr;go_wp2_with fail;refine bodyPost_ret (v:=.tuple #[.agg #[.string ⟨#[]⟩,.slice none 0 0,.int .i64 0,.slice none 0 0,.slice none 0 0],.int .i64 c]) (by simp [results,Tryz.results64,go_sem,r0,r1,r2,r3,r4,hlr]) rfl ⟨by rw [HR.out];exact ⟨rfl,hne⟩,?_⟩;exact bset5 (thenB HBw.out HB4.out) (by omega) _ _ _ _ _
         | ok bd=>
           rw [hr] at hend;obtain ⟨ab,cb,rfl,hea⟩:=hend;have HR:=hid (unit_ok HPf.out hr);obtain ⟨ap,cp,rfl,hep⟩:=HRo.out.slice;obtain ⟨o0,o1,o2,o3,o4,of⟩:=cellsOf5 HUb4.out;have hUl4:=lt_of_heap HUb4.out
           have hUn:wu.heap.size≠w.heap.size+1:=by omega
           have HMv:Hid (∀ u v0 v1 v2 v3 v4,∀ A:Nat->Prop,(∀ b,A b->w.heap.size+2<=b/\b≠wu.heap.size)->Moves w4 A (set5 (w4.setCell ⟨wu.heap.size,4,none⟩ u) (w.heap.size+1) v0 v1 v2 v3 v4) (w.heap.size<=·)):=fun u v0 v1 v2 v3 v4 A hA=>
            (((Moves.refl w4 A).set (p:=⟨wu.heap.size,4,none⟩) (fun b _ hb=>(hA b hb).2) u).set5 (b:=w.heap.size+1) (fun b _ hb=>by have:=(hA b hb).1;omega) v0 v1 v2 v3 v4).trans ⟨Nat.le_refl _,fun b _ h=>⟨by have:=(hA b h).1;show w.heap.size<=b;omega,rfl⟩⟩
           have HA4:Hid (EAt w4 (fun b=>wL.heap.size<=b/\b≠wu.heap.size) au m.uses.length (strsD m.uses)):=(HA.out.moves ((Moves.refl W3 _).keeps HKe.out (fun b _ h=>h.2))).later HB4.out;have HP4:Hid (EAt w4 (W3.heap.size<=·) ap acc.length (ptsD acc)):=hep.later HB4.out;have HM4:Hid (EAt w4 (wr.heap.size<=·) ab bd.length (acsD bd)):=hea;have hzw:=HBr.out.size;clear hr hea hep HRo;go_wp2_with fail;refine bodyPost_ret (v:=.tuple #[.agg #[.string m.name,.slice au m.uses.length cu,.int .i64 (layData m),.slice ap acc.length cp,.slice ab bd.length cb],.int .i64 0]) (by simp [results,Tryz.results64,go_sem,r0,r1,r2,r3,r4,hlr,hacc]) rfl ⟨?_,?_⟩
           . rw [HR.out]
             exact ⟨au,cu,ap,cp,ab,cb,rfl,HA4.out.moves (HMv.out _ _ _ _ _ _ _ (fun b h=>⟨by have:=h.1;omega,h.2⟩)),HP4.out.moves (HMv.out _ _ _ _ _ _ _ (fun b h=>by have:W3.heap.size<=b:=h;exact ⟨by omega,by omega⟩)),HM4.out.moves (HMv.out _ _ _ _ _ _ _ (fun b h=>by have:wr.heap.size<=b:=h;exact ⟨by omega,by omega⟩))⟩
           . exact bset5 ((thenB HBw.out HB4.out).setCell (p:=⟨wu.heap.size,4,none⟩) (by show w.heap.size<=wu.heap.size;omega) _) (by omega) _ _ _ _ _
    . obtain ⟨wL,hwL⟩:∃ x,x=wr:=⟨_,rfl⟩
      subst hwL;have HW:Hid (Below wL.heap.size wL (((((wu.setCell ⟨wL.heap.size,0,none⟩ (.string m.name)).setCell ⟨wL.heap.size,1,none⟩ (.slice au m.uses.length cu)).setCell ⟨wL.heap.size,2,none⟩ (.int .i64 (layData m))).setCell ⟨wL.heap.size,3,none⟩ (.slice none 0 0)).setCell ⟨wL.heap.size,4,none⟩ (.slice none 0 0))):=bset5 HBu.out (Nat.le_refl _) _ _ _ _ _;have HU:Hid ((((((wu.setCell ⟨wL.heap.size,0,none⟩ (.string m.name)).setCell ⟨wL.heap.size,1,none⟩ (.slice au m.uses.length cu)).setCell ⟨wL.heap.size,2,none⟩ (.int .i64 (layData m))).setCell ⟨wL.heap.size,3,none⟩ (.slice none 0 0)).setCell ⟨wL.heap.size,4,none⟩ (.slice none 0 0)).heap[wL.heap.size]? = some (.cells #[.string m.name,.slice au m.uses.length cu,.int .i64 (layData m),.slice none 0 0,.slice none 0 0] 42)):=heap_set (heap_set (heap_set (heap_set (heap_set ((hbu.block wL.heap.size (by show wL.heap.size<(wL.alloc _).heap.size;simp)).trans (heap_newP wL _)) _) _) _) _) _
      have HA:Hid (EAt (((((wu.setCell ⟨wL.heap.size,0,none⟩ (.string m.name)).setCell ⟨wL.heap.size,1,none⟩ (.slice au m.uses.length cu)).setCell ⟨wL.heap.size,2,none⟩ (.int .i64 (layData m))).setCell ⟨wL.heap.size,3,none⟩ (.slice none 0 0)).setCell ⟨wL.heap.size,4,none⟩ (.slice none 0 0)) (fun b=>wL.heap.size<=b/\b≠wL.heap.size) au m.uses.length (strsD m.uses)):=((HEu.out au cu rfl).moves ⟨Nat.le_refl _,fun b hb h=>⟨(⟨by have:(wL.alloc _).heap.size<=b:=h;simp at this;omega,by have:(wL.alloc _).heap.size<=b:=h;simp at this;omega⟩:wL.heap.size<=b/\b≠wL.heap.size),rfl⟩⟩:EAt wu (fun b=>wL.heap.size<=b/\b≠wL.heap.size) au m.uses.length (strsD m.uses)).moves ((Moves.refl wu (fun b=>wL.heap.size<=b/\b≠wL.heap.size)).set5 (by intro k _ hk;exact hk.2) _ _ _ _ _);have hU:wL.heap.size<=wL.heap.size:=Nat.le_refl _;have hUl:=lt_of_heap HU.out
      have T0:=hid ((HW.out.block _ hl0).trans Q0.out);have T1:=hid ((HW.out.block _ (lt_of_heap Q1.out)).trans Q1.out);have T2:=hid ((HW.out.block _ hnl).trans HNb.out);have hl1:=lt_of_heap Q1.out;clear hbu HBu HEu FF FF0 f0 f1 f2 f3 f4 ff x0 x1 x2 x3 x4 xf hfl e0 e1 e2 e3 e4 ef hel;generalize (((((wu.setCell ⟨wL.heap.size,0,none⟩ (.string m.name)).setCell ⟨wL.heap.size,1,none⟩ (.slice au m.uses.length cu)).setCell ⟨wL.heap.size,2,none⟩ (.int .i64 (layData m))).setCell ⟨wL.heap.size,3,none⟩ (.slice none 0 0)).setCell ⟨wL.heap.size,4,none⟩ (.slice none 0 0))=W3 at *;obtain ⟨x0,x1,x2,x3,x4,xf⟩:=cellsOf5 T0.out;have hlT0:=lt_of_heap T0.out;have hlT1:=lt_of_heap T1.out;have hlT2:=lt_of_heap T2.out;have hz3:=HW.out.size;go_wp2_with fail;clear x0 x1 x2 x3 x4 xf
      go_loopw [13,14,15,54] (fun _ _ _ i wt=>∃ (j:Nat) (acc:List Pt) (vp:Value),j<=m.procs.length/\i = .int .i64 j/\acc.length=j/\partsM (knownK m l) (m.procs.take j) = .ok acc/\wt.heap[wL.heap.size]? = some (.cells #[.string m.name,.slice au m.uses.length cu,.int .i64 (layData m),vp,.slice none 0 0] 42)/\Row W3.heap.size 106 3 wt vp acc.length (ptsD acc)/\Keeps wL.heap.size W3 wt) (fun _ _ _ i _=>m.procs.length - (intOf i).toNat)
      case atStart=>exact ⟨0,[],.slice none 0 0,Nat.zero_le _,rfl,rfl,rfl,HU.out,Row.nil _ _ _ _,Keeps.refl _ _⟩
      case round=>
       clear HU;obtain ⟨j,acc,vp,hj,rfl,hacc,hpm,hub,hrow,hke⟩:=hrel;have HPm:=hid hpm;have HUb:=hid hub;have HRo:=hid hrow;have HKe:=hid hke;have hzt:=hke.size;have hUt:=lt_of_heap hub;have R0:=hid ((hke.block _ hlT0 (by omega)).trans T0.out);have R1:=hid ((hke.block _ hlT1 (by omega)).trans T1.out);have R2:=hid ((hke.block _ hlT2 (by omega)).trans T2.out);have HBL:Hid (Below wL.heap.size wL wr):=Keeps.below HW.out hke hU (by omega);have HBw:=hid (thenB HBr.out HBL.out);have HKt:=hid (HKf.out.later HBL.out);obtain ⟨x0,x1,x2,x3,x4,xf⟩:=cellsOf5 R0.out
       have n0:wr.cell? ⟨w1.heap.size+1,0,none⟩=some (.map (some w1.heap.size)):=by rw [Lib.cell_of_heap R2.out];rfl
       have hlR0:=lt_of_heap R0.out;have hlR1:=lt_of_heap R1.out;have hlR2:=lt_of_heap R2.out;clear hpm hub hrow hke
       by_cases hlt:j<m.procs.length
       . obtain ⟨b,off,q1,d1,q2,d2,q3,d3,rfl,hx⟩:=(HM.out.procs.later HBw.out).pr j hlt
         obtain ⟨hbl,g0,g1,g2,g3,g4,hq1,hq2,hq3,hnm⟩:=hx;obtain ⟨hpp,hpl,hpb⟩:=HPa.out.2.2.2.1 m.procs[j] (List.getElem_mem _);have HErr:=hid (fun c (he:partM (knownK m l) m.procs[j] = .error c)=>unit_parts (partsM_err hlt HPm.out he));have HOk:=hid (fun y (he:partM (knownK m l) m.procs[j] = .ok y)=>partsM_snoc hlt HPm.out he);generalize m.procs[j]=p at *;have HC4:=hid (part_any (knownK m l) w1.heap.size p q1 d1 q2 d2 q3 d3 (wr.alloc (.cells #[.string p.name,.bool p.pub,.slice q1 p.params.length d1,.slice q2 p.locals.length d2,.slice q3 p.body.length d3] 118)) (HKt.out.later (al1 _ _)) (hq1.later (al1 _ _)) (hq2.later (al1 _ _)) (hq3.later (al1 _ _)) hpp hpl hpb);clear hq1 hq2 hq3 hpp hpl hpb hnm x0 x1 x2 x3 x4 xf;go_wp2_with fail;refine HC4.out.mono ?_;rintro e w4 ⟨hend,hb4⟩;have HB4:=hid (thenB (al1 wr _) hb4);have hz4:=hb4.size;simp at hz4;clear hb4 HC4 n0 g0 g1 g2 g3 g4
         cases hr:partM (knownK m l) p with
         | error c=>
           rw [hr] at hend;obtain ⟨px,py,pa,pk,pc,rfl,hne⟩:=hend;have HR:=hid (HErr.out c hr);have v1:=(HB4.out.block _ hlR1).trans R1.out;have hlr:=lt_of_heap v1;obtain ⟨r0,r1,r2,r3,r4,rf⟩:=cellsOf5 v1;clear hr v1;go_wp2_with fail;refine bodyPost_ret (v:=.tuple #[.agg #[.string ⟨#[]⟩,.slice none 0 0,.int .i64 0,.slice none 0 0,.slice none 0 0],.int .i64 c]) (by simp [results,Tryz.results64,go_sem,r0,r1,r2,r3,r4,hlr]) rfl ⟨by rw [HR.out];exact ⟨rfl,hne⟩,?_⟩;exact (bset5 (thenB HBw.out HB4.out) (by omega) _ _ _ _ _).alloc (by simp;omega) _
         | ok t=>
           rw [hr] at hend;obtain ⟨pa,pc,rfl,hea⟩:=hend;have HR:=hid (HOk.out t hr);have HUb4:=hid ((HB4.out.block _ hUt).trans HUb.out);have HRo4:Hid (Row W3.heap.size 106 3 (w4.alloc (.cells #[.int .i64 t.params,.int .i64 t.locals,.slice pa t.body.length pc] 106)) vp acc.length (ptsD acc)):=(HRo.out.later HB4.out).alloc _;have HE4:Hid (EVals (w4.alloc (.cells #[.int .i64 t.params,.int .i64 t.locals,.slice pa t.body.length pc] 106)) (wr.heap.size+1<=·) t.ds [.int .i64 t.params,.int .i64 t.locals,.slice pa t.body.length pc]):=pt_evals (hea.moves (((Moves.refl w4 _).alloc _).trans ⟨Nat.le_refl _,fun b _ h=>⟨by simp at h;exact h,rfl⟩⟩));have HLt:=hid (fun k hk=>(HRo.out.lt k hk).2);obtain ⟨o0,o1,o2,o3,o4,of⟩:=cellsOf5 HUb4.out;have hUl4:=lt_of_heap HUb4.out;have HKe4:=hid (((HKe.out.later HB4.out)).alloc (.cells #[.int .i64 t.params,.int .i64 t.locals,.slice pa t.body.length pc] 106))
           clear hr hea
           go_wp2_with (at_builtin;refine append_row rfl (.tmp 69) (.tmp 71) 39 rfl W3.heap.size 106 _ 3 40 Tryz.underlying39 Tryz.infoPart rfl (by decide) (w4.alloc (.cells #[.int .i64 t.params,.int .i64 t.locals,.slice pa t.body.length pc] 106)) vp acc.length (ptsD acc) t.ds rfl HRo4.out #[.int .i64 t.params,.int .i64 t.locals,.slice pa t.body.length pc] _ (by simp) rfl rfl (wr.heap.size+1<=·) HE4.out ?_ (by omega) (by decide) (by simp;omega) ?_)
           . intro b _ hb
             have hb':wr.heap.size+1<=b:=hb;exact ⟨by omega,fun h=>by have:=HLt.out b h;omega⟩
           . intro g5 c5 w5 HO5 HB5 hz5
             have HKe5:=hid (HKe4.out.belowOf HB5);have HUb5:=hid ((HB5.block _ (by omega)).trans (heap_old HUb4.out));have HO5':=hid (HO5.set (p:=⟨wL.heap.size,3,none⟩) (by show wL.heap.size<W3.heap.size;omega) (.slice (some ⟨g5,0,none⟩) (j+1) c5));have HUb6:Hid ((w5.setCell ⟨wL.heap.size,3,none⟩ (.slice (some ⟨g5,0,none⟩) (j+1) c5)).heap[wL.heap.size]? = some (.cells #[.string m.name,.slice au m.uses.length cu,.int .i64 (layData m),.slice (some ⟨g5,0,none⟩) (j+1) c5,.slice none 0 0] 42)):=heap_set HUb5.out _;have HKe6:=hid (HKe5.out.own 3 (.slice (some ⟨g5,0,none⟩) (j+1) c5));obtain ⟨s0,s1,s2,s3,s4,sf⟩:=cellsOf5 HUb5.out;have hUl5:=lt_of_heap HUb5.out;clear HO5 HB5 HRo4 HE4 o0 o1 o2 o3 o4 of HKe5 HKe4;go_wp2_with fail;go_roundw
             case rel=>exact ⟨j+1,acc++[t],_,by omega,by go_num,by simp [hacc],HR.out,HUb6.out,by rw [ptsD_snoc,List.length_append,hacc];exact HO5'.out,HKe6.out⟩
             case measure=>simp [intOf];omega
       . obtain rfl:j=m.procs.length:=by omega
         have HPf:Hid (partsM (knownK m l) m.procs = .ok acc):=by have:=HPm.out;rw [List.take_length] at this;exact this
         have HC5:=hid (acts_any 6 m.main HPa.out.2.2.2.2 (knownK m l) (fun _=>none) (.map (some w1.heap.size)) (.map none) Tt a4 c4 wr HKt.out (none_names wr) (HM.out.main.later HBw.out));go_wp2_with fail;refine HC5.out.mono ?_;rintro e w4 ⟨hend,hb4⟩;have HB4:=hid hb4;have hz4:=hb4.size;have v1:=(hb4.block _ hlR1).trans R1.out;have hlr:=lt_of_heap v1;obtain ⟨r0,r1,r2,r3,r4,rf⟩:=cellsOf5 v1;have HUb4:=hid ((hb4.block _ hUt).trans HUb.out);clear hb4 HC5 v1 n0 x0 x1 x2 x3 x4 xf
         cases hr:rsSs (knownK m l) (fun _=>none) m.main with
         | error c=>
           rw [hr] at hend;obtain ⟨rfl,hne⟩:=hend;have HR:=hid (unit_main HPf.out hr);clear hr;go_wp2_with fail;refine bodyPost_ret (v:=.tuple #[.agg #[.string ⟨#[]⟩,.slice none 0 0,.int .i64 0,.slice none 0 0,.slice none 0 0],.int .i64 c]) (by simp [results,Tryz.results64,go_sem,r0,r1,r2,r3,r4,hlr]) rfl ⟨by rw [HR.out];exact ⟨rfl,hne⟩,?_⟩;exact bset5 (thenB HBw.out HB4.out) (by omega) _ _ _ _ _
         | ok bd=>
           rw [hr] at hend;obtain ⟨ab,cb,rfl,hea⟩:=hend;have HR:=hid (unit_ok HPf.out hr);obtain ⟨ap,cp,rfl,hep⟩:=HRo.out.slice;obtain ⟨o0,o1,o2,o3,o4,of⟩:=cellsOf5 HUb4.out;have hUl4:=lt_of_heap HUb4.out
           have hUn:wL.heap.size≠w.heap.size+1:=by omega
           have HMv:Hid (∀ u v0 v1 v2 v3 v4,∀ A:Nat->Prop,(∀ b,A b->w.heap.size+2<=b/\b≠wL.heap.size)->Moves w4 A (set5 (w4.setCell ⟨wL.heap.size,4,none⟩ u) (w.heap.size+1) v0 v1 v2 v3 v4) (w.heap.size<=·)):=fun u v0 v1 v2 v3 v4 A hA=>
            (((Moves.refl w4 A).set (p:=⟨wL.heap.size,4,none⟩) (fun b _ hb=>(hA b hb).2) u).set5 (b:=w.heap.size+1) (fun b _ hb=>by have:=(hA b hb).1;omega) v0 v1 v2 v3 v4).trans ⟨Nat.le_refl _,fun b _ h=>⟨by have:=(hA b h).1;show w.heap.size<=b;omega,rfl⟩⟩
           have HA4:Hid (EAt w4 (fun b=>wL.heap.size<=b/\b≠wL.heap.size) au m.uses.length (strsD m.uses)):=(HA.out.moves ((Moves.refl W3 _).keeps HKe.out (fun b _ h=>h.2))).later HB4.out;have HP4:Hid (EAt w4 (W3.heap.size<=·) ap acc.length (ptsD acc)):=hep.later HB4.out;have HM4:Hid (EAt w4 (wr.heap.size<=·) ab bd.length (acsD bd)):=hea;have hzw:=HBr.out.size;clear hr hea hep HRo;go_wp2_with fail;refine bodyPost_ret (v:=.tuple #[.agg #[.string m.name,.slice au m.uses.length cu,.int .i64 (layData m),.slice ap acc.length cp,.slice ab bd.length cb],.int .i64 0]) (by simp [results,Tryz.results64,go_sem,r0,r1,r2,r3,r4,hlr,hacc]) rfl ⟨?_,?_⟩
           . rw [HR.out]
             exact ⟨au,cu,ap,cp,ab,cb,rfl,HA4.out.moves (HMv.out _ _ _ _ _ _ _ (fun b h=>⟨by have:=h.1;omega,h.2⟩)),HP4.out.moves (HMv.out _ _ _ _ _ _ _ (fun b h=>by have:W3.heap.size<=b:=h;exact ⟨by omega,by omega⟩)),HM4.out.moves (HMv.out _ _ _ _ _ _ _ (fun b h=>by have:wr.heap.size<=b:=h;exact ⟨by omega,by omega⟩))⟩
           . exact bset5 ((thenB HBw.out HB4.out).setCell (p:=⟨wL.heap.size,4,none⟩) (by show w.heap.size<=wL.heap.size;omega) _) (by omega) _ _ _ _ _
end Go.Proofs.YtndkhgakfodldaaGreatDoor
