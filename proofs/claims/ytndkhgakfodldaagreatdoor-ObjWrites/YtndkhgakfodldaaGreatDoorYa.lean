import Derived.Test.YtndkhgakfodldaaGreatDoorUn
import Derived.Deep.RegionHeldLaw
namespace Go.Proofs.YtndkhgakfodldaaGreatDoor
set_option maxRecDepth 100000
set_option maxHeartbeats 6400000
open Go.RowKit Go.Maps Go.WideMaps
set_option linter.unusedSimpArgs false
set_option linter.unusedVariables false
def Apt (v u:Value):Prop:=∀ k,v.ownBlock=some k->u.ownBlock≠some k
theorem Apt.symm {v u:Value} (h:Apt v u):Apt u v:=fun k h1 h2=>h k h2 h1
theorem Apt.nil (u:Value):Apt (.slice none 0 0) u:=fun k h=>by simp [Value.ownBlock] at h
theorem zfd {P:Program} {ops:Array Oper} {rest:List Oper} {o:Oper} {a:Act} {Q:Exit->Act->World->Prop} (hgd:o.guard=none) (s x:Operand) (t:TypeId)
 (ho:o.op = .call { callee:=.builtin .append,args:=#[s,x],argTypes:=#[t,t] }) (base:Nat) (e:TypeId) (z:Value) (size bytes:Nat) (ht:P.underlying t=some (.slice e))
 (hi:(P.info? e).map (fun i=>(i.zero,i.size,i.bytes))=some (some z,size,bytes)) (hzs:z.cells.size=size) (hsz:0<size) (w:World) (v:Value) (n:Nat) (xs:List Value) (hs:a.eval s=v) (hrow:w.ownsRow base e size v n xs)
 (cs:Array Value) (H:Nat) (hH:H=w.heap.size) (hx:a.eval x = .slice (some ⟨H,0,none⟩) 1 1) (hcs:cs.size=size) (h1:∀ u ∈ cs.toList,u.oneCell'=true)
 (hn:n<=2000000) (hby:bytes<=200) (hbase:base<=w.heap.size)
 (h:∀ g cap w',w'.ownsRow base e size (.slice (some ⟨g,0,none⟩) (n+1) cap) (n+1) (xs++cs.toList)->Below base w w'->w.heap.size<w'.heap.size->
   (∀ (b2:Nat) (e2:TypeId) (z2 n2:Nat) (u:Value) (ys:List Value),w.ownsRow b2 e2 z2 u n2 ys->Apt u v->w'.ownsRow b2 e2 z2 u n2 ys/\Apt u (.slice (some ⟨g,0,none⟩) (n+1) cap))->(∀ (b:Nat) (x:Obj),w.heap[b]? = some x->v.ownBlock≠some b->w'.heap[b]? = some x)->
   wpList P ops Q rest (a.put o.dst (.slice (some ⟨g,0,none⟩) (n+1) cap)) w') :
 wpList P ops Q (o :: rest) a (w.alloc (.cells cs e)):=by
 obtain ⟨i0,hi,hz0,hz1,hz2⟩:=info_parts hi
 have hsize:(w.alloc (.cells cs e)).heap.size=w.heap.size+1:=by simp
 refine wpList_append_lies (w.alloc (.cells cs e)) hgd s x t ho base e i0 z size bytes ht hi hz0 hz1 hz2 hzs hsz v n xs hs (hrow.alloc _) ⟨H,0,none⟩ 1 1 cs.toList hx (by simp [hcs]) ?_ h1 (by omega) (by unfold maxLen;omega) ?_ (by omega) _ rfl ?_
 . intro j u hj
   subst hH
   have:(⟨w.heap.size,0,none⟩:Addr).add j=⟨w.heap.size,j,none⟩:=by unfold Addr.add;split<;>simp_all
   rw [this,veq (heap_newP w _)];simpa using hj
 . have:(n+1)*bytes<=2000001*200:=vdj (by omega) hby
   omega
 . intro g cap w' hown' hgrow hat hlt
   have hbel:Below base w w':=((Below.refl base w).alloc hbase _).grown hgrow (by omega) (fun k hk=>(hrow.lt k hk).1);have hgz:=hgrow.size;refine h g cap w' hown' hbel (by omega) (fun b2 e2 z2 n2 u ys hu hap=>?_) (fun b x hb hne=>?_)
   . refine ⟨(hu.alloc _).kept hgrow ?_,fun k hk hg=>?_⟩
     . cases hk:u.ownBlock with
       | none=>exact Or.inl rfl
       | some k=>exact Or.inr (fun e=>hap k hk e.symm)
     . have hlt2:=(hu.lt k hk).2
       simp only [Value.ownBlock,vbh] at hg
       rcases hat with h1 | h1
       . exact hap k hk (by rw [h1,hg])
       . omega
   . have hb':(w.alloc (.cells cs e)).heap[b]? = some x:=zae hb
     exact (hgrow.block b (zab hb') (fun e=>hne e.symm)).trans hb'
theorem zhg {P:Program} {ops:Array Oper} {o:Oper} {a:Act} {K:Act->World->Prop} {Q:Exit->Act->World->Prop} {E:Prop} (hgd:o.guard=none) (s x:Operand) (t:TypeId)
 (ho:o.op = .call { callee:=.builtin .append,args:=#[s,x],argTypes:=#[t,t] }) (base:Nat) (e:TypeId) (z:Value) (size bytes:Nat) (ht:P.underlying t=some (.slice e))
 (hi:(P.info? e).map (fun i=>(i.zero,i.size,i.bytes))=some (some z,size,bytes)) (hzs:z.cells.size=size) (hsz:0<size) (w:World) (v:Value) (n:Nat) (xs:List Value) (hs:a.eval s=v) (hrow:w.ownsRow base e size v n xs)
 (cs:Array Value) (H:Nat) (hH:H=w.heap.size) (hx:a.eval x = .slice (some ⟨H,0,none⟩) 1 1) (hcs:cs.size=size) (h1:∀ u ∈ cs.toList,u.oneCell'=true)
 (hn:n<=2000000) (hby:bytes<=200) (hbase:base<=w.heap.size) (W:World) (hW:W=w.alloc (.cells cs e))
 (h:∀ g cap w',w'.ownsRow base e size (.slice (some ⟨g,0,none⟩) (n+1) cap) (n+1) (xs++cs.toList)->Below base w w'->w.heap.size<w'.heap.size->
   (∀ (b2:Nat) (e2:TypeId) (z2 n2:Nat) (u:Value) (ys:List Value),w.ownsRow b2 e2 z2 u n2 ys->Apt u v->w'.ownsRow b2 e2 z2 u n2 ys/\Apt u (.slice (some ⟨g,0,none⟩) (n+1) cap))->(∀ (b:Nat) (x:Obj),w.heap[b]? = some x->v.ownBlock≠some b->w'.heap[b]? = some x)->
   K (a.put o.dst (.slice (some ⟨g,0,none⟩) (n+1) cap)) w') :
 if Region.wanted o (yielded ops a.tmps)=true then Oper.wp P o a W K Q else E:=by
 subst hW;obtain ⟨i0,hi,hz0,hz1,hz2⟩:=info_parts hi
 have hsize:(w.alloc (.cells cs e)).heap.size=w.heap.size+1:=by simp
 refine step_append_lies (w.alloc (.cells cs e)) hgd s x t ho base e i0 z size bytes ht hi hz0 hz1 hz2 hzs hsz v n xs hs (hrow.alloc _) ⟨H,0,none⟩ 1 1 cs.toList hx (by simp [hcs]) ?_ h1 (by omega) (by unfold maxLen;omega) ?_ (by omega) _ rfl ?_
 . intro j u hj
   subst hH
   have:(⟨w.heap.size,0,none⟩:Addr).add j=⟨w.heap.size,j,none⟩:=by unfold Addr.add;split<;>simp_all
   rw [this,veq (heap_newP w _)];simpa using hj
 . have:(n+1)*bytes<=2000001*200:=vdj (by omega) hby
   omega
 . intro g cap w' hown' hgrow hat hlt
   have hbel:Below base w w':=((Below.refl base w).alloc hbase _).grown hgrow (by omega) (fun k hk=>(hrow.lt k hk).1);have hgz:=hgrow.size;refine h g cap w' hown' hbel (by omega) (fun b2 e2 z2 n2 u ys hu hap=>?_) (fun b x hb hne=>?_)
   . refine ⟨(hu.alloc _).kept hgrow ?_,fun k hk hg=>?_⟩
     . cases hk:u.ownBlock with
       | none=>exact Or.inl rfl
       | some k=>exact Or.inr (fun e=>hap k hk e.symm)
     . have hlt2:=(hu.lt k hk).2
       simp only [Value.ownBlock,vbh] at hg
       rcases hat with h1 | h1
       . exact hap k hk (by rw [h1,hg])
       . omega
   . have hb':(w.alloc (.cells cs e)).heap[b]? = some x:=zae hb
     exact (hgrow.block b (zab hb') (fun e=>hne e.symm)).trans hb'
def zna (w:World) (a:OA) (l:List Bool):Prop:=l=[]\/∃ b off,a=some ⟨b,off,none⟩/\b<w.heap.size/\∀ i (h:i<l.length),w.cell? ⟨b,off+i,none⟩=some (.bool l[i])
theorem zna.later {w w':World} {a:OA} {l:List Bool} (h:zna w a l) (hb:Below w.heap.size w w'):zna w' a l:=by
 rcases h with h | ⟨b,off,e,hl,h⟩
 . exact Or.inl h
 . exact Or.inr ⟨b,off,e,vah hl hb.size,fun i hi=>(hb.cell (p:=⟨b,off+i,none⟩) hl).trans (h i hi)⟩
theorem zna.place {w:World} {a:OA} {l:List Bool} (h:zna w a l) {k:Nat} (hk:k<l.length):∃ b off,a=some ⟨b,off,none⟩/\b<w.heap.size/\w.cell? ⟨b,off+k,none⟩=some (.bool l[k]):=by
 rcases h with h | ⟨b,off,e,hl,h⟩
 . subst h;simp at hk
 . exact ⟨b,off,e,hl,h k hk⟩
structure Gi where
 op:Int
 a:Int
 b:Int
structure Gf where
 at_:Int
 kind:Int
 m:Int
structure Wrt where
 code:List Gi
 fixes:List Gf
def zb1 (op a b:Int) (s:Wrt):Wrt:=⟨s.code++[⟨op,a,b⟩],s.fixes⟩
def zvf (kind m:Int) (i:Gi) (s:Wrt):Wrt:=⟨s.code++[i],s.fixes++[⟨s.code.length,kind,m⟩]⟩
def zdg (op t:Int) (s:Wrt):Wrt:=zvf 1 0 ⟨op,t,0⟩ s
def z7l (x:Int) (i:Gi):Gi:=⟨i.op,x,i.b⟩
def zcv (k:Nat) (s:Wrt):Wrt:=⟨s.code.modify k (z7l s.code.length),s.fixes⟩
def ziq (s:Wrt):Bool:=decide (2048<s.code.length)
def z15 (f g:Wrt->Wrt) (s:Wrt):Wrt:=
 let s1:=f s
 let s4:=zb1 22 0 0 (g (zdg 12 0 s1))
 zcv s4.code.length (zb1 1 0 0 (zcv s1.code.length (zdg 11 0 s4)))
def orW (f g:Wrt->Wrt) (s:Wrt):Wrt:=
 let s1:=f s
 let s3:=zb1 1 1 0 (zdg 12 0 s1)
 zcv s3.code.length (zb1 22 0 0 (g (zcv s1.code.length (zdg 11 0 s3))))
def nd0:Nd:=⟨0,0,0,0,[]⟩
def argN (l:List Nd) (i:Nat):Nd:=l.getD i nd0
def zh2 (f:Nd->Wrt->Wrt) (l:List Nd) (s:Wrt):Wrt:=l.foldl (fun s y=>f y s) s
def zn7 (f:Wrt->Wrt) (n m at_:Int) (s:Wrt):Wrt:=zvf 3 m ⟨6,at_,n⟩ (f s)
def zh3 (f:Wrt->Wrt) (m at_:Int) (s:Wrt):Wrt:=zvf 2 m ⟨13,at_,0⟩ (f s)
def ndW:Nat->Nd->Wrt->Wrt
 | 0,_,s=>s
 | k+1,x,s=>
   if x.op=1 then zb1 1 x.n 0 s
   else if x.op=2 then zb1 18 0 0 s
   else if x.op=16 then zb1 2 x.at_ 0 s
   else if x.op=3 then zvf 3 x.m ⟨4,x.at_,0⟩ s
   else if x.op=4 then zb1 7 0 0 (zn7 (ndW k (argN x.args 0)) x.n x.m x.at_ s)
   else if x.op=5 then zh3 (zh2 (ndW k) x.args) x.m x.at_ s
   else if x.op=6 then zb1 9 0 0 (ndW k (argN x.args 0) s)
   else if x.op=7 then z15 (ndW k (argN x.args 0)) (ndW k (argN x.args 1)) s
   else if x.op=8 then orW (ndW k (argN x.args 0)) (ndW k (argN x.args 1)) s
   else zb1 10 x.op 0 (zh2 (ndW k) x.args s)
def zd8 (f:Ac->Wrt->Wrt) (l:List Ac) (s:Wrt):Wrt:=l.foldl (fun s y=>if ziq s=true then s else f y s) s
def z5t (f:Wrt->Wrt) (m at_:Int) (s:Wrt):Wrt:=if m = -1 then zb1 3 at_ 0 (f s) else zvf 3 m ⟨5,at_,0⟩ (f s)
def brW (f g h:Wrt->Wrt) (e:Bool) (s:Wrt):Wrt:=
 let s1:=f s
 let s2:=g (zdg 12 0 s1)
 if e=true then zcv s1.code.length s2
 else zcv s2.code.length (h (zcv s1.code.length (zdg 11 0 s2)))
def whW (f g:Wrt->Wrt) (s:Wrt):Wrt:=
 let s1:=f s
 zcv s1.code.length (zdg 11 s.code.length (g (zb1 16 0 0 (zdg 12 0 s1))))
def acW:Nat->Ac->Wrt->Wrt
 | 0,_,s=>s
 | k+1,a,s=>
   if a.op=1 then z5t (ndW 6 (argN a.args 0)) a.m a.at_ s
   else if a.op=2 then zb1 8 0 0 (ndW 6 (argN a.args 1) (zn7 (ndW 6 (argN a.args 0)) a.n a.m a.at_ s))
   else if a.op=3 then zb1 17 0 0 (zh3 (zh2 (ndW 6) a.args) a.m a.at_ s)
   else if a.op=4 then brW (ndW 6 (argN a.args 0)) (zd8 (acW k) a.body) (zd8 (acW k) a.other) a.other.isEmpty s
   else if a.op=5 then whW (ndW 6 (argN a.args 0)) (zd8 (acW k) a.body) s
   else if a.op=6 then zb1 15 0 0 (ndW 6 (argN a.args 0) s)
   else if a.op=7 then zb1 19 0 0 (ndW 6 (argN a.args 0) s)
   else s
def zrh (p:Pt) (s:Wrt):Wrt:=zb1 15 0 0 (zb1 1 0 0 (zd8 (acW 6) p.body (zb1 14 p.params p.locals s)))
def znb (f:Wrt->Wrt):Prop:=∀ s,s.code.length<=(f s).code.length
theorem zah (op a b:Int) (s:Wrt):(zb1 op a b s).code.length=s.code.length+1:=by simp [zb1]
theorem za9 (k m:Int) (i:Gi) (s:Wrt):(zvf k m i s).code.length=s.code.length+1:=by simp [zvf]
theorem zas (op t:Int) (s:Wrt):(zdg op t s).code.length=s.code.length+1:=za9 ..
theorem zam (k:Nat) (s:Wrt):(zcv k s).code.length=s.code.length:=by simp [zcv]
theorem zjv {f:Nd->Wrt->Wrt} (hf:∀ x,znb (f x)):∀ l,znb (zh2 f l)
 | [],s=>vaa _
 | x :: r,s=>vai (hf x s) (zjv hf r (f x s))
theorem zcz {f:Ac->Wrt->Wrt} (hf:∀ x,znb (f x)):∀ l,znb (zd8 f l)
 | [],s=>vaa _
 | x :: r,s=>by
   show _<=(zd8 f r (if ziq s=true then s else f x s)).code.length;refine vai ?_ (zcz hf r _);split
   . exact vaa _
   . exact hf x s
theorem z16 {f g:Wrt->Wrt} (hf:znb f) (hg:znb g):znb (z15 f g):=fun s=>by
 have h1:=hf s;have h2:=hg (zdg 12 0 (f s));simp only [z15,zam,zah,zas] at h2 ⊢;omega
theorem z40 {f g:Wrt->Wrt} (hf:znb f) (hg:znb g):znb (orW f g):=fun s=>by
 have h1:=hf s;have h2:=hg (zcv (f s).code.length (zdg 11 0 (zb1 1 1 0 (zdg 12 0 (f s)))));simp only [orW,zam,zah,zas] at h2 ⊢;omega
theorem zdz:∀ k x,znb (ndW k x)
 | 0,_,s=>vaa _
 | k+1,x,s=>by
   have ih:=fun y=>zdz k y
   have h1:=ih (argN x.args 0) s;have h2:=zjv ih x.args s;have h3:=z16 (ih (argN x.args 0)) (ih (argN x.args 1)) s;have h4:=z40 (ih (argN x.args 0)) (ih (argN x.args 1)) s;unfold ndW
   repeat' split
   all_goals first | assumption | (simp only [zah,za9,zn7,zh3];omega)
theorem z41 {f g h:Wrt->Wrt} (hf:znb f) (hg:znb g) (hh:znb h) (e:Bool):znb (brW f g h e):=fun s=>by
 have h1:=hf s;have h2:=hg (zdg 12 0 (f s));have h3:=hh (zcv (f s).code.length (zdg 11 0 (g (zdg 12 0 (f s)))));simp only [brW,zam,zah,zas] at h2 h3 ⊢
 split<;>simp only [zam]<;>omega
theorem z42 {f g:Wrt->Wrt} (hf:znb f) (hg:znb g):znb (whW f g):=fun s=>by
 have h1:=hf s;have h2:=hg (zb1 16 0 0 (zdg 12 0 (f s)));simp only [whW,zam,zah,zas] at h2 ⊢;omega
theorem z17 {f:Wrt->Wrt} (hf:znb f) (m at_:Int):znb (z5t f m at_):=fun s=>by
 have h1:=hf s;unfold z5t
 split<;>simp only [zah,za9]<;>omega
theorem zgs:∀ k x,znb (acW k x)
 | 0,_,s=>vaa _
 | k+1,x,s=>by
   have ih:=fun y=>zgs k y
   have n0:=zdz 6 (argN x.args 0);have h1:=n0 s;have h2:=z17 n0 x.m x.at_ s;have h3:=zdz 6 (argN x.args 1) (zn7 (ndW 6 (argN x.args 0)) x.n x.m x.at_ s);have h4:=zjv (zdz 6) x.args s;have h5:=z41 n0 (zcz ih x.body) (zcz ih x.other) x.other.isEmpty s;have h6:=z42 n0 (zcz ih x.body) s;unfold acW
   repeat' split
   all_goals first | assumption | (simp only [zah,za9,zn7,zh3] at h3 ⊢;omega)
theorem ztb (f:Ac->Wrt->Wrt):∀ (l:List Ac) (s:Wrt),ziq s=true->zd8 f l s=s
 | [],s,_=>rfl
 | x :: r,s,h=>by
   show zd8 f r (if ziq s=true then s else f x s)=s;rw [if_pos h];exact ztb f r s h
theorem z18 (f:Nd->Wrt->Wrt) (l:List Nd) (s:Wrt) (j:Nat) (h:j<l.length):zh2 f (l.take (j+1)) s=f l[j] (zh2 f (l.take j) s):=by
 rw [vag h];unfold zh2;rw [vbn]
 rfl
theorem z19 (f:Ac->Wrt->Wrt) (l:List Ac) (s:Wrt) (j:Nat) (h:j<l.length) (hn:ziq (zd8 f (l.take j) s)=false):zd8 f (l.take (j+1)) s=f l[j] (zd8 f (l.take j) s):=by
 rw [vag h];unfold zd8 at hn ⊢;rw [vbn];simp only [List.foldl_cons,List.foldl_nil];rw [if_neg (by rw [hn];decide)]
theorem z2a (f:Ac->Wrt->Wrt) (l:List Ac) (s:Wrt) (j:Nat) (hn:ziq (zd8 f (l.take j) s)=true):zd8 f l s=zd8 f (l.take j) s:=by
 have:=ztb f (l.drop j) (zd8 f (l.take j) s) hn;rw [← this];unfold zd8;rw [← vbn,vca]
theorem z7m (f:Nd->Wrt->Wrt) (hf:∀ x,znb (f x)) (l:List Nd) (s:Wrt) (j:Nat):(zh2 f (l.take j) s).code.length<=(zh2 f l s).code.length:=by
 have:=zjv hf (l.drop j) (zh2 f (l.take j) s);unfold zh2 at this ⊢;rwa [← vbn,vca] at this
theorem z7n (f:Ac->Wrt->Wrt) (hf:∀ x,znb (f x)) (l:List Ac) (s:Wrt) (j:Nat):(zd8 f (l.take j) s).code.length<=(zd8 f l s).code.length:=by
 have:=zcz hf (l.drop j) (zd8 f (l.take j) s);unfold zd8 at this ⊢;rwa [← vbn,vca] at this
theorem zhu (l:List Nd) (i:Nat) (h:i<l.length):argN l i=l[i]:=by simp [argN,vbl,vaj h]
def giV (i:Gi):List Value:=[.int .i64 i.op,.int .i64 i.a,.int .i64 i.b]
def zln (l:List Gi):List Value:=l.flatMap giV
def gfV (f:Gf):List Value:=[.int .i64 f.at_,.int .i64 f.kind,.int .i64 f.m]
def ztc (l:List Gf):List Value:=l.flatMap gfV
theorem znc (l:List Gi) (i:Gi):zln (l++[i])=zln l++giV i:=by simp [zln]
theorem znd (l:List Gf) (i:Gf):ztc (l++[i])=ztc l++gfV i:=by simp [ztc]
theorem zw3:∀ (l:List Gi) (k:Nat) (x:Int),k<l.length->zln (l.modify k (z7l x))=(zln l).set (k*3+1) (.int .i64 x)
 | [],k,_,h=>by simp at h
 | i :: r,0,x,_=>by simp [zln,giV,z7l]
 | i :: r,k+1,x,h=>by
   have:=zw3 r k x (by simpa using h);simp only [zln,List.modify_succ_cons,vbg] at this ⊢;rw [this,show (k+1)*3+1=(giV i).length+(k*3+1) from by simp [giV];omega,List.set_append_right _ _ (by omega),Nat.add_sub_cancel_left]
theorem z43 (l:List Gi) (k:Nat) (h:k<l.length):(zln l)[k*3+1]? = some (.int .i64 l[k].a):=by
 induction l generalizing k with
 | nil=>simp at h
 | cons x r ih=>
   cases k with
   | zero=>rfl
   | succ k=>
     have:=ih k (by simpa using h);simp only [zln,vbg,vby] at this ⊢;rw [vbk (by simp [giV];omega),show (k+1)*3+1 - (giV x).length=k*3+1 from by simp [giV];omega];exact this
theorem zw4 (i:Gi):∀ u ∈ giV i,u.oneCell'=true:=by simp [giV];exact ⟨rfl,rfl,rfl⟩
theorem z2b (i:Gf):∀ u ∈ gfV i,u.oneCell'=true:=by simp [gfV];exact ⟨rfl,rfl,rfl⟩
structure Onto (w w':World) (B:Nat) (e:TypeId) (size:Nat) (v:Value) (n:Nat) (g cap:Nat) (xs:List Value):Prop where
 own:w'.ownsRow B e size (.slice (some ⟨g,0,none⟩) (n+1) cap) (n+1) xs
 below:Below B w w'
 size:w.heap.size<w'.heap.size
 old:∀ (b:Nat) (x:Obj),w.heap[b]? = some x->v.ownBlock≠some b->w'.heap[b]? = some x
 at_:v.ownBlock=some g\/w.heap.size<g
theorem zw5 {P:Program} {ops:Array Oper} {rest:List Oper} {o:Oper} {a:Act} {Q:Exit->Act->World->Prop} (hgd:o.guard=none) (s x:Operand) (t:TypeId)
 (ho:o.op = .call { callee:=.builtin .append,args:=#[s,x],argTypes:=#[t,t] }) (base:Nat) (e:TypeId) (z:Value) (size bytes:Nat) (ht:P.underlying t=some (.slice e))
 (hi:(P.info? e).map (fun i=>(i.zero,i.size,i.bytes))=some (some z,size,bytes)) (hzs:z.cells.size=size) (hsz:0<size) (w:World) (v:Value) (n:Nat) (xs:List Value) (hs:a.eval s=v) (hrow:w.ownsRow base e size v n xs)
 (cs:Array Value) (H:Nat) (hH:H=w.heap.size) (hx:a.eval x = .slice (some ⟨H,0,none⟩) 1 1) (hcs:cs.size=size) (h1:∀ u ∈ cs.toList,u.oneCell'=true)
 (hn:n<=2000000) (hby:bytes<=200) (hbase:base<=w.heap.size) (W:World) (hW:W=w.alloc (.cells cs e))
 (h:∀ g cap w',Onto w w' base e size v n g cap (xs++cs.toList)->wpList P ops Q rest (a.put o.dst (.slice (some ⟨g,0,none⟩) (n+1) cap)) w') :
 wpList P ops Q (o :: rest) a W:=by
 subst hW;obtain ⟨i0,hi,hz0,hz1,hz2⟩:=info_parts hi
 have hsize:(w.alloc (.cells cs e)).heap.size=w.heap.size+1:=by simp
 refine wpList_append_lies (w.alloc (.cells cs e)) hgd s x t ho base e i0 z size bytes ht hi hz0 hz1 hz2 hzs hsz v n xs hs (hrow.alloc _) ⟨H,0,none⟩ 1 1 cs.toList hx (by simp [hcs]) ?_ h1 (by omega) (by unfold maxLen;omega) ?_ (by omega) _ rfl ?_
 . intro j u hj
   subst hH
   have:(⟨w.heap.size,0,none⟩:Addr).add j=⟨w.heap.size,j,none⟩:=by unfold Addr.add;split<;>simp_all
   rw [this,veq (heap_newP w _)];simpa using hj
 . have:(n+1)*bytes<=2000001*200:=vdj (by omega) hby
   omega
 . intro g cap w' hown' hgrow hat hlt
   have hgz:=hgrow.size;refine h g cap w' ⟨hown',((Below.refl base w).alloc hbase _).grown hgrow (by omega) (fun k hk=>(hrow.lt k hk).1),by omega,fun b x hb hne=>?_,hat.imp id (fun e=>by omega)⟩;have hb':(w.alloc (.cells cs e)).heap[b]? = some x:=zae hb;exact (hgrow.block b (zab hb') (fun e=>hne e.symm)).trans hb'
theorem zjw {P:Program} {ops:Array Oper} {o:Oper} {a:Act} {K:Act->World->Prop} {Q:Exit->Act->World->Prop} {E:Prop} (hgd:o.guard=none) (s x:Operand) (t:TypeId)
 (ho:o.op = .call { callee:=.builtin .append,args:=#[s,x],argTypes:=#[t,t] }) (base:Nat) (e:TypeId) (z:Value) (size bytes:Nat) (ht:P.underlying t=some (.slice e))
 (hi:(P.info? e).map (fun i=>(i.zero,i.size,i.bytes))=some (some z,size,bytes)) (hzs:z.cells.size=size) (hsz:0<size) (w:World) (v:Value) (n:Nat) (xs:List Value) (hs:a.eval s=v) (hrow:w.ownsRow base e size v n xs)
 (cs:Array Value) (H:Nat) (hH:H=w.heap.size) (hx:a.eval x = .slice (some ⟨H,0,none⟩) 1 1) (hcs:cs.size=size) (h1:∀ u ∈ cs.toList,u.oneCell'=true)
 (hn:n<=2000000) (hby:bytes<=200) (hbase:base<=w.heap.size) (W:World) (hW:W=w.alloc (.cells cs e))
 (h:∀ g cap w',Onto w w' base e size v n g cap (xs++cs.toList)->K (a.put o.dst (.slice (some ⟨g,0,none⟩) (n+1) cap)) w') :
 if Region.wanted o (yielded ops a.tmps)=true then Oper.wp P o a W K Q else E:=by
 subst hW;obtain ⟨i0,hi,hz0,hz1,hz2⟩:=info_parts hi
 have hsize:(w.alloc (.cells cs e)).heap.size=w.heap.size+1:=by simp
 refine step_append_lies (w.alloc (.cells cs e)) hgd s x t ho base e i0 z size bytes ht hi hz0 hz1 hz2 hzs hsz v n xs hs (hrow.alloc _) ⟨H,0,none⟩ 1 1 cs.toList hx (by simp [hcs]) ?_ h1 (by omega) (by unfold maxLen;omega) ?_ (by omega) _ rfl ?_
 . intro j u hj
   subst hH
   have:(⟨w.heap.size,0,none⟩:Addr).add j=⟨w.heap.size,j,none⟩:=by unfold Addr.add;split<;>simp_all
   rw [this,veq (heap_newP w _)];simpa using hj
 . have:(n+1)*bytes<=2000001*200:=vdj (by omega) hby
   omega
 . intro g cap w' hown' hgrow hat hlt
   have hgz:=hgrow.size;refine h g cap w' ⟨hown',((Below.refl base w).alloc hbase _).grown hgrow (by omega) (fun k hk=>(hrow.lt k hk).1),by omega,fun b x hb hne=>?_,hat.imp id (fun e=>by omega)⟩;have hb':(w.alloc (.cells cs e)).heap[b]? = some x:=zae hb;exact (hgrow.block b (zab hb') (fun e=>hne e.symm)).trans hb'
theorem zbd {w w':World} {B:Nat} {e:TypeId} {sz:Nat} {v:Value} {n:Nat} {xs:List Value} (h:w.ownsRow B e sz v n xs) (hk:∀ k,v.ownBlock=some k->w'.heap[k]? = w.heap[k]?):w'.ownsRow B e sz v n xs:=by
 refine ⟨h.1,?_⟩
 rcases h.2 with h1 | ⟨g,cap,cur,hv,hb,hg,hr⟩
 . exact Or.inl h1
 . exact Or.inr ⟨g,cap,cur,hv,hb,(hk g (by rw [hv];rfl)).trans hg,hr⟩
theorem zau {w:World} {B:Nat} {e:TypeId} {sz:Nat} {v:Value} {n:Nat} {xs:List Value} (h:w.ownsRow B e sz v n xs):∃ a cap,v = .slice a n cap/\n<=cap/\cap<=maxLen:=by
 rcases h.2 with ⟨h1,h2⟩ | ⟨g,cap,cur,hv,_,_,h3,h4,_⟩
 . exact ⟨none,0,by rw [h2];exact h1,by omega,by unfold maxLen;omega⟩
 . exact ⟨_,cap,hv,h3,h4⟩
theorem zvg {w:World} {B:Nat} {e:TypeId} {sz:Nat} {g n cap:Nat} {xs:List Value} (h:w.ownsRow B e sz (.slice (some ⟨g,0,none⟩) n cap) n xs) (j:Nat) (u:Value) (hj:j<n*sz) :
 (w.setCell ⟨g,j,none⟩ u).ownsRow B e sz (.slice (some ⟨g,0,none⟩) n cap) n (xs.set j u):=by
 refine ⟨by rw [List.length_set];exact h.1,?_⟩
 rcases h.2 with ⟨h1,_⟩ | ⟨g',cap',cur,hv,hb,hg,h3,h4,h5,h6⟩
 . cases h1
 . cases hv
   refine Or.inr ⟨g,cap,cur.setIfInBounds j u,rfl,hb,zag hg u,h3,h4,by rw [Array.size_setIfInBounds];exact h5,?_⟩;rw [Array.toList_setIfInBounds,← h6,List.take_set]
structure WAt (w0 w:World) (R:Nat) (K:List (Nat × Obj)) (cv fv:Value) (s:Wrt):Prop where
 blk:w.heap[R]? = some (.cells #[cv,fv] 136)
 hR:w0.heap.size<=R
 code:w.ownsRow w0.heap.size 69 3 cv s.code.length (zln s.code)
 fix:w.ownsRow w0.heap.size 67 3 fv s.fixes.length (ztc s.fixes)
 apt:Apt cv fv
 nc:cv.ownBlock≠some R
 nf:fv.ownBlock≠some R
 below:Below w0.heap.size w0 w
 kp:∀ x ∈ K,w.heap[x.1]? = some x.2/\x.1≠R/\cv.ownBlock≠some x.1/\fv.ownBlock≠some x.1
def Wri (w0 w:World) (R:Nat) (K:List (Nat × Obj)) (s:Wrt):Prop:=s.fixes.length<=s.code.length/\∃ cv fv,WAt w0 w R K cv fv s
section
variable {w0 w w':World} {R:Nat} {K K':List (Nat × Obj)} {cv fv:Value} {s:Wrt}
theorem WAt.ltR (h:WAt w0 w R K cv fv s):R<w.heap.size:=zab h.blk
theorem WAt.hB (h:WAt w0 w R K cv fv s):w0.heap.size<=w.heap.size:=vai h.hR (Nat.le_of_lt h.ltR)
theorem WAt.later (h:WAt w0 w R K cv fv s) (hb:Below w.heap.size w w'):WAt w0 w' R K cv fv s:=
 { h with
   blk:=(hb.block R h.ltR).trans h.blk
   code:=ownsRow_later h.code hb
   fix:=ownsRow_later h.fix hb
   below:=h.below.trans (hb.mono h.hB)
   kp:=fun x hx=>⟨(hb.block _ (zab (h.kp x hx).1)).trans (h.kp x hx).1,(h.kp x hx).2⟩}
theorem WAt.alloc (h:WAt w0 w R K cv fv s) (o:Obj):WAt w0 (w.alloc o) R K cv fv s:=h.later ((Below.refl _ _).alloc (vaa _) o)
theorem WAt.drew (h:WAt w0 w R K cv fv s):WAt w0 w.drew R K cv fv s:=h.later (Below.refl _ _).drew
theorem WAt.box (h:WAt w0 w R K cv fv s) (o:Obj):WAt w0 (w.alloc o) R ((w.heap.size,o) :: K) cv fv s:=
 { h.alloc o with
   kp :=fun x hx=>by
    rcases vcm.1 hx with rfl | hx
    . refine ⟨heap_newP w o,fun e=>by have:=h.ltR;simp only at e;omega,fun e=>?_,fun e=>?_⟩
      . have:=(h.code.lt _ e).2;simp only at this;omega
      . have:=(h.fix.lt _ e).2;simp only at this;omega
    . exact (h.alloc o).kp x hx }
theorem WAt.sub (h:WAt w0 w R K cv fv s) (hK:∀ x ∈ K',x ∈ K):WAt w0 w R K' cv fv s:={ h with kp:=fun x hx=>h.kp x (hK x hx) }
theorem Wri.later (h:Wri w0 w R K s) (hb:Below w.heap.size w w'):Wri w0 w' R K s:=by obtain ⟨hl,_,_,h⟩:=h;exact ⟨hl,_,_,h.later hb⟩
theorem Wri.alloc (h:Wri w0 w R K s) (o:Obj):Wri w0 (w.alloc o) R K s:=by obtain ⟨hl,_,_,h⟩:=h;exact ⟨hl,_,_,h.alloc o⟩
theorem Wri.drew (h:Wri w0 w R K s):Wri w0 w.drew R K s:=by obtain ⟨hl,_,_,h⟩:=h;exact ⟨hl,_,_,h.drew⟩
theorem Wri.box (h:Wri w0 w R K s) (o:Obj):Wri w0 (w.alloc o) R ((w.heap.size,o) :: K) s:=by obtain ⟨hl,_,_,h⟩:=h;exact ⟨hl,_,_,h.box o⟩
theorem Wri.sub (h:Wri w0 w R K s) (hK:∀ x ∈ K',x ∈ K):Wri w0 w R K' s:=by obtain ⟨hl,_,_,h⟩:=h;exact ⟨hl,_,_,h.sub hK⟩
theorem Wri.tail {x:Nat × Obj} (h:Wri w0 w R (x :: K) s):Wri w0 w R K s:=h.sub fun _=>vaf _
theorem Wri.has (h:Wri w0 w R K s) {b:Nat} {o:Obj} (hx:(b,o) ∈ K):w.heap[b]? = some o:=by obtain ⟨_,_,_,h⟩:=h;exact (h.kp _ hx).1
theorem Wri.head {b:Nat} {o:Obj} (h:Wri w0 w R ((b,o) :: K) s):w.heap[b]? = some o:=h.has (vam ..)
theorem Wri.below (h:Wri w0 w R K s):Below w0.heap.size w0 w:=by obtain ⟨_,_,_,h⟩:=h;exact h.below
theorem WAt.cells (h:WAt w0 w R K cv fv s):w.cell? ⟨R,0,none⟩=some cv/\w.cell? ⟨R,1,none⟩=some fv/\∀ j,w.frozen? ⟨R,j,none⟩=false:=
 ⟨by rw [veq h.blk];rfl,by rw [veq h.blk];rfl,fun j=>vep h.blk j⟩
theorem WAt.putC (h:WAt w0 w R K cv fv s) {i:Gi} {g cap:Nat} (ho:Onto w w' w0.heap.size 69 3 cv s.code.length g cap (zln s.code++giV i)) :
 w'.cell? ⟨R,0,none⟩=some cv/\w'.frozen? ⟨R,0,none⟩=false/\WAt w0 (w'.setCell ⟨R,0,none⟩ (.slice (some ⟨g,0,none⟩) (s.code.length+1) cap)) R K (.slice (some ⟨g,0,none⟩) (s.code.length+1) cap) fv ⟨s.code++[i],s.fixes⟩:=by
 have hb:=ho.old R _ h.blk h.nc
 have hgR:g≠R:=fun e=>by
  rcases ho.at_ with h1 | h1
  . exact h.nc (by rw [h1,e])
  . have:=h.ltR;omega
 have hne:∀ b,b≠R->(w'.setCell ⟨R,0,none⟩ (.slice (some ⟨g,0,none⟩) (s.code.length+1) cap)).heap[b]? = w'.heap[b]?:=fun b hb=>zac (p:=⟨R,0,none⟩) hb _
 refine ⟨by rw [veq hb];rfl,vep hb 0,?_⟩
 exact {
  blk:=(zag hb _).trans rfl
  hR:=h.hR
  code:=by
   have:=zbd (w':=w'.setCell ⟨R,0,none⟩ (.slice (some ⟨g,0,none⟩) (s.code.length+1) cap)) ho.own (fun k hk=>hne k (fun e=>by simp only [Value.ownBlock,vbh] at hk;omega));rw [znc,vab];exact this
  fix:=zbd h.fix (fun k hk=>by
   rw [hne k (fun e=>h.nf (by rw [hk,e]))];have hl:=(h.fix.lt k hk).2
   exact (ho.old k _ (by rw [vci hl]) (fun e=>h.apt k e hk)).trans (vci hl).symm)
  apt:=fun k h1 h2=>by
   simp only [Value.ownBlock,vbh] at h1
   rcases ho.at_ with h3 | h3
   . exact h.apt k (by rw [h3,h1]) h2
   . have:=(h.fix.lt k h2).2;omega
  nc:=fun e=>hgR (by simpa [Value.ownBlock] using e)
  nf:=h.nf
  below:=(h.below.trans ho.below).setCell (p:=⟨R,0,none⟩) h.hR _
  kp:=fun x hx=>by
   obtain ⟨h1,h2,h3,h4⟩:=h.kp x hx;refine ⟨(hne _ h2).trans (ho.old _ _ h1 h3),h2,fun e=>?_,h4⟩;simp only [Value.ownBlock,vbh] at e
   rcases ho.at_ with h5 | h5
   . exact h3 (by rw [h5,e])
   . have:=zab h1;omega }
theorem WAt.putF (h:WAt w0 w R K cv fv s) {i:Gf} {g cap:Nat} (ho:Onto w w' w0.heap.size 67 3 fv s.fixes.length g cap (ztc s.fixes++gfV i)) :
 w'.cell? ⟨R,1,none⟩=some fv/\w'.frozen? ⟨R,1,none⟩=false/\WAt w0 (w'.setCell ⟨R,1,none⟩ (.slice (some ⟨g,0,none⟩) (s.fixes.length+1) cap)) R K cv (.slice (some ⟨g,0,none⟩) (s.fixes.length+1) cap) ⟨s.code,s.fixes++[i]⟩:=by
 have hb:=ho.old R _ h.blk h.nf
 have hgR:g≠R:=fun e=>by
  rcases ho.at_ with h1 | h1
  . exact h.nf (by rw [h1,e])
  . have:=h.ltR;omega
 have hne:∀ b,b≠R->(w'.setCell ⟨R,1,none⟩ (.slice (some ⟨g,0,none⟩) (s.fixes.length+1) cap)).heap[b]? = w'.heap[b]?:=fun b hb=>zac (p:=⟨R,1,none⟩) hb _
 refine ⟨by rw [veq hb];rfl,vep hb 1,?_⟩
 exact {
  blk:=(zag hb _).trans rfl
  hR:=h.hR
  fix:=by
   have:=zbd (w':=w'.setCell ⟨R,1,none⟩ (.slice (some ⟨g,0,none⟩) (s.fixes.length+1) cap)) ho.own (fun k hk=>hne k (fun e=>by simp only [Value.ownBlock,vbh] at hk;omega));rw [znd,vab];exact this
  code:=zbd h.code (fun k hk=>by
   rw [hne k (fun e=>h.nc (by rw [hk,e]))];have hl:=(h.code.lt k hk).2
   exact (ho.old k _ (by rw [vci hl]) (fun e=>h.apt k hk e)).trans (vci hl).symm)
  apt:=fun k h2 h1=>by
   simp only [Value.ownBlock,vbh] at h1
   rcases ho.at_ with h3 | h3
   . exact h.apt k h2 (by rw [h3,h1])
   . have:=(h.code.lt k h2).2;omega
  nf:=fun e=>hgR (by simpa [Value.ownBlock] using e)
  nc:=h.nc
  below:=(h.below.trans ho.below).setCell (p:=⟨R,1,none⟩) h.hR _
  kp:=fun x hx=>by
   obtain ⟨h1,h2,h3,h4⟩:=h.kp x hx;refine ⟨(hne _ h2).trans (ho.old _ _ h1 h4),h2,h3,fun e=>?_⟩;simp only [Value.ownBlock,vbh] at e
   rcases ho.at_ with h5 | h5
   . exact h4 (by rw [h5,e])
   . have:=zab h1;omega }
end
set_option maxHeartbeats 1600000
theorem Tryz.infoInstr:(Tryz.prog.info? 69).map (fun i=>(i.zero,i.size,i.bytes))=some (some (.agg #[.int .i64 0,.int .i64 0,.int .i64 0]),3,24):=by kernel_rfl
theorem Tryz.infoFix:(Tryz.prog.info? 67).map (fun i=>(i.zero,i.size,i.bytes))=some (some (.agg #[.int .i64 0,.int .i64 0,.int .i64 0]),3,24):=by kernel_rfl
theorem zhv {w0 w:World} {R:Nat} {K:List (Nat × Obj)} {s:Wrt} (h:Wri w0 w R K s) :
 Calls Tryz.prog 78 #[.pointer (some ⟨R,0,none⟩)] w fun e w'=>e = .returned (.int .i64 s.code.length)/\w'=w:=by
 obtain ⟨-,cv,fv,h⟩:=h;obtain ⟨a,cap,rfl, -, -⟩:=zau h.code;obtain ⟨c0, -, -⟩:=h.cells;clear h;go_enter Tryz.func78,Tryz.ntmps78;go_wp2_with fail;go_ret;exact ⟨rfl,rfl⟩
theorem zpm {w0 w:World} {R:Nat} {K:List (Nat × Obj)} {s:Wrt} (h:Wri w0 w R K s) :
 Calls Tryz.prog 80 #[.pointer (some ⟨R,0,none⟩)] w fun e w'=>e = .returned (.bool (ziq s))/\w'=w:=by
 obtain ⟨-,cv,fv,h⟩:=h;obtain ⟨a,cap,rfl, -, -⟩:=zau h.code;obtain ⟨c0, -, -⟩:=h.cells;clear h;go_enter Tryz.func80,Tryz.ntmps80;go_wp2_with fail;go_ret;exact ⟨zaa (by unfold ziq;exact decide_eq_decide.2 (by omega)),rfl⟩
theorem zcd {w0 w:World} {R:Nat} {K:List (Nat × Obj)} {s:Wrt} (op a b:Int) (h:Wri w0 w R K s) (hr:s.code.length<=1000000) :
 Calls Tryz.prog 129 #[.pointer (some ⟨R,0,none⟩),.int .i64 op,.int .i64 a,.int .i64 b] w fun e w'=>e = .returned (.tuple #[])/\Wri w0 w' R K (zb1 op a b s):=by
 obtain ⟨hl,cv,fv,h⟩:=h;obtain ⟨c0, -, -⟩:=h.cells;have HM:=hid h;obtain ⟨sa,sc,rfl, -, -⟩:=zau h.code;clear h;go_enter Tryz.func129,Tryz.ntmps129
 go_wp2_with (at_builtin;refine zw5 rfl (.tmp 12) (.tmp 17) 59 rfl w0.heap.size 69 _ 3 24 Tryz.underlying59 Tryz.infoInstr rfl (by decide) w (.slice sa s.code.length sc) s.code.length (zln s.code) rfl HM.out.code #[.int .i64 op,.int .i64 a,.int .i64 b] _ rfl rfl rfl (zw4 ⟨op,a,b⟩) (by omega) (by decide) HM.out.hB _ rfl ?_;intro g cap w1 ho;obtain ⟨d0,d1,hW⟩:=HM.out.putC (i:=⟨op,a,b⟩) ho;have HW:=hid hW;clear ho hW)
 go_end0;exact ⟨rfl,by simp only [zb1,vab,vas,vbu];omega,_,_,HW.out⟩
theorem z2c:Enters Tryz.prog 78:=enters_of Tryz.func78 (by kernel_rfl) rfl
theorem zeu {w0 w:World} {R:Nat} {K:List (Nat × Obj)} {s:Wrt} (kind m op a b:Int) (h:Wri w0 w R K s) (hr:s.code.length<=1000000) :
 Calls Tryz.prog 270 #[.pointer (some ⟨R,0,none⟩),.int .i64 kind,.int .i64 m,.agg #[.int .i64 op,.int .i64 a,.int .i64 b]] w fun e w'=>e = .returned (.tuple #[])/\Wri w0 w' R K (zvf kind m ⟨op,a,b⟩ s):=by
 obtain ⟨hl,cv,fv,h⟩:=h;obtain ⟨fa,fc,rfl, -, -⟩:=zau h.fix;obtain ⟨ca,cc,rfl, -, -⟩:=zau h.code;have HK:=hid ((h.sub (K':=[]) (by simp)).box (.cells #[.int .i64 op,.int .i64 a,.int .i64 b] 69));have HM:=hid (h.box (.cells #[.int .i64 op,.int .i64 a,.int .i64 b] 69));obtain ⟨c0,c1,cf⟩:=HM.out.cells;have hRl:=HM.out.ltR;clear h;go_enter Tryz.func270,Tryz.ntmps270;go_upto_region 1 with fail;generalize hw1:w.alloc (.cells #[.int .i64 op,.int .i64 a,.int .i64 b] 69)=w1 at *;have HD:=hid HM.out.drew;have HE:=hid (fun (W:World) (hW:W=w1.drew)=>(by subst hW;exact (zhv (K:=(w.heap.size,.cells #[.int .i64 op,.int .i64 a,.int .i64 b] 69) :: K) (s:=s) ⟨hl,_,_,HD.out⟩).mono (fun e w' h=>⟨_,h.1,rfl,h.2⟩):Calls Tryz.prog 78 #[.pointer (some ⟨R,0,none⟩)] W fun e w'=>∃ u,e = .returned u/\(u = .int .i64 s.code.length/\w'=W)))
 have HC:=hid HD.out.cells.2.1;have HCa:=hid (fun o=>(HD.out.alloc o).cells.2.1)
 go_region_law
  (first
    | (refine zb4 (by rfl) 78 _ _ (by rfl) z2c _ (by rfl) (HE.out _ rfl) ?_;rintro u w2 ⟨rfl,rfl⟩)
    | (refine zjw rfl (.tmp 12) (.tmp 18) 60 rfl w0.heap.size 67 _ 3 24 Tryz.underlying60 Tryz.infoFix rfl (by decide) w1.drew (.slice fa s.fixes.length fc) s.fixes.length (ztc s.fixes) rfl HD.out.fix #[.int .i64 s.code.length,.int .i64 kind,.int .i64 m] _ (by simp) rfl rfl (z2b ⟨s.code.length,kind,m⟩) (by omega) (by decide) HD.out.hB _ rfl ?_;intro g cap w3 ho;obtain ⟨d0,d1,hW⟩:=HD.out.putF (i:=⟨s.code.length,kind,m⟩) ho;have HW:=hid hW;clear ho hW))
 all_goals
  generalize hw4:w3.setCell ⟨R,1,none⟩ (.slice (some ⟨g,0,none⟩) (s.fixes.length+1) cap)=w4 at *;clear d0 d1 c0 c1 cf hRl HE HC HCa;obtain ⟨c0,c1,cf⟩:=HW.out.cells;have hRl:=HW.out.ltR;have hk:=(HW.out.kp _ (vam ..)).1;obtain ⟨x0,x1,x2, -⟩:=zbm hk;have hbl:=zab hk;have HD4:=hid HW.out.drew;clear hk;go_wp2_with fail
  go_region_law (first
   | (refine zjw rfl (.tmp 26) (.tmp 28) 59 rfl w0.heap.size 69 _ 3 24 Tryz.underlying59 Tryz.infoInstr rfl (by decide) w4.drew (.slice ca s.code.length cc) s.code.length (zln s.code) rfl HD4.out.code #[.int .i64 op,.int .i64 a,.int .i64 b] _ (by simp) rfl rfl (zw4 ⟨op,a,b⟩) (by omega) (by decide) HD4.out.hB _ rfl ?_;intro g5 cap5 w5 ho;obtain ⟨d0,d1,hW⟩:=HD4.out.putC (i:=⟨op,a,b⟩) ho;have HW5:=hid hW;clear ho hW))
  all_goals
   go_end0;exact ⟨rfl,by simp only [zvf,vab,vas,vbu];omega,_,_,HW5.out.sub (fun x hx=>vaf _ hx)⟩
theorem zpn {w0 w:World} {R:Nat} {K:List (Nat × Obj)} {s:Wrt} (op t:Int) (h:Wri w0 w R K s) (hr:s.code.length<=1000000) :
 Calls Tryz.prog 275 #[.pointer (some ⟨R,0,none⟩),.int .i64 op,.int .i64 t] w fun e w'=>e = .returned (.tuple #[])/\Wri w0 w' R K (zdg op t s):=by
 have HW:=hid h;clear h;go_enter Tryz.func275,Tryz.ntmps275;go_wp2_with fail;refine (zeu 1 0 op t 0 HW.out hr).mono ?_;rintro e w1 ⟨rfl,h1⟩;have H1:=hid h1;clear h1;go_wp2_with fail;go_end0;exact ⟨rfl,H1.out⟩
def z7w (R:Nat):Obj:=.cells #[.pointer (some ⟨R,0,none⟩)] 134
def z9g (n:Nat):Obj:=.cells #[.int .i64 n] 3
theorem zfv {w0 w:World} {R:Nat} {K:List (Nat × Obj)} {s:Wrt} (op:Int) (h:Wri w0 w R K s) (hr:s.code.length<=1000000) :
 Calls Tryz.prog 274 #[.pointer (some ⟨R,0,none⟩),.int .i64 op] w fun e w'=>e = .returned (.func (.func 291) #[] #[.pointer (some ⟨w.heap.size,0,none⟩),.pointer (some ⟨w.heap.size+1,0,none⟩)])/\Wri w0 w' R ((w.heap.size+1,z9g s.code.length) :: (w.heap.size,z7w R) :: K) (zdg op 0 s):=by
 have HW:Hid (Wri w0 (w.alloc (.cells #[.pointer (some ⟨R,0,none⟩)] 134)) R ((w.heap.size,z7w R) :: K) s):=h.box (z7w R)
 have HW2:Hid (Wri w0 ((w.alloc (.cells #[.pointer (some ⟨R,0,none⟩)] 134)).alloc (.cells #[.int .i64 s.code.length] 3)) R ((w.heap.size+1,z9g s.code.length) :: (w.heap.size,z7w R) :: K) s):=by
  have:=(h.box (z7w R)).box (z9g s.code.length);rw [vdd] at this;exact this
 clear h;go_enter Tryz.func274,Tryz.ntmps274;go_wp2_with fail;refine (zhv HW.out).mono ?_;rintro e w1 ⟨rfl,rfl⟩;go_wp2_with fail;refine (zpn op 0 HW2.out hr).mono ?_;rintro e w1 ⟨rfl,h1⟩;have H1:=hid h1;clear h1;go_wp2_with fail;go_ret;exact ⟨rfl,H1.out⟩
theorem WAt.land {w0 w:World} {R:Nat} {K:List (Nat × Obj)} {s:Wrt} {g cap:Nat} {fv:Value} (h:WAt w0 w R K (.slice (some ⟨g,0,none⟩) s.code.length cap) fv s) (k:Nat) (hk:k<s.code.length) :
 w.cell? ⟨g,k*3+1,none⟩=some (.int .i64 s.code[k].a)/\w.frozen? ⟨g,k*3+1,none⟩=false/\WAt w0 (w.setCell ⟨g,k*3+1,none⟩ (.int .i64 s.code.length)) R K (.slice (some ⟨g,0,none⟩) s.code.length cap) fv (zcv k s):=by
 have hc:=h.code.cells (g:=g) rfl _ _ (z43 s.code k hk);rw [show (⟨g,0,none⟩:Addr).add (k*3+1)=⟨g,k*3+1,none⟩ from by unfold Addr.add;split<;>simp_all] at hc;have hg0:w0.heap.size<=g:=(h.code.lt g rfl).1
 have hne:∀ b,b≠g->(w.setCell ⟨g,k*3+1,none⟩ (.int .i64 s.code.length)).heap[b]? = w.heap[b]?:=fun b hb=>zac (p:=⟨g,k*3+1,none⟩) hb _
 have hgR:R≠g:=fun e=>h.nc (by rw [e];rfl)
 refine ⟨hc,?_,?_⟩
 . rcases h.code.2 with ⟨h1,_⟩ | ⟨g',cap',cur,hv,_,hg,_⟩
   . cases h1
   . cases hv;exact vep hg _
 . have hrow:=zvg h.code (k*3+1) (.int .i64 s.code.length) (by omega)
   rw [← zw3 s.code k _ hk] at hrow
   exact {
    blk:=(hne R hgR).trans h.blk
    hR:=h.hR
    code:=by rw [zam];exact hrow
    fix:=zbd h.fix (fun b hb=>hne b (fun e=>h.apt g rfl (by rw [hb,e])))
    apt:=h.apt
    nc:=h.nc
    nf:=h.nf
    below:=h.below.setCell (p:=⟨g,k*3+1,none⟩) hg0 _
    kp:=fun x hx=>by
     obtain ⟨h1,h2,h3,h4⟩:=h.kp x hx
     exact ⟨(hne _ (fun e=>h3 (by rw [e];rfl))).trans h1,h2,h3,h4⟩}
theorem zfw {w0 w:World} {R:Nat} {K:List (Nat × Obj)} {s:Wrt} {b k:Nat} (h:Wri w0 w R K s) (h1:(b,z7w R) ∈ K) (h2:(b+1,z9g k) ∈ K) (hk:k<s.code.length) (hr:s.code.length<=1000000) :
 Calls Tryz.prog 291 #[.pointer (some ⟨b,0,none⟩),.pointer (some ⟨b+1,0,none⟩)] w fun e w'=>e = .returned (.tuple #[])/\Wri w0 w' R K (zcv k s):=by
 have HH:=hid (fun (W:World) (hW:Wri w0 W R K s)=>((zhv hW).mono (fun e w' h=>⟨_,h.1,rfl,h.2⟩):Calls Tryz.prog 78 #[.pointer (some ⟨R,0,none⟩)] W fun e w'=>∃ u,e = .returned u/\(u = .int .i64 s.code.length/\w'=W)));have HE:=hid (HH.out _ h.drew);obtain ⟨hl,cv,fv,h⟩:=h;obtain ⟨g,cap,rfl, -⟩:=h.code.form (by omega)
 have q1:w.cell? ⟨b,0,none⟩=some (.pointer (some ⟨R,0,none⟩)):=by rw [veq (h.kp _ h1).1];rfl
 have q2:w.cell? ⟨b+1,0,none⟩=some (.int .i64 k):=by rw [veq (h.kp _ h2).1];rfl
 obtain ⟨c0, -, -⟩:=h.cells;obtain ⟨y0,y1,hL0⟩:=h.land k hk;have hL:=hL0.drew;clear hL0
 have HC:Hid (w.drew.cell? ⟨b,0,none⟩=some (.pointer (some ⟨R,0,none⟩))/\w.drew.cell? ⟨b+1,0,none⟩=some (.int .i64 k)/\w.drew.cell? ⟨R,0,none⟩=some (.slice (some ⟨g,0,none⟩) s.code.length cap)):=⟨q1,q2,c0⟩
 have HCl:Hid ((w.setCell ⟨g,k*3+1,none⟩ (.int .i64 s.code.length)).drew.cell? ⟨b,0,none⟩=some (.pointer (some ⟨R,0,none⟩))/\(w.setCell ⟨g,k*3+1,none⟩ (.int .i64 s.code.length)).drew.cell? ⟨b+1,0,none⟩=some (.int .i64 k)/\(w.setCell ⟨g,k*3+1,none⟩ (.int .i64 s.code.length)).drew.cell? ⟨R,0,none⟩=some (.slice (some ⟨g,0,none⟩) s.code.length cap)):=
  ⟨by rw [veq (hL.kp _ h1).1];rfl,by rw [veq (hL.kp _ h2).1];rfl,hL.cells.1⟩
 have HL:=hid hL;clear h hL HH h1 h2;go_enter Tryz.func291,Tryz.ntmps291;go_upto_region 0 with fail
 go_region_held_law (fun W=>W.cell? ⟨b,0,none⟩=some (.pointer (some ⟨R,0,none⟩))/\W.cell? ⟨b+1,0,none⟩=some (.int .i64 k)/\W.cell? ⟨R,0,none⟩=some (.slice (some ⟨g,0,none⟩) s.code.length cap)) (first | with_reducible exact HC.out | with_reducible exact HCl.out)
  (first
    | (refine zb4 (by rfl) 78 _ _ (by rfl) z2c _ (by rfl) HE.out ?_;rintro u w2 ⟨rfl,rfl⟩))
 all_goals
  go_end0;exact ⟨rfl,by rw [zam];exact hl,_,_,HL.out⟩
def NdC (w0:World) (R k:Nat) (y:Nd):Prop:=∀ (A:Nat->Prop) (aa:OA) (cp:Nat) (K:List (Nat × Obj)) (s:Wrt) (w:World),DAt w0 A aa y.args.length (zd5 y.args)->Wri w0 w R K s->(ndW k y s).code.length<=1000000->
 Calls Tryz.prog 216 #[.pointer (some ⟨R,0,none⟩),.agg #[.int .i64 y.op,.int .i64 y.n,.int .i64 y.m,.int .i64 y.at_,.slice aa y.args.length cp]] w fun e w'=>e = .returned (.tuple #[])/\Wri w0 w' R K (ndW k y s)
theorem zpo {w0 w:World} {R k:Nat} {K:List (Nat × Obj)} {s:Wrt} {A:Nat->Prop} {l:List Nd} {a:OA} {cap:Nat} (hN:∀ y ∈ l,NdC w0 R k y) (hD:DAt w0 A a l.length (zd5 l)) (h:Wri w0 w R K s) (hr:(zh2 (ndW k) l s).code.length<=1000000) :
 Calls Tryz.prog 273 #[.pointer (some ⟨R,0,none⟩),.slice a l.length cap] w fun e w'=>e = .returned (.tuple #[])/\Wri w0 w' R K (zh2 (ndW k) l s):=by
 have hbd:=hD.bound;have HD:=hid hD;have HW:=hid h;have HN:=hid hN;have HR:=hid (fun j=>vai (z7m (ndW k) (zdz k) l s j) hr);clear hD h hN hr;go_enter Tryz.func273,Tryz.ntmps273;go_wp2_with fail
 go_loopw [8] (fun i wr=>∃ j:Nat,j<=l.length/\i = .int .i64 j/\Wri w0 wr R K (zh2 (ndW k) (l.take j) s)) (fun i _=>l.length - (intOf i).toNat)
 case atStart=>exact ⟨0,vae _,rfl,HW.out⟩
 case round=>
  obtain ⟨j,hj,rfl,hw⟩:=hrel;have H1:=hid hw;clear hw
  by_cases hlt:j<l.length
  . obtain ⟨b,off,aa,cp,rfl,hx⟩:=(HD.out.later H1.out.below).nd j hlt
    obtain ⟨b',off',aa',cp',hb',hx'⟩:=HD.out.nd j hlt
    cases hb'
    obtain ⟨hbl,x0,x1,x2,x3,x4,_,_,_,_,_⟩:=hx;have e4:=(H1.out.below.cell (p:=⟨b,off+j*5+4,none⟩) hx'.lt).trans hx'.c4
    obtain ⟨rfl,rfl⟩:aa=aa'/\cp=cp':=by
     rw [x4] at e4;simp only [vbh,Value.slice.injEq] at e4;exact ⟨e4.1,e4.2.2⟩
    have HA:=hid hx'.args';have HT:=hid (z18 (ndW k) l s j hlt);have HR':=hid (HR.out (j+1));rw [HT.out] at HR';have HY:=hid (HN.out l[j] (vap hlt));clear e4 hx';generalize l[j]=x at *;go_wp2_with fail;refine (HY.out A aa cp K _ _ HA.out (H1.out.alloc _) HR'.out).mono ?_;rintro e w3 ⟨rfl,h3⟩;have H3:=hid h3;clear h3;go_wp2_with fail;go_roundw
    case rel=>exact ⟨j+1,by omega,by go_num,by rw [HT.out];exact H3.out⟩
    case measure=>simp [intOf];omega
  . obtain rfl:j=l.length:=by omega
    rw [vaz] at H1;go_wp2_with fail;go_end0;exact ⟨rfl,H1.out⟩
theorem zpp {w0 w:World} {R k:Nat} {K:List (Nat × Obj)} {s:Wrt} {A:Nat->Prop} {y:Nd} {aa:OA} {cp:Nat} (n m at_:Int) (hN:NdC w0 R k y) (hD:DAt w0 A aa y.args.length (zd5 y.args)) (h:Wri w0 w R K s) (hr:(ndW k y s).code.length<=1000000) :
 Calls Tryz.prog 215 #[.pointer (some ⟨R,0,none⟩),.int .i64 n,.int .i64 m,.int .i64 at_,.agg #[.int .i64 y.op,.int .i64 y.n,.int .i64 y.m,.int .i64 y.at_,.slice aa y.args.length cp]] w fun e w'=>e = .returned (.tuple #[])/\Wri w0 w' R K (zn7 (ndW k y) n m at_ s):=by
 have HW:=hid h;have HC:=hid (fun (o:Obj)=>hN A aa cp K s _ hD (h.alloc o) hr);clear h hN hD;go_enter Tryz.func215,Tryz.ntmps215;go_wp2_with fail;refine (HC.out _).mono ?_;rintro e w1 ⟨rfl,h1⟩;have H1:=hid h1;clear h1;go_wp2_with fail;refine (zeu 3 m 6 at_ n H1.out hr).mono ?_;rintro e w2 ⟨rfl,h2⟩;have H2:=hid h2;clear h2;go_wp2_with fail;go_end0;exact ⟨rfl,H2.out⟩
theorem ztd {w0 w:World} {R k:Nat} {K:List (Nat × Obj)} {s:Wrt} {A:Nat->Prop} {l:List Nd} {a:OA} {cap:Nat} (m at_:Int) (hN:∀ y ∈ l,NdC w0 R k y) (hD:DAt w0 A a l.length (zd5 l)) (h:Wri w0 w R K s) (hr:(zh2 (ndW k) l s).code.length<=1000000) :
 Calls Tryz.prog 217 #[.pointer (some ⟨R,0,none⟩),.int .i64 m,.int .i64 at_,.slice a l.length cap] w fun e w'=>e = .returned (.tuple #[])/\Wri w0 w' R K (zh3 (zh2 (ndW k) l) m at_ s):=by
 have HC:=hid (zpo (cap:=cap) hN hD h hr);clear h hN hD;go_enter Tryz.func217,Tryz.ntmps217;go_wp2_with fail;refine HC.out.mono ?_;rintro e w1 ⟨rfl,h1⟩;have H1:=hid h1;clear h1;go_wp2_with fail;refine (zeu 2 m 13 at_ 0 H1.out hr).mono ?_;rintro e w2 ⟨rfl,h2⟩;have H2:=hid h2;clear h2;go_wp2_with fail;go_end0;exact ⟨rfl,H2.out⟩
theorem z44 {w0 w:World} {R k:Nat} {K:List (Nat × Obj)} {s:Wrt} {A:Nat->Prop} {x y:Nd} {ax ay:OA} {cx cy:Nat} (hX:NdC w0 R k x) (hY:NdC w0 R k y) (dX:DAt w0 A ax x.args.length (zd5 x.args)) (dY:DAt w0 A ay y.args.length (zd5 y.args)) (h:Wri w0 w R K s) (hr:(z15 (ndW k x) (ndW k y) s).code.length<=1000000) :
 Calls Tryz.prog 271 #[.pointer (some ⟨R,0,none⟩),.agg #[.int .i64 x.op,.int .i64 x.n,.int .i64 x.m,.int .i64 x.at_,.slice ax x.args.length cx],.agg #[.int .i64 y.op,.int .i64 y.n,.int .i64 y.m,.int .i64 y.at_,.slice ay y.args.length cy]] w fun e w'=>e = .returned (.tuple #[])/\Wri w0 w' R K (z15 (ndW k x) (ndW k y) s):=by
 have m1:=zdz k x s;have m2:=zdz k y (zdg 12 0 (ndW k x s))
 have r0:(ndW k y (zdg 12 0 (ndW k x s))).code.length+3<=1000000:=by simp only [z15,zam,zah,zas] at hr;omega
 rw [zas] at m2
 have HW:Hid (Wri w0 ((w.alloc (.cells #[.int .i64 x.op,.int .i64 x.n,.int .i64 x.m,.int .i64 x.at_,.slice ax x.args.length cx] 253)).alloc (.cells #[.int .i64 y.op,.int .i64 y.n,.int .i64 y.m,.int .i64 y.at_,.slice ay y.args.length cy] 253)) R ((w.heap.size+1,(.cells #[.int .i64 y.op,.int .i64 y.n,.int .i64 y.m,.int .i64 y.at_,.slice ay y.args.length cy] 253)) :: K) s):=by
  have:=(h.alloc (.cells #[.int .i64 x.op,.int .i64 x.n,.int .i64 x.m,.int .i64 x.at_,.slice ax x.args.length cx] 253)).box (.cells #[.int .i64 y.op,.int .i64 y.n,.int .i64 y.m,.int .i64 y.at_,.slice ay y.args.length cy] 253);rw [vdd] at this;exact this
 have HX:=hid (fun K s w=>hX A ax cx K s w dX);have HY:=hid (fun K s w=>hY A ay cy K s w dY);clear h hX hY dX dY hr;go_enter Tryz.func271,Tryz.ntmps271;go_wp2_with fail;refine (HX.out _ _ _ HW.out (by omega)).mono ?_;rintro e w1 ⟨rfl,h1⟩;have H1:=hid h1;clear h1;go_wp2_with fail;refine (zfv 12 H1.out (by omega)).mono ?_;rintro e w2 ⟨rfl,h2⟩;have H2:=hid h2;clear h2;obtain ⟨q0,q1,q2,q3,q4, -⟩:=zad (H2.out.has (vaf _ (vaf _ (vam ..))));go_wp2_with fail;refine (HY.out _ _ _ H2.out (by omega)).mono ?_;rintro e w3 ⟨rfl,h3⟩;have H3:=hid h3;clear h3;clear q0 q1 q2 q3 q4;go_wp2_with fail;refine (zcd 22 0 0 H3.out (by omega)).mono ?_;rintro e w4 ⟨rfl,h4⟩;have H4:=hid h4;clear h4;go_wp2_with fail;refine (zfv 11 H4.out (by simp only [zam,zas,zah];omega)).mono ?_
 rintro e w5 ⟨rfl,h5⟩;have H5:=hid h5;clear h5
 go_wp2_with (go_at_call 291;refine (zfw (b:=w1.heap.size) (k:=(ndW k x s).code.length) H5.out (by simp) (by simp) (by simp only [zam,zas,zah];omega) (by simp only [zam,zas,zah];omega)).mono ?_;rintro e w6 ⟨rfl,h6⟩;have H6:=hid h6;clear h6)
 refine (zcd 1 0 0 H6.out (by simp only [zam,zas,zah];omega)).mono ?_;rintro e w7 ⟨rfl,h7⟩;have H7:=hid h7;clear h7
 go_wp2_with (go_at_call 291;refine (zfw (b:=w4.heap.size) (k:=(zb1 22 0 0 (ndW k y (zdg 12 0 (ndW k x s)))).code.length) H7.out (by simp) (by simp) (by simp only [zam,zas,zah];omega) (by simp only [zam,zas,zah];omega)).mono ?_;rintro e w8 ⟨rfl,h8⟩;have H8:=hid h8;clear h8)
 go_end0;exact ⟨rfl,H8.out.tail.tail.tail.tail.tail⟩
theorem z7o {w0 w:World} {R k:Nat} {K:List (Nat × Obj)} {s:Wrt} {A:Nat->Prop} {x y:Nd} {ax ay:OA} {cx cy:Nat} (hX:NdC w0 R k x) (hY:NdC w0 R k y) (dX:DAt w0 A ax x.args.length (zd5 x.args)) (dY:DAt w0 A ay y.args.length (zd5 y.args)) (h:Wri w0 w R K s) (hr:(orW (ndW k x) (ndW k y) s).code.length<=1000000) :
 Calls Tryz.prog 272 #[.pointer (some ⟨R,0,none⟩),.agg #[.int .i64 x.op,.int .i64 x.n,.int .i64 x.m,.int .i64 x.at_,.slice ax x.args.length cx],.agg #[.int .i64 y.op,.int .i64 y.n,.int .i64 y.m,.int .i64 y.at_,.slice ay y.args.length cy]] w fun e w'=>e = .returned (.tuple #[])/\Wri w0 w' R K (orW (ndW k x) (ndW k y) s):=by
 have m1:=zdz k x s;have m2:=zdz k y (zcv (ndW k x s).code.length (zdg 11 0 (zb1 1 1 0 (zdg 12 0 (ndW k x s)))))
 have r0:(ndW k y (zcv (ndW k x s).code.length (zdg 11 0 (zb1 1 1 0 (zdg 12 0 (ndW k x s)))))).code.length+1<=1000000:=by simp only [orW,zam,zah,zas] at hr;omega
 simp only [zam,zah,zas] at m2
 have HW:Hid (Wri w0 ((w.alloc (.cells #[.int .i64 x.op,.int .i64 x.n,.int .i64 x.m,.int .i64 x.at_,.slice ax x.args.length cx] 253)).alloc (.cells #[.int .i64 y.op,.int .i64 y.n,.int .i64 y.m,.int .i64 y.at_,.slice ay y.args.length cy] 253)) R ((w.heap.size+1,(.cells #[.int .i64 y.op,.int .i64 y.n,.int .i64 y.m,.int .i64 y.at_,.slice ay y.args.length cy] 253)) :: K) s):=by
  have:=(h.alloc (.cells #[.int .i64 x.op,.int .i64 x.n,.int .i64 x.m,.int .i64 x.at_,.slice ax x.args.length cx] 253)).box (.cells #[.int .i64 y.op,.int .i64 y.n,.int .i64 y.m,.int .i64 y.at_,.slice ay y.args.length cy] 253);rw [vdd] at this;exact this
 have HX:=hid (fun K s w=>hX A ax cx K s w dX);have HY:=hid (fun K s w=>hY A ay cy K s w dY);clear h hX hY dX dY hr;go_enter Tryz.func272,Tryz.ntmps272;go_wp2_with fail;refine (HX.out _ _ _ HW.out (by omega)).mono ?_;rintro e w1 ⟨rfl,h1⟩;have H1:=hid h1;clear h1;go_wp2_with fail;refine (zfv 12 H1.out (by omega)).mono ?_;rintro e w2 ⟨rfl,h2⟩;have H2:=hid h2;clear h2;go_wp2_with fail;refine (zcd 1 1 0 H2.out (by simp only [zam,zas,zah];omega)).mono ?_;rintro e w3 ⟨rfl,h3⟩;have H3:=hid h3;clear h3;go_wp2_with fail;refine (zfv 11 H3.out (by simp only [zam,zas,zah];omega)).mono ?_;rintro e w4 ⟨rfl,h4⟩;have H4:=hid h4;clear h4
 go_wp2_with (go_at_call 291;refine (zfw (b:=w1.heap.size) (k:=(ndW k x s).code.length) H4.out (by simp) (by simp) (by simp only [zam,zas,zah];omega) (by simp only [zam,zas,zah];omega)).mono ?_;rintro e w5 ⟨rfl,h5⟩;have H5:=hid h5;clear h5;obtain ⟨q0,q1,q2,q3,q4, -⟩:=zad (H5.out.has (vaf _ (vaf _ (vaf _ (vaf _ (vam ..)))))))
 refine (HY.out _ _ _ H5.out (by omega)).mono ?_;rintro e w6 ⟨rfl,h6⟩;have H6:=hid h6;clear h6;clear q0 q1 q2 q3 q4;go_wp2_with fail;refine (zcd 22 0 0 H6.out (by omega)).mono ?_;rintro e w7 ⟨rfl,h7⟩;have H7:=hid h7;clear h7
 go_wp2_with (go_at_call 291;refine (zfw (b:=w3.heap.size) (k:=(zb1 1 1 0 (zdg 12 0 (ndW k x s))).code.length) H7.out (by simp) (by simp) (by simp only [zam,zas,zah];omega) (by simp only [zam,zas,zah];omega)).mono ?_;rintro e w8 ⟨rfl,h8⟩;have H8:=hid h8;clear h8)
 go_end0;exact ⟨rfl,H8.out.tail.tail.tail.tail.tail⟩
end Go.Proofs.YtndkhgakfodldaaGreatDoor
