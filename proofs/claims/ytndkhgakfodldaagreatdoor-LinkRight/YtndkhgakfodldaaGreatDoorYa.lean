import Derived.Test.YtndkhgakfodldaaGreatDoorUn
import Derived.Deep.RegionHeldLaw
namespace Go.Proofs.YtndkhgakfodldaaGreatDoor
set_option maxRecDepth 100000
set_option maxHeartbeats 6400000
open Go.RowKit Go.Maps Go.WideMaps
set_option linter.unusedSimpArgs false
set_option linter.unusedVariables false
def Apt (v u:Value):Prop:=∀ k,v.ownBlock=some k->u.ownBlock≠some k
theorem Apt.symm {v u:Value} (h:Apt v u):Apt u v:=fun k h1 h2=>h k h2 h1
theorem Apt.nil (u:Value):Apt (qs) u:=fun k h=>by simp [Value.ownBlock] at h
def zls (w:World) (a:OA) (l:List Bool):Prop:=l=[]\/∃ b off,a=some (qa b off)/\b<w.heap.size/\∀ i (h:i<l.length),w.cell? ⟨b,off+i,none⟩=some (.bool l[i])
theorem zls.later {w w':World} {a:OA} {l:List Bool} (h:zls w a l) (hb:qb w w'):zls w' a l:=by
 rcases h with h | ⟨b,off,e,hl,h⟩
 . exact Or.inl h
 . exact Or.inr ⟨b,off,e,vah hl hb.size,fun i hi=>(hb.cell (p:=⟨b,off+i,none⟩) hl).trans (h i hi)⟩
theorem zls.place {w:World} {a:OA} {l:List Bool} (h:zls w a l) {k:Nat} (hk:k<l.length):∃ b off,a=some (qa b off)/\b<w.heap.size/\w.cell? ⟨b,off+k,none⟩=some (.bool l[k]):=by
 rcases h with h | ⟨b,off,e,hl,h⟩
 . subst h;simp at hk
 . exact ⟨b,off,e,hl,h k hk⟩
structure Gi where
 op:Int
 a:Int
 b:Int
structure Gf where
 at_:Int
 kind:Int
 m:Int
structure Wrt where
 code:List Gi
 fixes:List Gf
def zbq (op a b:Int) (s:Wrt):Wrt:=⟨s.code++[⟨op,a,b⟩],s.fixes⟩
def ztu (kind m:Int) (i:Gi) (s:Wrt):Wrt:=⟨s.code++[i],s.fixes++[⟨s.code.length,kind,m⟩]⟩
def zcs (op t:Int) (s:Wrt):Wrt:=ztu 1 0 ⟨op,t,0⟩ s
def zxd (x:Int) (i:Gi):Gi:=⟨i.op,x,i.b⟩
def zcd (k:Nat) (s:Wrt):Wrt:=⟨s.code.modify k (zxd s.code.length),s.fixes⟩
def zhh (s:Wrt):Bool:=decide (2048<s.code.length)
def z0j (f g:Wrt->Wrt) (s:Wrt):Wrt:=
 let s1:=f s
 let s4:=zbq 22 0 0 (g (zcs 12 0 s1))
 zcd s4.code.length (zbq 1 0 0 (zcd s1.code.length (zcs 11 0 s4)))
def orW (f g:Wrt->Wrt) (s:Wrt):Wrt:=
 let s1:=f s
 let s3:=zbq 1 1 0 (zcs 12 0 s1)
 zcd s3.code.length (zbq 22 0 0 (g (zcd s1.code.length (zcs 11 0 s3))))
def nd0:Nd:=⟨0,0,0,0,[]⟩
def argN (l:List Nd) (i:Nat):Nd:=l.getD i nd0
def zgu (f:Nd->Wrt->Wrt) (l:List Nd) (s:Wrt):Wrt:=l.foldl (fun s y=>f y s) s
def zml (f:Wrt->Wrt) (n m at_:Int) (s:Wrt):Wrt:=ztu 3 m ⟨6,at_,n⟩ (f s)
def zgv (f:Wrt->Wrt) (m at_:Int) (s:Wrt):Wrt:=ztu 2 m ⟨13,at_,0⟩ (f s)
def ndW:Nat->Nd->Wrt->Wrt
 | 0,_,s=>s
 | k+1,x,s=>
   if x.op=1 then zbq 1 x.n 0 s
   else if x.op=2 then zbq 18 0 0 s
   else if x.op=16 then zbq 2 x.at_ 0 s
   else if x.op=3 then ztu 3 x.m ⟨4,x.at_,0⟩ s
   else if x.op=4 then zbq 7 0 0 (zml (ndW k (argN x.args 0)) x.n x.m x.at_ s)
   else if x.op=5 then zgv (zgu (ndW k) x.args) x.m x.at_ s
   else if x.op=6 then zbq 9 0 0 (ndW k (argN x.args 0) s)
   else if x.op=7 then z0j (ndW k (argN x.args 0)) (ndW k (argN x.args 1)) s
   else if x.op=8 then orW (ndW k (argN x.args 0)) (ndW k (argN x.args 1)) s
   else zbq 10 x.op 0 (zgu (ndW k) x.args s)
def zdh (f:Ac->Wrt->Wrt) (l:List Ac) (s:Wrt):Wrt:=l.foldl (fun s y=>if zhh s=true then s else f y s) s
def z4g (f:Wrt->Wrt) (m at_:Int) (s:Wrt):Wrt:=if m = -1 then zbq 3 at_ 0 (f s) else ztu 3 m ⟨5,at_,0⟩ (f s)
def brW (f g h:Wrt->Wrt) (e:Bool) (s:Wrt):Wrt:=
 let s1:=f s
 let s2:=g (zcs 12 0 s1)
 if e=true then zcd s1.code.length s2
 else zcd s2.code.length (h (zcd s1.code.length (zcs 11 0 s2)))
def whW (f g:Wrt->Wrt) (s:Wrt):Wrt:=
 let s1:=f s
 zcd s1.code.length (zcs 11 s.code.length (g (zbq 16 0 0 (zcs 12 0 s1))))
def acW:Nat->Ac->Wrt->Wrt
 | 0,_,s=>s
 | k+1,a,s=>
   if a.op=1 then z4g (ndW 6 (argN a.args 0)) a.m a.at_ s
   else if a.op=2 then zbq 8 0 0 (ndW 6 (argN a.args 1) (zml (ndW 6 (argN a.args 0)) a.n a.m a.at_ s))
   else if a.op=3 then zbq 17 0 0 (zgv (zgu (ndW 6) a.args) a.m a.at_ s)
   else if a.op=4 then brW (ndW 6 (argN a.args 0)) (zdh (acW k) a.body) (zdh (acW k) a.other) a.other.isEmpty s
   else if a.op=5 then whW (ndW 6 (argN a.args 0)) (zdh (acW k) a.body) s
   else if a.op=6 then zbq 15 0 0 (ndW 6 (argN a.args 0) s)
   else if a.op=7 then zbq 19 0 0 (ndW 6 (argN a.args 0) s)
   else s
def zpn (p:Pt) (s:Wrt):Wrt:=zbq 15 0 0 (zbq 1 0 0 (zdh (acW 6) p.body (zbq 14 p.params p.locals s)))
def zlt (f:Wrt->Wrt):Prop:=∀ s,s.code.length<=(f s).code.length
theorem zac (op a b:Int) (s:Wrt):(zbq op a b s).code.length=s.code.length+1:=by simp [zbq]
theorem za2 (k m:Int) (i:Gi) (s:Wrt):(ztu k m i s).code.length=s.code.length+1:=by simp [ztu]
theorem zak (op t:Int) (s:Wrt):(zcs op t s).code.length=s.code.length+1:=za2 ..
theorem zae (k:Nat) (s:Wrt):(zcd k s).code.length=s.code.length:=by simp [zcd]
theorem zia {f:Nd->Wrt->Wrt} (hf:∀ x,zlt (f x)):∀ l,zlt (zgu f l)
 | [],s=>vaa _
 | x :: r,s=>vbc (hf x s) (zia hf r (f x s))
theorem zch {f:Ac->Wrt->Wrt} (hf:∀ x,zlt (f x)):∀ l,zlt (zdh f l)
 | [],s=>vaa _
 | x :: r,s=>by
   show _<=(zdh f r (if zhh s=true then s else f x s)).code.length;refine vbc ?_ (zch hf r _);split
   . exact vaa _
   . exact hf x s
theorem z0k {f g:Wrt->Wrt} (hf:zlt f) (hg:zlt g):zlt (z0j f g):=fun s=>by
 have h1:=hf s;have h2:=hg (zcs 12 0 (f s));simp only [z0j,zae,zac,zak] at h2 ⊢;omega
theorem z3i {f g:Wrt->Wrt} (hf:zlt f) (hg:zlt g):zlt (orW f g):=fun s=>by
 have h1:=hf s;have h2:=hg (zcd (f s).code.length (zcs 11 0 (zbq 1 1 0 (zcs 12 0 (f s)))));simp only [orW,zae,zac,zak] at h2 ⊢;omega
theorem zdd:∀ k x,zlt (ndW k x)
 | 0,_,s=>vaa _
 | k+1,x,s=>by
   have ih:=fun y=>zdd k y
   have h1:=ih (argN x.args 0) s;have h2:=zia ih x.args s;have h3:=z0k (ih (argN x.args 0)) (ih (argN x.args 1)) s;have h4:=z3i (ih (argN x.args 0)) (ih (argN x.args 1)) s;unfold ndW
   repeat' split
   all_goals first | assumption | (simp only [zac,za2,zml,zgv];omega)
theorem z3j {f g h:Wrt->Wrt} (hf:zlt f) (hg:zlt g) (hh:zlt h) (e:Bool):zlt (brW f g h e):=fun s=>by
 have h1:=hf s;have h2:=hg (zcs 12 0 (f s));have h3:=hh (zcd (f s).code.length (zcs 11 0 (g (zcs 12 0 (f s)))));simp only [brW,zae,zac,zak] at h2 h3 ⊢
 split<;>simp only [zae]<;>omega
theorem z3k {f g:Wrt->Wrt} (hf:zlt f) (hg:zlt g):zlt (whW f g):=fun s=>by
 have h1:=hf s;have h2:=hg (zbq 16 0 0 (zcs 12 0 (f s)));simp only [whW,zae,zac,zak] at h2 ⊢;omega
theorem z0l {f:Wrt->Wrt} (hf:zlt f) (m at_:Int):zlt (z4g f m at_):=fun s=>by
 have h1:=hf s;unfold z4g
 split<;>simp only [zac,za2]<;>omega
theorem zfr:∀ k x,zlt (acW k x)
 | 0,_,s=>vaa _
 | k+1,x,s=>by
   have ih:=fun y=>zfr k y
   have n0:=zdd 6 (argN x.args 0);have h1:=n0 s;have h2:=z0l n0 x.m x.at_ s;have h3:=zdd 6 (argN x.args 1) (zml (ndW 6 (argN x.args 0)) x.n x.m x.at_ s);have h4:=zia (zdd 6) x.args s;have h5:=z3j n0 (zch ih x.body) (zch ih x.other) x.other.isEmpty s;have h6:=z3k n0 (zch ih x.body) s;unfold acW
   repeat' split
   all_goals first | assumption | (simp only [zac,za2,zml,zgv] at h3 ⊢;omega)
theorem zri (f:Ac->Wrt->Wrt):∀ (l:List Ac) (s:Wrt),zhh s=true->zdh f l s=s
 | [],s,_=>rfl
 | x :: r,s,h=>by
   show zdh f r (if zhh s=true then s else f x s)=s;rw [if_pos h];exact zri f r s h
theorem z0m (f:Nd->Wrt->Wrt) (l:List Nd) (s:Wrt) (j:Nat) (h:j<l.length):zgu f (l.take (j+1)) s=f l[j] (zgu f (l.take j) s):=by
 rw [vaf h];unfold zgu;rw [vbk]
 rfl
theorem z0n (f:Ac->Wrt->Wrt) (l:List Ac) (s:Wrt) (j:Nat) (h:j<l.length) (hn:zhh (zdh f (l.take j) s)=false):zdh f (l.take (j+1)) s=f l[j] (zdh f (l.take j) s):=by
 rw [vaf h];unfold zdh at hn ⊢;rw [vbk];simp only [List.foldl_cons,List.foldl_nil];rw [if_neg (by rw [hn];decide)]
theorem z0o (f:Ac->Wrt->Wrt) (l:List Ac) (s:Wrt) (j:Nat) (hn:zhh (zdh f (l.take j) s)=true):zdh f l s=zdh f (l.take j) s:=by
 have:=zri f (l.drop j) (zdh f (l.take j) s) hn;rw [← this];unfold zdh;rw [← vbk,vco]
theorem z6g (f:Nd->Wrt->Wrt) (hf:∀ x,zlt (f x)) (l:List Nd) (s:Wrt) (j:Nat):(zgu f (l.take j) s).code.length<=(zgu f l s).code.length:=by
 have:=zia hf (l.drop j) (zgu f (l.take j) s);unfold zgu at this ⊢;rwa [← vbk,vco] at this
theorem z6h (f:Ac->Wrt->Wrt) (hf:∀ x,zlt (f x)) (l:List Ac) (s:Wrt) (j:Nat):(zdh f (l.take j) s).code.length<=(zdh f l s).code.length:=by
 have:=zch hf (l.drop j) (zdh f (l.take j) s);unfold zdh at this ⊢;rwa [← vbk,vco] at this
theorem zgo (l:List Nd) (i:Nat) (h:i<l.length):argN l i=l[i]:=by simp [argN,vay,vae h]
def giV (i:Gi):List Value:=[qi i.op,qi i.a,qi i.b]
def zen (l:List Gi):List Value:=l.flatMap giV
def gfV (f:Gf):List Value:=[qi f.at_,qi f.kind,qi f.m]
def z3l (l:List Gf):List Value:=l.flatMap gfV
theorem zlu (l:List Gi) (i:Gi):zen (l++[i])=zen l++giV i:=by simp [zen]
theorem z0p (l:List Gf) (i:Gf):z3l (l++[i])=z3l l++gfV i:=by simp [z3l]
theorem zvl (l:List Gi):(zen l).length=l.length*3:=by
 induction l with
 | nil=>rfl
 | cons x r ih=>simp only [zen,vbf,vam,vav] at ih ⊢;rw [ih];simp [giV];omega
theorem zpo:∀ (l:List Gi) (k:Nat) (x:Int),k<l.length->zen (l.modify k (zxd x))=(zen l).set (k*3+1) (qi x)
 | [],k,_,h=>by simp at h
 | i :: r,0,x,_=>by simp [zen,giV,zxd]
 | i :: r,k+1,x,h=>by
   have:=zpo r k x (by simpa using h);simp only [zen,List.modify_succ_cons,vbf] at this ⊢;rw [this,show (k+1)*3+1=(giV i).length+(k*3+1) from by simp [giV];omega,List.set_append_right _ _ (by omega),Nat.add_sub_cancel_left]
theorem zvm (l:List Gi) (k:Nat) (h:k<l.length):(zen l)[k*3+1]? = some (qi l[k].a):=by
 induction l generalizing k with
 | nil=>simp at h
 | cons x r ih=>
   cases k with
   | zero=>rfl
   | succ k=>
     have:=ih k (by simpa using h);simp only [zen,vbf,vbn] at this ⊢;rw [vbd (by simp [giV];omega),show (k+1)*3+1 - (giV x).length=k*3+1 from by simp [giV];omega];exact this
theorem zrj (i:Gi):∀ u ∈ giV i,u.oneCell'=true:=by simp [giV];exact ⟨rfl,rfl,rfl⟩
theorem z8a (i:Gf):∀ u ∈ gfV i,u.oneCell'=true:=by simp [gfV];exact ⟨rfl,rfl,rfl⟩
structure Onto (w w':World) (B:Nat) (e:TypeId) (size:Nat) (v:Value) (n:Nat) (g cap:Nat) (xs:List Value):Prop where
 own:w'.ownsRow B e size (.slice (some (qa g 0)) (n+1) cap) (n+1) xs
 below:Below B w w'
 size:w.heap.size<w'.heap.size
 old:∀ (b:Nat) (x:Obj),w.heap[b]? = some x->v.ownBlock≠some b->w'.heap[b]? = some x
 at_:v.ownBlock=some g\/w.heap.size<g
theorem zj6 {P:Program} {ops:Array Oper} {rest:List Oper} {o:Oper} {a:Act} {Q:Exit->Act->World->Prop} (BA:o.guard=none) (s x:Operand) (t:TypeId)
 (ho:o.op = .call { callee:=.builtin .append,args:=#[s,x],argTypes:=#[t,t] }) (base:Nat) (e:TypeId) (z:Value) (size bytes:Nat) (ht:P.underlying t=some (.slice e))
 (hi:(P.info? e).map (fun i=>(i.zero,i.size,i.bytes))=some (some z,size,bytes)) (FD:z.cells.size=size) (Ce:0<size) (w:World) (v:Value) (n:Nat) (xs:List Value) (hs:a.eval s=v) (Aa:w.ownsRow base e size v n xs)
 (cs:Array Value) (H:Nat) (hH:H=w.heap.size) (hx:a.eval x = .slice (some (qa H 0)) 1 1) (Bl:cs.size=size) (h1:∀ u ∈ cs.toList,u.oneCell'=true)
 (hn:n<=2000000) (Dr:bytes<=200) (AO:base<=w.heap.size) (W:World) (hW:W=w.alloc (.cells cs e))
 (h:∀ g cap w',Onto w w' base e size v n g cap (xs++cs.toList)->wpList P ops Q rest (a.put o.dst (.slice (some (qa g 0)) (n+1) cap)) w') :
 wpList P ops Q (o :: rest) a W:=by
 subst hW;obtain ⟨i0,hi,Bq,An,AA⟩:=info_parts hi
 have C3:(w.alloc (.cells cs e)).heap.size=w.heap.size+1:=by simp
 refine wpList_append_lies (w.alloc (.cells cs e)) BA s x t ho base e i0 z size bytes ht hi Bq An AA FD Ce v n xs hs (Aa.alloc _) (qa H 0) 1 1 cs.toList hx (by simp [Bl]) ?_ h1 (by omega) (by unfold maxLen;omega) ?_ (by omega) _ rfl ?_
 . intro j u hj
   subst hH
   have:((qa w.heap.size 0):Addr).add j=(qa w.heap.size j):=by unfold Addr.add;split<;>simp_all
   rw [this,vef (heap_newP w _)];simpa using hj
 . have:(n+1)*bytes<=2000001*200:=vdr (by omega) Dr
   omega
 . intro g cap w' Cf AJ AH A4
   have M1:=AJ.size;refine h g cap w' ⟨Cf,((Below.refl base w).alloc AO _).grown AJ (by omega) (fun k hk=>(Aa.lt k hk).1),by omega,fun b x hb Ak=>?_,AH.imp id (fun e=>by omega)⟩;have AY:(w.alloc (.cells cs e)).heap[b]? = some x:=zab hb;exact (AJ.block b (lt_of_heap AY) (fun e=>Ak e.symm)).trans AY
theorem zib {P:Program} {ops:Array Oper} {o:Oper} {a:Act} {K:Act->World->Prop} {Q:Exit->Act->World->Prop} {E:Prop} (BA:o.guard=none) (s x:Operand) (t:TypeId)
 (ho:o.op = .call { callee:=.builtin .append,args:=#[s,x],argTypes:=#[t,t] }) (base:Nat) (e:TypeId) (z:Value) (size bytes:Nat) (ht:P.underlying t=some (.slice e))
 (hi:(P.info? e).map (fun i=>(i.zero,i.size,i.bytes))=some (some z,size,bytes)) (FD:z.cells.size=size) (Ce:0<size) (w:World) (v:Value) (n:Nat) (xs:List Value) (hs:a.eval s=v) (Aa:w.ownsRow base e size v n xs)
 (cs:Array Value) (H:Nat) (hH:H=w.heap.size) (hx:a.eval x = .slice (some (qa H 0)) 1 1) (Bl:cs.size=size) (h1:∀ u ∈ cs.toList,u.oneCell'=true)
 (hn:n<=2000000) (Dr:bytes<=200) (AO:base<=w.heap.size) (W:World) (hW:W=w.alloc (.cells cs e))
 (h:∀ g cap w',Onto w w' base e size v n g cap (xs++cs.toList)->K (a.put o.dst (.slice (some (qa g 0)) (n+1) cap)) w') :
 if Region.wanted o (yielded ops a.tmps)=true then Oper.wp P o a W K Q else E:=by
 subst hW;obtain ⟨i0,hi,Bq,An,AA⟩:=info_parts hi
 have C3:(w.alloc (.cells cs e)).heap.size=w.heap.size+1:=by simp
 refine step_append_lies (w.alloc (.cells cs e)) BA s x t ho base e i0 z size bytes ht hi Bq An AA FD Ce v n xs hs (Aa.alloc _) (qa H 0) 1 1 cs.toList hx (by simp [Bl]) ?_ h1 (by omega) (by unfold maxLen;omega) ?_ (by omega) _ rfl ?_
 . intro j u hj
   subst hH
   have:((qa w.heap.size 0):Addr).add j=(qa w.heap.size j):=by unfold Addr.add;split<;>simp_all
   rw [this,vef (heap_newP w _)];simpa using hj
 . have:(n+1)*bytes<=2000001*200:=vdr (by omega) Dr
   omega
 . intro g cap w' Cf AJ AH A4
   have M1:=AJ.size;refine h g cap w' ⟨Cf,((Below.refl base w).alloc AO _).grown AJ (by omega) (fun k hk=>(Aa.lt k hk).1),by omega,fun b x hb Ak=>?_,AH.imp id (fun e=>by omega)⟩;have AY:(w.alloc (.cells cs e)).heap[b]? = some x:=zab hb;exact (AJ.block b (lt_of_heap AY) (fun e=>Ak e.symm)).trans AY
theorem zai {w w':World} {B:Nat} {e:TypeId} {sz:Nat} {v:Value} {n:Nat} {xs:List Value} (h:w.ownsRow B e sz v n xs) (hk:∀ k,v.ownBlock=some k->w'.heap[k]? = w.heap[k]?):w'.ownsRow B e sz v n xs:=by
 refine ⟨h.1,?_⟩
 rcases h.2 with h1 | ⟨g,cap,AC,hv,hb,hg,hr⟩
 . exact Or.inl h1
 . exact Or.inr ⟨g,cap,AC,hv,hb,(hk g (by rw [hv];rfl)).trans hg,hr⟩
theorem zal {w:World} {B:Nat} {e:TypeId} {sz:Nat} {v:Value} {n:Nat} {xs:List Value} (h:w.ownsRow B e sz v n xs):∃ a cap,v = .slice a n cap/\n<=cap/\cap<=maxLen:=by
 rcases h.2 with ⟨h1,h2⟩ | ⟨g,cap,AC,hv,_,_,h3,h4,_⟩
 . exact ⟨none,0,by rw [h2];exact h1,by omega,by unfold maxLen;omega⟩
 . exact ⟨_,cap,hv,h3,h4⟩
theorem ownsRow_set {w:World} {B:Nat} {e:TypeId} {sz:Nat} {g n cap:Nat} {xs:List Value} (h:w.ownsRow B e sz (.slice (some (qa g 0)) n cap) n xs) (j:Nat) (u:Value) (hj:j<n*sz) :
 (w.setCell (qa g j) u).ownsRow B e sz (.slice (some (qa g 0)) n cap) n (xs.set j u):=by
 refine ⟨by rw [List.length_set];exact h.1,?_⟩
 rcases h.2 with ⟨h1,_⟩ | ⟨g',cap',AC,hv,hb,hg,h3,h4,h5,h6⟩
 . cases h1
 . cases hv
   refine Or.inr ⟨g,cap,AC.setIfInBounds j u,rfl,hb,heap_set hg u,h3,h4,by rw [Array.size_setIfInBounds];exact h5,?_⟩;rw [Array.toList_setIfInBounds,← h6,List.take_set]
structure WAt (w0 w:World) (R:Nat) (K:List (Nat × Obj)) (cv fv:Value) (s:Wrt):Prop where
 blk:w.heap[R]? = some (.cells #[cv,fv] 136)
 hR:w0.heap.size<=R
 code:w.ownsRow w0.heap.size 69 3 cv s.code.length (zen s.code)
 fix:w.ownsRow w0.heap.size 67 3 fv s.fixes.length (z3l s.fixes)
 apt:Apt cv fv
 nc:cv.ownBlock≠some R
 nf:fv.ownBlock≠some R
 below:qb w0 w
 kp:∀ x ∈ K,w.heap[x.1]? = some x.2/\x.1≠R/\cv.ownBlock≠some x.1/\fv.ownBlock≠some x.1
def Wri (w0 w:World) (R:Nat) (K:List (Nat × Obj)) (s:Wrt):Prop:=s.fixes.length<=s.code.length/\∃ cv fv,WAt w0 w R K cv fv s
section
variable {w0 w w':World} {R:Nat} {K K':List (Nat × Obj)} {cv fv:Value} {s:Wrt}
theorem WAt.ltR (h:WAt w0 w R K cv fv s):R<w.heap.size:=lt_of_heap h.blk
theorem WAt.hB (h:WAt w0 w R K cv fv s):w0.heap.size<=w.heap.size:=vbc h.hR (Nat.le_of_lt h.ltR)
theorem WAt.later (h:WAt w0 w R K cv fv s) (hb:qb w w'):WAt w0 w' R K cv fv s:=
 { h with
   blk:=(hb.block R h.ltR).trans h.blk
   code:=ownsRow_later h.code hb
   fix:=ownsRow_later h.fix hb
   below:=h.below.trans (hb.mono h.hB)
   kp:=fun x hx=>⟨(hb.block _ (lt_of_heap (h.kp x hx).1)).trans (h.kp x hx).1,(h.kp x hx).2⟩}
theorem WAt.alloc (h:WAt w0 w R K cv fv s) (o:Obj):WAt w0 (w.alloc o) R K cv fv s:=h.later ((Below.refl _ _).alloc (vaa _) o)
theorem WAt.drew (h:WAt w0 w R K cv fv s):WAt w0 w.drew R K cv fv s:=h.later (Below.refl _ _).drew
theorem WAt.box (h:WAt w0 w R K cv fv s) (o:Obj):WAt w0 (w.alloc o) R ((w.heap.size,o) :: K) cv fv s:=
 { h.alloc o with
   kp :=fun x hx=>by
    rcases vca.1 hx with rfl | hx
    . refine ⟨heap_newP w o,fun e=>by have:=h.ltR;simp only at e;omega,fun e=>?_,fun e=>?_⟩
      . have:=(h.code.lt _ e).2;simp only at this;omega
      . have:=(h.fix.lt _ e).2;simp only at this;omega
    . exact (h.alloc o).kp x hx }
theorem WAt.sub (h:WAt w0 w R K cv fv s) (hK:∀ x ∈ K',x ∈ K):WAt w0 w R K' cv fv s:={ h with kp:=fun x hx=>h.kp x (hK x hx) }
theorem Wri.later (h:Wri w0 w R K s) (hb:qb w w'):Wri w0 w' R K s:=by obtain ⟨hl,_,_,h⟩:=h;exact ⟨hl,_,_,h.later hb⟩
theorem Wri.alloc (h:Wri w0 w R K s) (o:Obj):Wri w0 (w.alloc o) R K s:=by obtain ⟨hl,_,_,h⟩:=h;exact ⟨hl,_,_,h.alloc o⟩
theorem Wri.drew (h:Wri w0 w R K s):Wri w0 w.drew R K s:=by obtain ⟨hl,_,_,h⟩:=h;exact ⟨hl,_,_,h.drew⟩
theorem Wri.box (h:Wri w0 w R K s) (o:Obj):Wri w0 (w.alloc o) R ((w.heap.size,o) :: K) s:=by obtain ⟨hl,_,_,h⟩:=h;exact ⟨hl,_,_,h.box o⟩
theorem Wri.sub (h:Wri w0 w R K s) (hK:∀ x ∈ K',x ∈ K):Wri w0 w R K' s:=by obtain ⟨hl,_,_,h⟩:=h;exact ⟨hl,_,_,h.sub hK⟩
theorem Wri.tail {x:Nat × Obj} (h:Wri w0 w R (x :: K) s):Wri w0 w R K s:=h.sub fun _=>vai _
theorem Wri.has (h:Wri w0 w R K s) {b:Nat} {o:Obj} (hx:(b,o) ∈ K):w.heap[b]? = some o:=by obtain ⟨_,_,_,h⟩:=h;exact (h.kp _ hx).1
theorem Wri.head {b:Nat} {o:Obj} (h:Wri w0 w R ((b,o) :: K) s):w.heap[b]? = some o:=h.has (var ..)
theorem Wri.below (h:Wri w0 w R K s):qb w0 w:=by obtain ⟨_,_,_,h⟩:=h;exact h.below
theorem WAt.cells (h:WAt w0 w R K cv fv s):w.cell? (qa R 0)=some cv/\w.cell? (qa R 1)=some fv/\∀ j,w.frozen? (qa R j)=false:=
 ⟨by rw [vef h.blk];rfl,by rw [vef h.blk];rfl,fun j=>veg h.blk j⟩
theorem WAt.putC (h:WAt w0 w R K cv fv s) {i:Gi} {g cap:Nat} (ho:Onto w w' w0.heap.size 69 3 cv s.code.length g cap (zen s.code++giV i)) :
 w'.cell? (qa R 0)=some cv/\w'.frozen? (qa R 0)=false/\WAt w0 (w'.setCell (qa R 0) (.slice (some (qa g 0)) (s.code.length+1) cap)) R K (.slice (some (qa g 0)) (s.code.length+1) cap) fv ⟨s.code++[i],s.fixes⟩:=by
 have hb:=ho.old R _ h.blk h.nc
 have Jh:g≠R:=fun e=>by
  rcases ho.at_ with h1 | h1
  . exact h.nc (by rw [h1,e])
  . have:=h.ltR;omega
 have Ak:∀ b,b≠R->(w'.setCell (qa R 0) (.slice (some (qa g 0)) (s.code.length+1) cap)).heap[b]? = w'.heap[b]?:=fun b hb=>heap_set_ne (p:=(qa R 0)) hb _
 refine ⟨by rw [vef hb];rfl,veg hb 0,?_⟩
 exact {
  blk:=(heap_set hb _).trans rfl
  hR:=h.hR
  code:=by
   have:=zai (w':=w'.setCell (qa R 0) (.slice (some (qa g 0)) (s.code.length+1) cap)) ho.own (fun k hk=>Ak k (fun e=>by simp only [Value.ownBlock,vbe] at hk;omega));rw [zlu,vam];exact this
  fix:=zai h.fix (fun k hk=>by
   rw [Ak k (fun e=>h.nf (by rw [hk,e]))];have hl:=(h.fix.lt k hk).2
   exact (ho.old k _ (by rw [vbu hl]) (fun e=>h.apt k e hk)).trans (vbu hl).symm)
  apt:=fun k h1 h2=>by
   simp only [Value.ownBlock,vbe] at h1
   rcases ho.at_ with h3 | h3
   . exact h.apt k (by rw [h3,h1]) h2
   . have:=(h.fix.lt k h2).2;omega
  nc:=fun e=>Jh (by simpa [Value.ownBlock] using e)
  nf:=h.nf
  below:=(h.below.trans ho.below).setCell (p:=(qa R 0)) h.hR _
  kp:=fun x hx=>by
   obtain ⟨h1,h2,h3,h4⟩:=h.kp x hx;refine ⟨(Ak _ h2).trans (ho.old _ _ h1 h3),h2,fun e=>?_,h4⟩;simp only [Value.ownBlock,vbe] at e
   rcases ho.at_ with h5 | h5
   . exact h3 (by rw [h5,e])
   . have:=lt_of_heap h1;omega }
theorem WAt.putF (h:WAt w0 w R K cv fv s) {i:Gf} {g cap:Nat} (ho:Onto w w' w0.heap.size 67 3 fv s.fixes.length g cap (z3l s.fixes++gfV i)) :
 w'.cell? (qa R 1)=some fv/\w'.frozen? (qa R 1)=false/\WAt w0 (w'.setCell (qa R 1) (.slice (some (qa g 0)) (s.fixes.length+1) cap)) R K cv (.slice (some (qa g 0)) (s.fixes.length+1) cap) ⟨s.code,s.fixes++[i]⟩:=by
 have hb:=ho.old R _ h.blk h.nf
 have Jh:g≠R:=fun e=>by
  rcases ho.at_ with h1 | h1
  . exact h.nf (by rw [h1,e])
  . have:=h.ltR;omega
 have Ak:∀ b,b≠R->(w'.setCell (qa R 1) (.slice (some (qa g 0)) (s.fixes.length+1) cap)).heap[b]? = w'.heap[b]?:=fun b hb=>heap_set_ne (p:=(qa R 1)) hb _
 refine ⟨by rw [vef hb];rfl,veg hb 1,?_⟩
 exact {
  blk:=(heap_set hb _).trans rfl
  hR:=h.hR
  fix:=by
   have:=zai (w':=w'.setCell (qa R 1) (.slice (some (qa g 0)) (s.fixes.length+1) cap)) ho.own (fun k hk=>Ak k (fun e=>by simp only [Value.ownBlock,vbe] at hk;omega));rw [z0p,vam];exact this
  code:=zai h.code (fun k hk=>by
   rw [Ak k (fun e=>h.nc (by rw [hk,e]))];have hl:=(h.code.lt k hk).2
   exact (ho.old k _ (by rw [vbu hl]) (fun e=>h.apt k hk e)).trans (vbu hl).symm)
  apt:=fun k h2 h1=>by
   simp only [Value.ownBlock,vbe] at h1
   rcases ho.at_ with h3 | h3
   . exact h.apt k h2 (by rw [h3,h1])
   . have:=(h.code.lt k h2).2;omega
  nf:=fun e=>Jh (by simpa [Value.ownBlock] using e)
  nc:=h.nc
  below:=(h.below.trans ho.below).setCell (p:=(qa R 1)) h.hR _
  kp:=fun x hx=>by
   obtain ⟨h1,h2,h3,h4⟩:=h.kp x hx;refine ⟨(Ak _ h2).trans (ho.old _ _ h1 h4),h2,h3,fun e=>?_⟩;simp only [Value.ownBlock,vbe] at e
   rcases ho.at_ with h5 | h5
   . exact h4 (by rw [h5,e])
   . have:=lt_of_heap h1;omega }
end
set_option maxHeartbeats 1600000
theorem Tryz.infoInstr:(Tryz.prog.info? 69).map (fun i=>(i.zero,i.size,i.bytes))=some (some (.agg #[qi 0,qi 0,qi 0]),3,24):=by kernel_rfl
theorem Tryz.infoFix:(Tryz.prog.info? 67).map (fun i=>(i.zero,i.size,i.bytes))=some (some (.agg #[qi 0,qi 0,qi 0]),3,24):=by kernel_rfl
theorem zgp {w0 w:World} {R:Nat} {K:List (Nat × Obj)} {s:Wrt} (h:Wri w0 w R K s) :
 qc 78 #[pq R 0] w fun e w'=>e = .returned (qi s.code.length)/\w'=w:=by
 obtain ⟨-,cv,fv,h⟩:=h;obtain ⟨a,cap,rfl, -, -⟩:=zal h.code;obtain ⟨c0, -, -⟩:=h.cells;clear h;go_enter Tryz.func78,Tryz.ntmps78;go_wp2_with fail;go_ret;exact ⟨rfl,rfl⟩
theorem znx {w0 w:World} {R:Nat} {K:List (Nat × Obj)} {s:Wrt} (h:Wri w0 w R K s) :
 qc 80 #[pq R 0] w fun e w'=>e = .returned (.bool (zhh s))/\w'=w:=by
 obtain ⟨-,cv,fv,h⟩:=h;obtain ⟨a,cap,rfl, -, -⟩:=zal h.code;obtain ⟨c0, -, -⟩:=h.cells;clear h;go_enter Tryz.func80,Tryz.ntmps80;go_wp2_with fail;go_ret;exact ⟨ret_bool (by unfold zhh;exact decide_eq_decide.2 (by omega)),rfl⟩
theorem zbz {w0 w:World} {R:Nat} {K:List (Nat × Obj)} {s:Wrt} (op a b:Int) (h:Wri w0 w R K s) (hr:s.code.length<=1000000) :
 qc 129 #[pq R 0,qi op,qi a,qi b] w fun e w'=>e = .returned (.tuple #[])/\Wri w0 w' R K (zbq op a b s):=by
 obtain ⟨hl,cv,fv,h⟩:=h;obtain ⟨c0, -, -⟩:=h.cells;have HM:=hid h;obtain ⟨sa,sc,rfl, -, -⟩:=zal h.code;clear h;go_enter Tryz.func129,Tryz.ntmps129
 go_wp2_with (at_builtin;refine zj6 rfl (.tmp 12) (.tmp 17) 59 rfl w0.heap.size 69 _ 3 24 Tryz.underlying59 Tryz.infoInstr rfl (by decide) w (.slice sa s.code.length sc) s.code.length (zen s.code) rfl HM.out.code #[qi op,qi a,qi b] _ rfl rfl rfl (zrj ⟨op,a,b⟩) (by omega) (by decide) HM.out.hB _ rfl ?_;intro g cap w1 ho;obtain ⟨d0,d1,hW⟩:=HM.out.putC (i:=⟨op,a,b⟩) ho;have HW:=hid hW;clear ho hW)
 go_end0;exact ⟨rfl,by simp only [zbq,vam,vav,vcv];omega,_,_,HW.out⟩
theorem z0q:Enters Tryz.prog 78:=enters_of Tryz.func78 (by kernel_rfl) rfl
theorem zdy {w0 w:World} {R:Nat} {K:List (Nat × Obj)} {s:Wrt} (kind m op a b:Int) (h:Wri w0 w R K s) (hr:s.code.length<=1000000) :
 qc 270 #[pq R 0,qi kind,qi m,.agg #[qi op,qi a,qi b]] w fun e w'=>e = .returned (.tuple #[])/\Wri w0 w' R K (ztu kind m ⟨op,a,b⟩ s):=by
 obtain ⟨hl,cv,fv,h⟩:=h;obtain ⟨fa,fc,rfl, -, -⟩:=zal h.fix;obtain ⟨ca,cc,rfl, -, -⟩:=zal h.code;have HK:=hid ((h.sub (K':=[]) (by simp)).box (.cells #[qi op,qi a,qi b] 69));have HM:=hid (h.box (.cells #[qi op,qi a,qi b] 69));obtain ⟨c0,c1,cf⟩:=HM.out.cells;have Bh:=HM.out.ltR;clear h;go_enter Tryz.func270,Tryz.ntmps270;go_upto_region 1 with fail;generalize CK:w.alloc (.cells #[qi op,qi a,qi b] 69)=w1 at *;have HD:=hid HM.out.drew;have HE:=hid (fun (W:World) (hW:W=w1.drew)=>(by subst hW;exact (zgp (K:=(w.heap.size,.cells #[qi op,qi a,qi b] 69) :: K) (s:=s) ⟨hl,_,_,HD.out⟩).mono (fun e w' h=>⟨_,h.1,rfl,h.2⟩):qc 78 #[pq R 0] W fun e w'=>∃ u,e = .returned u/\(u=qi s.code.length/\w'=W)));have HC:=hid HD.out.cells.2.1;have S3:=hid (fun o=>(HD.out.alloc o).cells.2.1)
 go_region_law
  (first
    | (refine zb9 (by rfl) 78 _ _ (by rfl) z0q _ (by rfl) (HE.out _ rfl) ?_;rintro u w2 ⟨rfl,rfl⟩)
    | (refine zib rfl (.tmp 12) (.tmp 18) 60 rfl w0.heap.size 67 _ 3 24 Tryz.underlying60 Tryz.infoFix rfl (by decide) w1.drew (.slice fa s.fixes.length fc) s.fixes.length (z3l s.fixes) rfl HD.out.fix #[qi s.code.length,qi kind,qi m] _ (by simp) rfl rfl (z8a ⟨s.code.length,kind,m⟩) (by omega) (by decide) HD.out.hB _ rfl ?_;intro g cap w3 ho;obtain ⟨d0,d1,hW⟩:=HD.out.putF (i:=⟨s.code.length,kind,m⟩) ho;have HW:=hid hW;clear ho hW))
 all_goals
  generalize PU:w3.setCell (qa R 1) (.slice (some (qa g 0)) (s.fixes.length+1) cap)=w4 at *;clear d0 d1 c0 c1 cf Bh HE HC S3;obtain ⟨c0,c1,cf⟩:=HW.out.cells;have Bh:=HW.out.ltR;have hk:=(HW.out.kp _ (var ..)).1;obtain ⟨x0,x1,x2, -⟩:=zev hk;have Au:=lt_of_heap hk;have Nm:=hid HW.out.drew;clear hk;go_wp2_with fail
  go_region_law (first
   | (refine zib rfl (.tmp 26) (.tmp 28) 59 rfl w0.heap.size 69 _ 3 24 Tryz.underlying59 Tryz.infoInstr rfl (by decide) w4.drew (.slice ca s.code.length cc) s.code.length (zen s.code) rfl Nm.out.code #[qi op,qi a,qi b] _ (by simp) rfl rfl (zrj ⟨op,a,b⟩) (by omega) (by decide) Nm.out.hB _ rfl ?_;intro g5 cap5 w5 ho;obtain ⟨d0,d1,hW⟩:=Nm.out.putC (i:=⟨op,a,b⟩) ho;have Iz:=hid hW;clear ho hW))
  all_goals
   go_end0;exact ⟨rfl,by simp only [ztu,vam,vav,vcv];omega,_,_,Iz.out.sub (fun x hx=>vai _ hx)⟩
theorem zny {w0 w:World} {R:Nat} {K:List (Nat × Obj)} {s:Wrt} (op t:Int) (h:Wri w0 w R K s) (hr:s.code.length<=1000000) :
 qc 275 #[pq R 0,qi op,qi t] w fun e w'=>e = .returned (.tuple #[])/\Wri w0 w' R K (zcs op t s):=by
 have HW:=hid h;clear h;go_enter Tryz.func275,Tryz.ntmps275;go_wp2_with fail;refine (zdy 1 0 op t 0 HW.out hr).mono ?_;rintro e w1 ⟨rfl,h1⟩;have H1:=hid h1;clear h1;go_wp2_with fail;go_end0;exact ⟨rfl,H1.out⟩
def z6v (R:Nat):Obj:=.cells #[pq R 0] 134
def z8l (n:Nat):Obj:=.cells #[qi n] 3
theorem zew {w0 w:World} {R:Nat} {K:List (Nat × Obj)} {s:Wrt} (op:Int) (h:Wri w0 w R K s) (hr:s.code.length<=1000000) :
 qc 274 #[pq R 0,qi op] w fun e w'=>e = .returned (.func (.func 291) #[] #[pq w.heap.size 0,.pointer (some ⟨w.heap.size+1,0,none⟩)])/\Wri w0 w' R ((w.heap.size+1,z8l s.code.length) :: (w.heap.size,z6v R) :: K) (zcs op 0 s):=by
 have HW:Hid (Wri w0 (w.alloc (.cells #[pq R 0] 134)) R ((w.heap.size,z6v R) :: K) s):=h.box (z6v R)
 have Rm:Hid (Wri w0 ((w.alloc (.cells #[pq R 0] 134)).alloc (.cells #[qi s.code.length] 3)) R ((w.heap.size+1,z8l s.code.length) :: (w.heap.size,z6v R) :: K) s):=by
  have:=(h.box (z6v R)).box (z8l s.code.length);rw [vcm] at this;exact this
 clear h;go_enter Tryz.func274,Tryz.ntmps274;go_wp2_with fail;refine (zgp HW.out).mono ?_;rintro e w1 ⟨rfl,rfl⟩;go_wp2_with fail;refine (zny op 0 Rm.out hr).mono ?_;rintro e w1 ⟨rfl,h1⟩;have H1:=hid h1;clear h1;go_wp2_with fail;go_ret;exact ⟨rfl,H1.out⟩
theorem WAt.land {w0 w:World} {R:Nat} {K:List (Nat × Obj)} {s:Wrt} {g cap:Nat} {fv:Value} (h:WAt w0 w R K (.slice (some (qa g 0)) s.code.length cap) fv s) (k:Nat) (hk:k<s.code.length) :
 w.cell? ⟨g,k*3+1,none⟩=some (qi s.code[k].a)/\w.frozen? ⟨g,k*3+1,none⟩=false/\WAt w0 (w.setCell ⟨g,k*3+1,none⟩ (qi s.code.length)) R K (.slice (some (qa g 0)) s.code.length cap) fv (zcd k s):=by
 have hc:=h.code.cells (g:=g) rfl _ _ (zvm s.code k hk);rw [show ((qa g 0):Addr).add (k*3+1)=⟨g,k*3+1,none⟩ from by unfold Addr.add;split<;>simp_all] at hc;have On:w0.heap.size<=g:=(h.code.lt g rfl).1
 have Ak:∀ b,b≠g->(w.setCell ⟨g,k*3+1,none⟩ (qi s.code.length)).heap[b]? = w.heap[b]?:=fun b hb=>heap_set_ne (p:=⟨g,k*3+1,none⟩) hb _
 have Jh:R≠g:=fun e=>h.nc (by rw [e];rfl)
 refine ⟨hc,?_,?_⟩
 . rcases h.code.2 with ⟨h1,_⟩ | ⟨g',cap',AC,hv,_,hg,_⟩
   . cases h1
   . cases hv;exact veg hg _
 . have Aa:=ownsRow_set h.code (k*3+1) (qi s.code.length) (by omega)
   rw [← zpo s.code k _ hk] at Aa
   exact {
    blk:=(Ak R Jh).trans h.blk
    hR:=h.hR
    code:=by rw [zae];exact Aa
    fix:=zai h.fix (fun b hb=>Ak b (fun e=>h.apt g rfl (by rw [hb,e])))
    apt:=h.apt
    nc:=h.nc
    nf:=h.nf
    below:=h.below.setCell (p:=⟨g,k*3+1,none⟩) On _
    kp:=fun x hx=>by
     obtain ⟨h1,h2,h3,h4⟩:=h.kp x hx
     exact ⟨(Ak _ (fun e=>h3 (by rw [e];rfl))).trans h1,h2,h3,h4⟩}
theorem zex {w0 w:World} {R:Nat} {K:List (Nat × Obj)} {s:Wrt} {b k:Nat} (h:Wri w0 w R K s) (h1:(b,z6v R) ∈ K) (h2:(b+1,z8l k) ∈ K) (hk:k<s.code.length) (hr:s.code.length<=1000000) :
 qc 291 #[pq b 0,.pointer (some ⟨b+1,0,none⟩)] w fun e w'=>e = .returned (.tuple #[])/\Wri w0 w' R K (zcd k s):=by
 have HH:=hid (fun (W:World) (hW:Wri w0 W R K s)=>((zgp hW).mono (fun e w' h=>⟨_,h.1,rfl,h.2⟩):qc 78 #[pq R 0] W fun e w'=>∃ u,e = .returned u/\(u=qi s.code.length/\w'=W)));have HE:=hid (HH.out _ h.drew);obtain ⟨hl,cv,fv,h⟩:=h;obtain ⟨g,cap,rfl, -⟩:=h.code.form (by omega)
 have q1:w.cell? (qa b 0)=some (pq R 0):=by rw [vef (h.kp _ h1).1];rfl
 have q2:w.cell? ⟨b+1,0,none⟩=some (qi k):=by rw [vef (h.kp _ h2).1];rfl
 obtain ⟨c0, -, -⟩:=h.cells;obtain ⟨y0,y1,KM⟩:=h.land k hk;have hL:=KM.drew;clear KM
 have HC:Hid (w.drew.cell? (qa b 0)=some (pq R 0)/\w.drew.cell? ⟨b+1,0,none⟩=some (qi k)/\w.drew.cell? (qa R 0)=some (.slice (some (qa g 0)) s.code.length cap)):=⟨q1,q2,c0⟩
 have Ey:Hid ((w.setCell ⟨g,k*3+1,none⟩ (qi s.code.length)).drew.cell? (qa b 0)=some (pq R 0)/\(w.setCell ⟨g,k*3+1,none⟩ (qi s.code.length)).drew.cell? ⟨b+1,0,none⟩=some (qi k)/\(w.setCell ⟨g,k*3+1,none⟩ (qi s.code.length)).drew.cell? (qa R 0)=some (.slice (some (qa g 0)) s.code.length cap)):=
  ⟨by rw [vef (hL.kp _ h1).1];rfl,by rw [vef (hL.kp _ h2).1];rfl,hL.cells.1⟩
 have HL:=hid hL;clear h hL HH h1 h2;go_enter Tryz.func291,Tryz.ntmps291;go_upto_region 0 with fail
 go_region_held_law (fun W=>W.cell? (qa b 0)=some (pq R 0)/\W.cell? ⟨b+1,0,none⟩=some (qi k)/\W.cell? (qa R 0)=some (.slice (some (qa g 0)) s.code.length cap)) (first | with_reducible exact HC.out | with_reducible exact Ey.out)
  (first
    | (refine zb9 (by rfl) 78 _ _ (by rfl) z0q _ (by rfl) HE.out ?_;rintro u w2 ⟨rfl,rfl⟩))
 all_goals
  go_end0;exact ⟨rfl,by rw [zae];exact hl,_,_,HL.out⟩
def NdC (w0:World) (R k:Nat) (y:Nd):Prop:=∀ (A:Nat->Prop) (aa:OA) (cp:Nat) (K:List (Nat × Obj)) (s:Wrt) (w:World),DAt w0 A aa y.args.length (zdg y.args)->Wri w0 w R K s->(ndW k y s).code.length<=1000000->
 qc 216 #[pq R 0,.agg #[qi y.op,qi y.n,qi y.m,qi y.at_,.slice aa y.args.length cp]] w fun e w'=>e = .returned (.tuple #[])/\Wri w0 w' R K (ndW k y s)
theorem znz {w0 w:World} {R k:Nat} {K:List (Nat × Obj)} {s:Wrt} {A:Nat->Prop} {l:List Nd} {a:OA} {cap:Nat} (hN:∀ y ∈ l,NdC w0 R k y) (hD:DAt w0 A a l.length (zdg l)) (h:Wri w0 w R K s) (hr:(zgu (ndW k) l s).code.length<=1000000) :
 qc 273 #[pq R 0,.slice a l.length cap] w fun e w'=>e = .returned (.tuple #[])/\Wri w0 w' R K (zgu (ndW k) l s):=by
 have BH:=hD.bound;have HD:=hid hD;have HW:=hid h;have HN:=hid hN;have HR:=hid (fun j=>vbc (z6g (ndW k) (zdd k) l s j) hr);clear hD h hN hr;go_enter Tryz.func273,Tryz.ntmps273;go_wp2_with fail
 go_loopw [8] (fun i wr=>∃ j:Nat,j<=l.length/\i=qi j/\Wri w0 wr R K (zgu (ndW k) (l.take j) s)) (fun i _=>l.length - (intOf i).toNat)
 case atStart=>exact ⟨0,vag _,rfl,HW.out⟩
 case round=>
  obtain ⟨j,hj,rfl,hw⟩:=hrel;have H1:=hid hw;clear hw
  by_cases A4:j<l.length
  . obtain ⟨b,off,aa,cp,rfl,hx⟩:=(HD.out.later H1.out.below).nd j A4
    obtain ⟨b',C7,aa',cp',AY,Bx⟩:=HD.out.nd j A4
    cases AY
    obtain ⟨Au,x0,x1,x2,x3,x4,_,_,_,_,_⟩:=hx;have e4:=(H1.out.below.cell (p:=⟨b,off+j*5+4,none⟩) Bx.lt).trans Bx.c4
    obtain ⟨rfl,rfl⟩:aa=aa'/\cp=cp':=by
     rw [x4] at e4;simp only [vbe,Value.slice.injEq] at e4;exact ⟨e4.1,e4.2.2⟩
    have HA:=hid Bx.args';have HT:=hid (z0m (ndW k) l s j A4);have Ba:=hid (HR.out (j+1));rw [HT.out] at Ba;have HY:=hid (HN.out l[j] (vaj A4));clear e4 Bx;generalize l[j]=x at *;go_wp2_with fail;refine (HY.out A aa cp K _ _ HA.out (H1.out.alloc _) Ba.out).mono ?_;rintro e w3 ⟨rfl,h3⟩;have H3:=hid h3;clear h3;go_wp2_with fail;go_roundw
    case rel=>exact ⟨j+1,by omega,by go_num,by rw [HT.out];exact H3.out⟩
    case measure=>simp [intOf];omega
  . obtain rfl:j=l.length:=by omega
    rw [vau] at H1;go_wp2_with fail;go_end0;exact ⟨rfl,H1.out⟩
theorem zn0 {w0 w:World} {R k:Nat} {K:List (Nat × Obj)} {s:Wrt} {A:Nat->Prop} {y:Nd} {aa:OA} {cp:Nat} (n m at_:Int) (hN:NdC w0 R k y) (hD:DAt w0 A aa y.args.length (zdg y.args)) (h:Wri w0 w R K s) (hr:(ndW k y s).code.length<=1000000) :
 qc 215 #[pq R 0,qi n,qi m,qi at_,.agg #[qi y.op,qi y.n,qi y.m,qi y.at_,.slice aa y.args.length cp]] w fun e w'=>e = .returned (.tuple #[])/\Wri w0 w' R K (zml (ndW k y) n m at_ s):=by
 have HW:=hid h;have HC:=hid (fun (o:Obj)=>hN A aa cp K s _ hD (h.alloc o) hr);clear h hN hD;go_enter Tryz.func215,Tryz.ntmps215;go_wp2_with fail;refine (HC.out _).mono ?_;rintro e w1 ⟨rfl,h1⟩;have H1:=hid h1;clear h1;go_wp2_with fail;refine (zdy 3 m 6 at_ n H1.out hr).mono ?_;rintro e w2 ⟨rfl,h2⟩;have H2:=hid h2;clear h2;go_wp2_with fail;go_end0;exact ⟨rfl,H2.out⟩
theorem zrk {w0 w:World} {R k:Nat} {K:List (Nat × Obj)} {s:Wrt} {A:Nat->Prop} {l:List Nd} {a:OA} {cap:Nat} (m at_:Int) (hN:∀ y ∈ l,NdC w0 R k y) (hD:DAt w0 A a l.length (zdg l)) (h:Wri w0 w R K s) (hr:(zgu (ndW k) l s).code.length<=1000000) :
 qc 217 #[pq R 0,qi m,qi at_,.slice a l.length cap] w fun e w'=>e = .returned (.tuple #[])/\Wri w0 w' R K (zgv (zgu (ndW k) l) m at_ s):=by
 have HC:=hid (znz (cap:=cap) hN hD h hr);clear h hN hD;go_enter Tryz.func217,Tryz.ntmps217;go_wp2_with fail;refine HC.out.mono ?_;rintro e w1 ⟨rfl,h1⟩;have H1:=hid h1;clear h1;go_wp2_with fail;refine (zdy 2 m 13 at_ 0 H1.out hr).mono ?_;rintro e w2 ⟨rfl,h2⟩;have H2:=hid h2;clear h2;go_wp2_with fail;go_end0;exact ⟨rfl,H2.out⟩
theorem z3m {w0 w:World} {R k:Nat} {K:List (Nat × Obj)} {s:Wrt} {A:Nat->Prop} {x y:Nd} {ax ay:OA} {cx cy:Nat} (hX:NdC w0 R k x) (hY:NdC w0 R k y) (dX:DAt w0 A ax x.args.length (zdg x.args)) (dY:DAt w0 A ay y.args.length (zdg y.args)) (h:Wri w0 w R K s) (hr:(z0j (ndW k x) (ndW k y) s).code.length<=1000000) :
 qc 271 #[pq R 0,.agg #[qi x.op,qi x.n,qi x.m,qi x.at_,.slice ax x.args.length cx],.agg #[qi y.op,qi y.n,qi y.m,qi y.at_,.slice ay y.args.length cy]] w fun e w'=>e = .returned (.tuple #[])/\Wri w0 w' R K (z0j (ndW k x) (ndW k y) s):=by
 have m1:=zdd k x s;have m2:=zdd k y (zcs 12 0 (ndW k x s))
 have r0:(ndW k y (zcs 12 0 (ndW k x s))).code.length+3<=1000000:=by simp only [z0j,zae,zac,zak] at hr;omega
 rw [zak] at m2
 have HW:Hid (Wri w0 ((w.alloc (kzF x.op x.n x.m x.at_ ax x.args.length cx)).alloc (kzF y.op y.n y.m y.at_ ay y.args.length cy)) R ((w.heap.size+1,(kzF y.op y.n y.m y.at_ ay y.args.length cy)) :: K) s):=by
  have:=(h.alloc (kzF x.op x.n x.m x.at_ ax x.args.length cx)).box (kzF y.op y.n y.m y.at_ ay y.args.length cy);rw [vcm] at this;exact this
 have HX:=hid (fun K s w=>hX A ax cx K s w dX);have HY:=hid (fun K s w=>hY A ay cy K s w dY);clear h hX hY dX dY hr;go_enter Tryz.func271,Tryz.ntmps271;go_wp2_with fail;refine (HX.out _ _ _ HW.out (by omega)).mono ?_;rintro e w1 ⟨rfl,h1⟩;have H1:=hid h1;clear h1;go_wp2_with fail;refine (zew 12 H1.out (by omega)).mono ?_;rintro e w2 ⟨rfl,h2⟩;have H2:=hid h2;clear h2;obtain ⟨q0,q1,q2,q3,q4, -⟩:=zaa (H2.out.has (vai _ (vai _ (var ..))));go_wp2_with fail;refine (HY.out _ _ _ H2.out (by omega)).mono ?_;rintro e w3 ⟨rfl,h3⟩;have H3:=hid h3;clear h3;clear q0 q1 q2 q3 q4;go_wp2_with fail;refine (zbz 22 0 0 H3.out (by omega)).mono ?_;rintro e w4 ⟨rfl,h4⟩;have H4:=hid h4;clear h4;go_wp2_with fail;refine (zew 11 H4.out (by simp only [zae,zak,zac];omega)).mono ?_
 rintro e w5 ⟨rfl,h5⟩;have H5:=hid h5;clear h5
 go_wp2_with (go_at_call 291;refine (zex (b:=w1.heap.size) (k:=(ndW k x s).code.length) H5.out (by simp) (by simp) (by simp only [zae,zak,zac];omega) (by simp only [zae,zak,zac];omega)).mono ?_;rintro e w6 ⟨rfl,h6⟩;have H6:=hid h6;clear h6)
 refine (zbz 1 0 0 H6.out (by simp only [zae,zak,zac];omega)).mono ?_;rintro e w7 ⟨rfl,h7⟩;have H7:=hid h7;clear h7
 go_wp2_with (go_at_call 291;refine (zex (b:=w4.heap.size) (k:=(zbq 22 0 0 (ndW k y (zcs 12 0 (ndW k x s)))).code.length) H7.out (by simp) (by simp) (by simp only [zae,zak,zac];omega) (by simp only [zae,zak,zac];omega)).mono ?_;rintro e w8 ⟨rfl,h8⟩;have H8:=hid h8;clear h8)
 go_end0;exact ⟨rfl,H8.out.tail.tail.tail.tail.tail⟩
theorem z6i {w0 w:World} {R k:Nat} {K:List (Nat × Obj)} {s:Wrt} {A:Nat->Prop} {x y:Nd} {ax ay:OA} {cx cy:Nat} (hX:NdC w0 R k x) (hY:NdC w0 R k y) (dX:DAt w0 A ax x.args.length (zdg x.args)) (dY:DAt w0 A ay y.args.length (zdg y.args)) (h:Wri w0 w R K s) (hr:(orW (ndW k x) (ndW k y) s).code.length<=1000000) :
 qc 272 #[pq R 0,.agg #[qi x.op,qi x.n,qi x.m,qi x.at_,.slice ax x.args.length cx],.agg #[qi y.op,qi y.n,qi y.m,qi y.at_,.slice ay y.args.length cy]] w fun e w'=>e = .returned (.tuple #[])/\Wri w0 w' R K (orW (ndW k x) (ndW k y) s):=by
 have m1:=zdd k x s;have m2:=zdd k y (zcd (ndW k x s).code.length (zcs 11 0 (zbq 1 1 0 (zcs 12 0 (ndW k x s)))))
 have r0:(ndW k y (zcd (ndW k x s).code.length (zcs 11 0 (zbq 1 1 0 (zcs 12 0 (ndW k x s)))))).code.length+1<=1000000:=by simp only [orW,zae,zac,zak] at hr;omega
 simp only [zae,zac,zak] at m2
 have HW:Hid (Wri w0 ((w.alloc (kzF x.op x.n x.m x.at_ ax x.args.length cx)).alloc (kzF y.op y.n y.m y.at_ ay y.args.length cy)) R ((w.heap.size+1,(kzF y.op y.n y.m y.at_ ay y.args.length cy)) :: K) s):=by
  have:=(h.alloc (kzF x.op x.n x.m x.at_ ax x.args.length cx)).box (kzF y.op y.n y.m y.at_ ay y.args.length cy);rw [vcm] at this;exact this
 have HX:=hid (fun K s w=>hX A ax cx K s w dX);have HY:=hid (fun K s w=>hY A ay cy K s w dY);clear h hX hY dX dY hr;go_enter Tryz.func272,Tryz.ntmps272;go_wp2_with fail;refine (HX.out _ _ _ HW.out (by omega)).mono ?_;rintro e w1 ⟨rfl,h1⟩;have H1:=hid h1;clear h1;go_wp2_with fail;refine (zew 12 H1.out (by omega)).mono ?_;rintro e w2 ⟨rfl,h2⟩;have H2:=hid h2;clear h2;go_wp2_with fail;refine (zbz 1 1 0 H2.out (by simp only [zae,zak,zac];omega)).mono ?_;rintro e w3 ⟨rfl,h3⟩;have H3:=hid h3;clear h3;go_wp2_with fail;refine (zew 11 H3.out (by simp only [zae,zak,zac];omega)).mono ?_;rintro e w4 ⟨rfl,h4⟩;have H4:=hid h4;clear h4
 go_wp2_with (go_at_call 291;refine (zex (b:=w1.heap.size) (k:=(ndW k x s).code.length) H4.out (by simp) (by simp) (by simp only [zae,zak,zac];omega) (by simp only [zae,zak,zac];omega)).mono ?_;rintro e w5 ⟨rfl,h5⟩;have H5:=hid h5;clear h5;obtain ⟨q0,q1,q2,q3,q4, -⟩:=zaa (H5.out.has (vai _ (vai _ (vai _ (vai _ (var ..)))))))
 refine (HY.out _ _ _ H5.out (by omega)).mono ?_;rintro e w6 ⟨rfl,h6⟩;have H6:=hid h6;clear h6;clear q0 q1 q2 q3 q4;go_wp2_with fail;refine (zbz 22 0 0 H6.out (by omega)).mono ?_;rintro e w7 ⟨rfl,h7⟩;have H7:=hid h7;clear h7
 go_wp2_with (go_at_call 291;refine (zex (b:=w3.heap.size) (k:=(zbq 1 1 0 (zcs 12 0 (ndW k x s))).code.length) H7.out (by simp) (by simp) (by simp only [zae,zak,zac];omega) (by simp only [zae,zak,zac];omega)).mono ?_;rintro e w8 ⟨rfl,h8⟩;have H8:=hid h8;clear h8)
 go_end0;exact ⟨rfl,H8.out.tail.tail.tail.tail.tail⟩
abbrev nC (a b c e:Int) (f:OA) (g:List Nd) (h:Nat):Obj:=kzF a b c e f g.length h
theorem zem {w0:World} {A:Nat->Prop} {aa:OA} {l:List Nd} (hD:DAt w0 A aa l.length (zdg l)) (i:Nat) (hi:i<l.length):∃ b off a1 k1,aa=some (qa b off)/\DAt w0 A a1 (argN l i).args.length (zdg (argN l i).args)/\
 ∀ W,qb w0 W->W.cell? ⟨b,off+i*5,none⟩=some (qi (argN l i).op)/\W.cell? ⟨b,off+i*5+1,none⟩=some (qi (argN l i).n)/\W.cell? ⟨b,off+i*5+2,none⟩=some (qi (argN l i).m)/\W.cell? ⟨b,off+i*5+3,none⟩=some (qi (argN l i).at_)/\W.cell? ⟨b,off+i*5+4,none⟩=some (.slice a1 (argN l i).args.length k1):=by
 rw [zgo l i hi];obtain ⟨b,off,a1,k1,ha,hx⟩:=hD.nd i hi;refine ⟨b,off,a1,k1,ha,hx.args',fun W hW=>⟨?_,?_,?_,?_,?_⟩⟩
 . exact (hW.cell (p:=(qa b _)) hx.lt).trans hx.c0
 . exact (hW.cell (p:=(qa b _)) hx.lt).trans hx.c1
 . exact (hW.cell (p:=(qa b _)) hx.lt).trans hx.c2
 . exact (hW.cell (p:=(qa b _)) hx.lt).trans hx.c3
 . exact (hW.cell (p:=(qa b _)) hx.lt).trans hx.c4
theorem zct {w0:World} {R k:Nat} {l:List Nd} (h:∀ y ∈ l,NdC w0 R k y) (i:Nat) (hi:i<l.length):NdC w0 R k (argN l i):=by
 rw [zgo l i hi];exact h _ (vaj hi)
theorem z9p {w0 w:World} {R k:Nat} {K:List (Nat × Obj)} {s:Wrt} {A:Nat->Prop} {op n m at_:Int} {args:List Nd} {aa:OA} {cp:Nat} (hN:∀ y ∈ args,NdC w0 R k y) (hD:DAt w0 A aa args.length (zdg args)) (h:Wri w0 w R K s) (ho:op=1) (hr:(zbq 1 n 0 s).code.length<=1000000) :
 qc 216 #[pq R 0,.agg #[qi op,qi n,qi m,qi at_,.slice aa args.length cp]] w fun e w'=>e = .returned (.tuple #[])/\Wri w0 w' R K (zbq 1 n 0 s):=by
 have HW:Hid (Wri w0 (w.alloc (nC op n m at_ aa args cp)) R ((w.heap.size,(nC op n m at_ aa args cp)) :: K) s):=h.box (nC op n m at_ aa args cp);subst ho
 have Bz:s.code.length<=1000000:=by simp only [zac,za2] at hr;omega
 clear h hN hD;go_enter Tryz.func216,Tryz.ntmps216;go_wp2_with fail;refine (zbz 1 n 0 HW.out Bz).mono ?_;rintro e w1 ⟨rfl,h1⟩;have H1:=hid h1;clear h1;go_wp2_with fail;go_end0;exact ⟨rfl,H1.out.tail⟩
theorem z9q {w0 w:World} {R k:Nat} {K:List (Nat × Obj)} {s:Wrt} {A:Nat->Prop} {op n m at_:Int} {args:List Nd} {aa:OA} {cp:Nat} (hN:∀ y ∈ args,NdC w0 R k y) (hD:DAt w0 A aa args.length (zdg args)) (h:Wri w0 w R K s) (ho:op=2) (hr:(zbq 18 0 0 s).code.length<=1000000) :
 qc 216 #[pq R 0,.agg #[qi op,qi n,qi m,qi at_,.slice aa args.length cp]] w fun e w'=>e = .returned (.tuple #[])/\Wri w0 w' R K (zbq 18 0 0 s):=by
 have HW:Hid (Wri w0 (w.alloc (nC op n m at_ aa args cp)) R ((w.heap.size,(nC op n m at_ aa args cp)) :: K) s):=h.box (nC op n m at_ aa args cp);subst ho
 have Bz:s.code.length<=1000000:=by simp only [zac,za2] at hr;omega
 clear h hN hD;go_enter Tryz.func216,Tryz.ntmps216;go_wp2_with fail;refine (zbz 18 0 0 HW.out Bz).mono ?_;rintro e w1 ⟨rfl,h1⟩;have H1:=hid h1;clear h1;go_wp2_with fail;go_end0;exact ⟨rfl,H1.out.tail⟩
theorem z8b {w0 w:World} {R k:Nat} {K:List (Nat × Obj)} {s:Wrt} {A:Nat->Prop} {op n m at_:Int} {args:List Nd} {aa:OA} {cp:Nat} (hN:∀ y ∈ args,NdC w0 R k y) (hD:DAt w0 A aa args.length (zdg args)) (h:Wri w0 w R K s) (ho:op=16) (hr:(zbq 2 at_ 0 s).code.length<=1000000) :
 qc 216 #[pq R 0,.agg #[qi op,qi n,qi m,qi at_,.slice aa args.length cp]] w fun e w'=>e = .returned (.tuple #[])/\Wri w0 w' R K (zbq 2 at_ 0 s):=by
 have HW:Hid (Wri w0 (w.alloc (nC op n m at_ aa args cp)) R ((w.heap.size,(nC op n m at_ aa args cp)) :: K) s):=h.box (nC op n m at_ aa args cp);subst ho
 have Bz:s.code.length<=1000000:=by simp only [zac,za2] at hr;omega
 clear h hN hD;go_enter Tryz.func216,Tryz.ntmps216;go_wp2_with fail;refine (zbz 2 at_ 0 HW.out Bz).mono ?_;rintro e w1 ⟨rfl,h1⟩;have H1:=hid h1;clear h1;go_wp2_with fail;go_end0;exact ⟨rfl,H1.out.tail⟩
theorem z9r {w0 w:World} {R k:Nat} {K:List (Nat × Obj)} {s:Wrt} {A:Nat->Prop} {op n m at_:Int} {args:List Nd} {aa:OA} {cp:Nat} (hN:∀ y ∈ args,NdC w0 R k y) (hD:DAt w0 A aa args.length (zdg args)) (h:Wri w0 w R K s) (ho:op=3) (hr:(ztu 3 m ⟨4,at_,0⟩ s).code.length<=1000000) :
 qc 216 #[pq R 0,.agg #[qi op,qi n,qi m,qi at_,.slice aa args.length cp]] w fun e w'=>e = .returned (.tuple #[])/\Wri w0 w' R K (ztu 3 m ⟨4,at_,0⟩ s):=by
 have HW:Hid (Wri w0 (w.alloc (nC op n m at_ aa args cp)) R ((w.heap.size,(nC op n m at_ aa args cp)) :: K) s):=h.box (nC op n m at_ aa args cp);subst ho
 have Bz:s.code.length<=1000000:=by simp only [zac,za2] at hr;omega
 clear h hN hD;go_enter Tryz.func216,Tryz.ntmps216;go_wp2_with fail;refine (zdy 3 m 4 at_ 0 HW.out Bz).mono ?_;rintro e w1 ⟨rfl,h1⟩;have H1:=hid h1;clear h1;go_wp2_with fail;go_end0;exact ⟨rfl,H1.out.tail⟩
theorem z9s {w0 w:World} {R k:Nat} {K:List (Nat × Obj)} {s:Wrt} {A:Nat->Prop} {op n m at_:Int} {args:List Nd} {aa:OA} {cp:Nat} (hN:∀ y ∈ args,NdC w0 R k y) (hD:DAt w0 A aa args.length (zdg args)) (h:Wri w0 w R K s) (ho:op=4) (hl:args.length=1) (hr:(zbq 7 0 0 (zml (ndW k (argN args 0)) n m at_ s)).code.length<=1000000) :
 qc 216 #[pq R 0,.agg #[qi op,qi n,qi m,qi at_,.slice aa args.length cp]] w fun e w'=>e = .returned (.tuple #[])/\Wri w0 w' R K (zbq 7 0 0 (zml (ndW k (argN args 0)) n m at_ s)):=by
 have HW:Hid (Wri w0 (w.alloc (nC op n m at_ aa args cp)) R ((w.heap.size,(nC op n m at_ aa args cp)) :: K) s):=h.box (nC op n m at_ aa args cp);subst ho
 have Bz:(ndW k (argN args 0) s).code.length+1<=1000000:=by simp only [zac,zml,za2] at hr;omega
 obtain ⟨b,off,a1,k1,rfl,hA,hc⟩:=zem hD 0 (by omega);simp only [vbi,vbp] at hc;have hy:=zct hN 0 (by omega);generalize argN args 0=y at *;have HA:=hid hA;have HY:=hid hy
 have HS:Hid (∀ W s',Wri w0 W R ((w.heap.size,(kzF 4 n m at_ (some (qa b off)) args.length cp)) :: K) s'->W.cell? (qa w.heap.size 1)=some (qi n)/\W.cell? (qa w.heap.size 2)=some (qi m)/\W.cell? (qa w.heap.size 3)=some (qi at_)/\W.cell? (qa w.heap.size 4)=some (.slice (some (qa b off)) args.length cp)/\W.cell? (qa b off)=some (qi y.op)/\W.cell? ⟨b,off+1,none⟩=some (qi y.n)/\W.cell? ⟨b,off+2,none⟩=some (qi y.m)/\W.cell? ⟨b,off+3,none⟩=some (qi y.at_)/\W.cell? ⟨b,off+4,none⟩=some (.slice a1 y.args.length k1)):=fun W s' hW=>by
  obtain ⟨q0,q1,q2,q3,q4, -⟩:=zaa hW.head;obtain ⟨z0,z1,z2,z3,z4⟩:=hc W hW.below;exact ⟨q1,q2,q3,q4,z0,z1,z2,z3,z4⟩
 have HD:=hid HW.out.drew
 have Bm:0<args.length:=by omega
 clear h hN hD hA hy hc hl;go_enter Tryz.func216,Tryz.ntmps216;go_upto_region 13 with fail
 go_region_held (fun W=>W.cell? (qa w.heap.size 1)=some (qi n)/\W.cell? (qa w.heap.size 2)=some (qi m)/\W.cell? (qa w.heap.size 3)=some (qi at_)/\W.cell? (qa w.heap.size 4)=some (.slice (some (qa b off)) args.length cp)/\W.cell? (qa b off)=some (qi y.op)/\W.cell? ⟨b,off+1,none⟩=some (qi y.n)/\W.cell? ⟨b,off+2,none⟩=some (qi y.m)/\W.cell? ⟨b,off+3,none⟩=some (qi y.at_)/\W.cell? ⟨b,off+4,none⟩=some (.slice a1 y.args.length k1)) (first | with_reducible exact HS.out _ _ HW.out | with_reducible exact HS.out _ _ HD.out | with_reducible exact HS.out _ _ H1.out)
  (first
    | (go_at_call 215;refine (zn0 n m at_ HY.out HA.out HD.out (by omega)).mono ?_;rintro e w1 ⟨rfl,h1⟩;have H1:=hid h1;clear h1))
 all_goals
  go_wp2_with fail;refine (zbz 7 0 0 H1.out (by simp only [zml,za2];omega)).mono ?_;rintro e w2 ⟨rfl,h2⟩;have H2:=hid h2;clear h2;go_wp2_with fail;go_end0;exact ⟨rfl,H2.out.tail⟩
theorem z9t {w0 w:World} {R k:Nat} {K:List (Nat × Obj)} {s:Wrt} {A:Nat->Prop} {op n m at_:Int} {args:List Nd} {aa:OA} {cp:Nat} (hN:∀ y ∈ args,NdC w0 R k y) (hD:DAt w0 A aa args.length (zdg args)) (h:Wri w0 w R K s) (ho:op=5) (hr:(zgv (zgu (ndW k) args) m at_ s).code.length<=1000000) :
 qc 216 #[pq R 0,.agg #[qi op,qi n,qi m,qi at_,.slice aa args.length cp]] w fun e w'=>e = .returned (.tuple #[])/\Wri w0 w' R K (zgv (zgu (ndW k) args) m at_ s):=by
 have HW:Hid (Wri w0 (w.alloc (nC op n m at_ aa args cp)) R ((w.heap.size,(nC op n m at_ aa args cp)) :: K) s):=h.box (nC op n m at_ aa args cp);subst ho
 have Bz:(zgu (ndW k) args s).code.length<=1000000:=by simp only [zgv,za2] at hr;omega
 have HC:=hid (zrk (cap:=cp) m at_ hN hD HW.out Bz);clear h hN hD;go_enter Tryz.func216,Tryz.ntmps216;go_wp2_with fail;refine (HC.out).mono ?_;rintro e w1 ⟨rfl,h1⟩;have H1:=hid h1;clear h1;go_wp2_with fail;go_end0;exact ⟨rfl,H1.out.tail⟩
theorem z9u {w0 w:World} {R k:Nat} {K:List (Nat × Obj)} {s:Wrt} {A:Nat->Prop} {op n m at_:Int} {args:List Nd} {aa:OA} {cp:Nat} (hN:∀ y ∈ args,NdC w0 R k y) (hD:DAt w0 A aa args.length (zdg args)) (h:Wri w0 w R K s) (ho:op=6) (hl:args.length=1) (hr:(zbq 9 0 0 (ndW k (argN args 0) s)).code.length<=1000000) :
 qc 216 #[pq R 0,.agg #[qi op,qi n,qi m,qi at_,.slice aa args.length cp]] w fun e w'=>e = .returned (.tuple #[])/\Wri w0 w' R K (zbq 9 0 0 (ndW k (argN args 0) s)):=by
 have HW:Hid (Wri w0 (w.alloc (nC op n m at_ aa args cp)) R ((w.heap.size,(nC op n m at_ aa args cp)) :: K) s):=h.box (nC op n m at_ aa args cp);subst ho
 have Bz:(ndW k (argN args 0) s).code.length<=1000000:=by simp only [zac] at hr;omega
 obtain ⟨b,off,a1,k1,rfl,hA,hc⟩:=zem hD 0 (by omega);simp only [vbi,vbp] at hc;have hy:=zct hN 0 (by omega);generalize argN args 0=y at *;have HC:=hid (hy A a1 k1 _ _ _ hA HW.out Bz);obtain ⟨z0,z1,z2,z3,z4⟩:=hc _ h.below
 have hb:b<w.heap.size:=by
  rcases vbg b w.heap.size with h' | h'
  . exact h'
  . simp [World.cell?,vaz h'] at z0
 have Bm:0<args.length:=by omega
 clear h hN hD hA hy hc hl;go_enter Tryz.func216,Tryz.ntmps216;go_wp2_with fail;refine (HC.out).mono ?_;rintro e w1 ⟨rfl,h1⟩;have H1:=hid h1;clear h1;clear z0 z1 z2 z3 z4;go_wp2_with fail;refine (zbz 9 0 0 H1.out Bz).mono ?_;rintro e w2 ⟨rfl,h2⟩;have H2:=hid h2;clear h2;go_wp2_with fail;go_end0;exact ⟨rfl,H2.out.tail⟩
theorem z9v {w0 w:World} {R k:Nat} {K:List (Nat × Obj)} {s:Wrt} {A:Nat->Prop} {op n m at_:Int} {args:List Nd} {aa:OA} {cp:Nat} (hN:∀ y ∈ args,NdC w0 R k y) (hD:DAt w0 A aa args.length (zdg args)) (h:Wri w0 w R K s) (ho:op=7) (hl:args.length=2) (hr:(z0j (ndW k (argN args 0)) (ndW k (argN args 1)) s).code.length<=1000000) :
 qc 216 #[pq R 0,.agg #[qi op,qi n,qi m,qi at_,.slice aa args.length cp]] w fun e w'=>e = .returned (.tuple #[])/\Wri w0 w' R K (z0j (ndW k (argN args 0)) (ndW k (argN args 1)) s):=by
 have HW:Hid (Wri w0 (w.alloc (nC op n m at_ aa args cp)) R ((w.heap.size,(nC op n m at_ aa args cp)) :: K) s):=h.box (nC op n m at_ aa args cp);subst ho;obtain ⟨b,off,a1,k1,rfl,hA,hc⟩:=zem hD 0 (by omega);obtain ⟨b',C7,a2,k2,Iy,hB,hd⟩:=zem hD 1 (by omega);cases Iy;simp only [vbi,vbp] at hc;simp only [vdm] at hd;have hy:=zct hN 0 (by omega);have hz:=zct hN 1 (by omega);generalize argN args 0=y at *;generalize argN args 1=z at *;have HC:=hid (z3m (cx:=k1) (cy:=k2) hy hz hA hB HW.out.drew hr)
 have HS:Hid (∀ W s',Wri w0 W R ((w.heap.size,(kzF 7 n m at_ (some (qa b off)) args.length cp)) :: K) s'->W.cell? (qa w.heap.size 4)=some (.slice (some (qa b off)) args.length cp)/\W.cell? (qa b off)=some (qi y.op)/\W.cell? ⟨b,off+1,none⟩=some (qi y.n)/\W.cell? ⟨b,off+2,none⟩=some (qi y.m)/\W.cell? ⟨b,off+3,none⟩=some (qi y.at_)/\W.cell? ⟨b,off+4,none⟩=some (.slice a1 y.args.length k1)/\W.cell? ⟨b,off+5,none⟩=some (qi z.op)/\W.cell? ⟨b,off+5+1,none⟩=some (qi z.n)/\W.cell? ⟨b,off+5+2,none⟩=some (qi z.m)/\W.cell? ⟨b,off+5+3,none⟩=some (qi z.at_)/\W.cell? ⟨b,off+5+4,none⟩=some (.slice a2 z.args.length k2)):=fun W s' hW=>by
  obtain ⟨q0,q1,q2,q3,q4, -⟩:=zaa hW.head;obtain ⟨z0,z1,z2,z3,z4⟩:=hc W hW.below;obtain ⟨y0,y1,y2,y3,y4⟩:=hd W hW.below;exact ⟨q4,z0,z1,z2,z3,z4,y0,y1,y2,y3,y4⟩
 have HD:=hid HW.out.drew
 have Bm:1<args.length:=by omega
 clear h hN hD hA hB hy hz hc hd hl;go_enter Tryz.func216,Tryz.ntmps216;go_upto_region 21 with fail
 go_region_held (fun W=>W.cell? (qa w.heap.size 4)=some (.slice (some (qa b off)) args.length cp)/\W.cell? (qa b off)=some (qi y.op)/\W.cell? ⟨b,off+1,none⟩=some (qi y.n)/\W.cell? ⟨b,off+2,none⟩=some (qi y.m)/\W.cell? ⟨b,off+3,none⟩=some (qi y.at_)/\W.cell? ⟨b,off+4,none⟩=some (.slice a1 y.args.length k1)/\W.cell? ⟨b,off+5,none⟩=some (qi z.op)/\W.cell? ⟨b,off+5+1,none⟩=some (qi z.n)/\W.cell? ⟨b,off+5+2,none⟩=some (qi z.m)/\W.cell? ⟨b,off+5+3,none⟩=some (qi z.at_)/\W.cell? ⟨b,off+5+4,none⟩=some (.slice a2 z.args.length k2)) (first | with_reducible exact HS.out _ _ HW.out | with_reducible exact HS.out _ _ HD.out | with_reducible exact HS.out _ _ H1.out)
  (first
    | (go_at_call 271;refine HC.out.mono ?_;rintro e w1 ⟨rfl,h1⟩;have H1:=hid h1;clear h1))
 all_goals
  go_wp2_with fail;go_end0;exact ⟨rfl,H1.out.tail⟩
theorem z9w {w0 w:World} {R k:Nat} {K:List (Nat × Obj)} {s:Wrt} {A:Nat->Prop} {op n m at_:Int} {args:List Nd} {aa:OA} {cp:Nat} (hN:∀ y ∈ args,NdC w0 R k y) (hD:DAt w0 A aa args.length (zdg args)) (h:Wri w0 w R K s) (ho:op=8) (hl:args.length=2) (hr:(orW (ndW k (argN args 0)) (ndW k (argN args 1)) s).code.length<=1000000) :
 qc 216 #[pq R 0,.agg #[qi op,qi n,qi m,qi at_,.slice aa args.length cp]] w fun e w'=>e = .returned (.tuple #[])/\Wri w0 w' R K (orW (ndW k (argN args 0)) (ndW k (argN args 1)) s):=by
 have HW:Hid (Wri w0 (w.alloc (nC op n m at_ aa args cp)) R ((w.heap.size,(nC op n m at_ aa args cp)) :: K) s):=h.box (nC op n m at_ aa args cp);subst ho;obtain ⟨b,off,a1,k1,rfl,hA,hc⟩:=zem hD 0 (by omega);obtain ⟨b',C7,a2,k2,Iy,hB,hd⟩:=zem hD 1 (by omega);cases Iy;simp only [vbi,vbp] at hc;simp only [vdm] at hd;have hy:=zct hN 0 (by omega);have hz:=zct hN 1 (by omega);generalize argN args 0=y at *;generalize argN args 1=z at *;have HC:=hid (z6i (cx:=k1) (cy:=k2) hy hz hA hB HW.out.drew hr)
 have HS:Hid (∀ W s',Wri w0 W R ((w.heap.size,(kzF 8 n m at_ (some (qa b off)) args.length cp)) :: K) s'->W.cell? (qa w.heap.size 4)=some (.slice (some (qa b off)) args.length cp)/\W.cell? (qa b off)=some (qi y.op)/\W.cell? ⟨b,off+1,none⟩=some (qi y.n)/\W.cell? ⟨b,off+2,none⟩=some (qi y.m)/\W.cell? ⟨b,off+3,none⟩=some (qi y.at_)/\W.cell? ⟨b,off+4,none⟩=some (.slice a1 y.args.length k1)/\W.cell? ⟨b,off+5,none⟩=some (qi z.op)/\W.cell? ⟨b,off+5+1,none⟩=some (qi z.n)/\W.cell? ⟨b,off+5+2,none⟩=some (qi z.m)/\W.cell? ⟨b,off+5+3,none⟩=some (qi z.at_)/\W.cell? ⟨b,off+5+4,none⟩=some (.slice a2 z.args.length k2)):=fun W s' hW=>by
  obtain ⟨q0,q1,q2,q3,q4, -⟩:=zaa hW.head;obtain ⟨z0,z1,z2,z3,z4⟩:=hc W hW.below;obtain ⟨y0,y1,y2,y3,y4⟩:=hd W hW.below;exact ⟨q4,z0,z1,z2,z3,z4,y0,y1,y2,y3,y4⟩
 have HD:=hid HW.out.drew
 have Bm:1<args.length:=by omega
 clear h hN hD hA hB hy hz hc hd hl;go_enter Tryz.func216,Tryz.ntmps216;go_upto_region 23 with fail
 go_region_held (fun W=>W.cell? (qa w.heap.size 4)=some (.slice (some (qa b off)) args.length cp)/\W.cell? (qa b off)=some (qi y.op)/\W.cell? ⟨b,off+1,none⟩=some (qi y.n)/\W.cell? ⟨b,off+2,none⟩=some (qi y.m)/\W.cell? ⟨b,off+3,none⟩=some (qi y.at_)/\W.cell? ⟨b,off+4,none⟩=some (.slice a1 y.args.length k1)/\W.cell? ⟨b,off+5,none⟩=some (qi z.op)/\W.cell? ⟨b,off+5+1,none⟩=some (qi z.n)/\W.cell? ⟨b,off+5+2,none⟩=some (qi z.m)/\W.cell? ⟨b,off+5+3,none⟩=some (qi z.at_)/\W.cell? ⟨b,off+5+4,none⟩=some (.slice a2 z.args.length k2)) (first | with_reducible exact HS.out _ _ HW.out | with_reducible exact HS.out _ _ HD.out | with_reducible exact HS.out _ _ H1.out)
  (first
    | (go_at_call 272;refine HC.out.mono ?_;rintro e w1 ⟨rfl,h1⟩;have H1:=hid h1;clear h1))
 all_goals
  go_wp2_with fail;go_end0;exact ⟨rfl,H1.out.tail⟩
theorem z9x {w0 w:World} {R k:Nat} {K:List (Nat × Obj)} {s:Wrt} {A:Nat->Prop} {op n m at_:Int} {args:List Nd} {aa:OA} {cp:Nat} (hN:∀ y ∈ args,NdC w0 R k y) (hD:DAt w0 A aa args.length (zdg args)) (h:Wri w0 w R K s) (h1:op≠1) (h2:op≠2) (h3:op≠16) (h4:op≠3) (h5:op≠4) (h6:op≠5) (h7:op≠6) (h8:op≠7) (h9:op≠8) (hr:(zbq 10 op 0 (zgu (ndW k) args s)).code.length<=1000000) :
 qc 216 #[pq R 0,.agg #[qi op,qi n,qi m,qi at_,.slice aa args.length cp]] w fun e w'=>e = .returned (.tuple #[])/\Wri w0 w' R K (zbq 10 op 0 (zgu (ndW k) args s)):=by
 have HW:Hid (Wri w0 (w.alloc (nC op n m at_ aa args cp)) R ((w.heap.size,(nC op n m at_ aa args cp)) :: K) s):=h.box (nC op n m at_ aa args cp)
 have Bz:(zgu (ndW k) args s).code.length<=1000000:=by simp only [zac] at hr;omega
 have HC:=hid (znz (cap:=cp) hN hD HW.out Bz);clear h hN hD;go_enter Tryz.func216,Tryz.ntmps216;go_wp2_with fail;refine (HC.out).mono ?_;rintro e wa ⟨rfl,ha⟩;have Ha:=hid ha;clear ha;obtain ⟨q0,q1,q2,q3,q4, -⟩:=zaa Ha.out.head;go_wp2_with fail;refine (zbz 10 op 0 Ha.out Bz).mono ?_;rintro e wb ⟨rfl,hb⟩;have Hb:=hid hb;clear hb;go_wp2_with fail;go_end0;exact ⟨rfl,Hb.out.tail⟩
def ndStep (f:Nd->Wrt->Wrt) (op n m at_:Int) (args:List Nd) (s:Wrt):Wrt:=
 if op=1 then zbq 1 n 0 s
 else if op=2 then zbq 18 0 0 s
 else if op=16 then zbq 2 at_ 0 s
 else if op=3 then ztu 3 m ⟨4,at_,0⟩ s
 else if op=4 then zbq 7 0 0 (zml (f (argN args 0)) n m at_ s)
 else if op=5 then zgv (zgu f args) m at_ s
 else if op=6 then zbq 9 0 0 (f (argN args 0) s)
 else if op=7 then z0j (f (argN args 0)) (f (argN args 1)) s
 else if op=8 then orW (f (argN args 0)) (f (argN args 1)) s
 else zbq 10 op 0 (zgu f args s)
theorem ndW_succ (k:Nat) (op n m at_:Int) (args:List Nd) (s:Wrt):ndW (k+1) ⟨op,n,m,at_,args⟩ s=ndStep (ndW k) op n m at_ args s:=rfl
theorem z0r {c:Ck} {n m at_:Int} {args:List Nd} (h:zax c ⟨4,n,m,at_,args⟩=true):args.length=1:=by
 simp [zax,Nd.op,Nd.args] at h;exact of_decide_eq_true h.1
theorem ztv {c:Ck} {op n m at_:Int} {args:List Nd} (h:zax c ⟨op,n,m,at_,args⟩=true) (h1:op≠1) (h3:op≠16) (h4:op≠3) (h5:op≠4) (h6:op≠5):(args.length:Int)=argsOf op:=by
 simp [zax,Nd.op,Nd.args,h1,h3,h4,h5,h6] at h;exact of_decide_eq_true h.1
theorem zvn {w0:World} {R k:Nat} {c:Ck} {x:Nd} (hx:zax c x=true) (hN:∀ y ∈ x.args,NdC w0 R k y):NdC w0 R (k+1) x:=by
 obtain ⟨op,n,m,at_,args⟩:=x;intro A aa cp K s w hD h hr;rw [ndW_succ] at hr ⊢;unfold ndStep at hr ⊢;simp only [Nd.op,Nd.n,Nd.m,Nd.at_,Nd.args] at hD hN ⊢
 by_cases e1:op=1
 . rw [if_pos e1] at hr ⊢;exact z9p hN hD h e1 hr
 rw [if_neg e1] at hr ⊢
 by_cases e2:op=2
 . rw [if_pos e2] at hr ⊢;exact z9q hN hD h e2 hr
 rw [if_neg e2] at hr ⊢
 by_cases e3:op=16
 . rw [if_pos e3] at hr ⊢;exact z8b hN hD h e3 hr
 rw [if_neg e3] at hr ⊢
 by_cases e4:op=3
 . rw [if_pos e4] at hr ⊢;exact z9r hN hD h e4 hr
 rw [if_neg e4] at hr ⊢
 by_cases e5:op=4
 . rw [if_pos e5] at hr ⊢
   subst e5;exact z9s hN hD h rfl (z0r hx) hr
 rw [if_neg e5] at hr ⊢
 by_cases e6:op=5
 . rw [if_pos e6] at hr ⊢;exact z9t hN hD h e6 hr
 rw [if_neg e6] at hr ⊢;have hl:=ztv hx e1 e3 e4 e5 e6;unfold argsOf at hl;rw [if_neg e2] at hl
 by_cases e7:op=6
 . rw [if_pos e7] at hr ⊢
   rw [if_pos e7] at hl;exact z9u hN hD h e7 (by omega) hr
 rw [if_neg e7] at hr hl ⊢
 by_cases e8:op=7
 . rw [if_pos e8] at hr ⊢
   rw [if_pos (by omega)] at hl;exact z9v hN hD h e8 (by omega) hr
 rw [if_neg e8] at hr ⊢
 by_cases e9:op=8
 . rw [if_pos e9] at hr ⊢
   rw [if_pos (by omega)] at hl;exact z9w hN hD h e9 (by omega) hr
 rw [if_neg e9] at hr ⊢;exact z9x hN hD h e1 e2 e3 e4 e5 e6 e7 e8 e9 hr
theorem zrl {w0:World} {R:Nat} {c:Ck}:∀ (k:Nat) (x:Nd),zax c x=true->zgf c k x.args=true->NdC w0 R (k+1) x
 | 0,x,h1,h2=>zvn h1 (fun y hy=>by
  simp only [zgf,decide_eq_true_eq] at h2;rw [vak h2] at hy
  simp at hy)
 | k + 1,x,h1,h2=>zvn h1 (fun y hy=>by
     simp only [zgf,vas,vac] at h2
     exact zrl k y (h2 y hy).1 (h2 y hy).2)
abbrev aC (a b c e:Int) (f:OA) (g:List Nd) (h:Nat) (i:OA) (j:List Ac) (k:Nat) (l:OA) (m:List Ac) (n:Nat):Obj:=kzA a b c e f g.length h i j.length k l m.length n
def AcC (w0:World) (R k:Nat) (y:Ac):Prop:=∀ (A:Nat->Prop) (a1:OA) (k1:Nat) (a2:OA) (k2:Nat) (a3:OA) (k3:Nat) (K:List (Nat × Obj)) (s:Wrt) (w:World),DAt w0 A a1 y.args.length (zdg y.args)->DAt w0 A a2 y.body.length (zdm y.body)->DAt w0 A a3 y.other.length (zdm y.other)->Wri w0 w R K s->(acW k y s).code.length<=1000000->
 qc 172 #[pq R 0,.agg #[qi y.op,qi y.n,qi y.m,qi y.at_,.slice a1 y.args.length k1,.slice a2 y.body.length k2,.slice a3 y.other.length k3]] w fun e w'=>e = .returned (.tuple #[])/\Wri w0 w' R K (acW k y s)
theorem zff {w0 w:World} {R k:Nat} {K:List (Nat × Obj)} {s:Wrt} {A:Nat->Prop} {l:List Ac} {a:OA} {cap:Nat} (hN:∀ y ∈ l,AcC w0 R k y) (hD:DAt w0 A a l.length (zdm l)) (h:Wri w0 w R K s) (hr:(zdh (acW k) l s).code.length<=1000000) :
 qc 130 #[pq R 0,.slice a l.length cap] w fun e w'=>e = .returned (.tuple #[])/\Wri w0 w' R K (zdh (acW k) l s):=by
 have BH:=hD.bound;have HD:=hid hD;have HW:=hid h;have HN:=hid hN;have HR:=hid (fun j=>vbc (z6h (acW k) (zfr k) l s j) hr);clear hD h hN hr;go_enter Tryz.func130,Tryz.ntmps130;go_wp2_with fail
 go_loopw [8] (fun i wr=>∃ j:Nat,j<=l.length/\i=qi j/\Wri w0 wr R K (zdh (acW k) (l.take j) s)) (fun i _=>l.length - (intOf i).toNat)
 case atStart=>exact ⟨0,vag _,rfl,HW.out⟩
 case round=>
  obtain ⟨j,hj,rfl,hw⟩:=hrel;have H1:=hid hw;clear hw
  by_cases A4:j<l.length
  . obtain ⟨b,off,a1,k1,a2,k2,a3,k3,rfl,hx⟩:=HD.out.ac j A4
    have Au:b<wr.heap.size:=vah hx.lt H1.out.below.size;have x0:=(H1.out.below.cell (p:=⟨b,off+j*7,none⟩) hx.lt).trans hx.c0;have x1:=(H1.out.below.cell (p:=⟨b,off+j*7+1,none⟩) hx.lt).trans hx.c1;have x2:=(H1.out.below.cell (p:=⟨b,off+j*7+2,none⟩) hx.lt).trans hx.c2;have x3:=(H1.out.below.cell (p:=⟨b,off+j*7+3,none⟩) hx.lt).trans hx.c3;have x4:=(H1.out.below.cell (p:=⟨b,off+j*7+4,none⟩) hx.lt).trans hx.c4;have x5:=(H1.out.below.cell (p:=⟨b,off+j*7+5,none⟩) hx.lt).trans hx.c5;have x6:=(H1.out.below.cell (p:=⟨b,off+j*7+6,none⟩) hx.lt).trans hx.c6;have HA:=hid (⟨hx.args',hx.body',hx.other'⟩:_/\_/\_);have HY:=hid (HN.out l[j] (vaj A4));have HT:=hid (fun h=>z0n (acW k) l s j A4 h);have HS:=hid (fun h=>z0o (acW k) l s j h);have Ba:=hid (HR.out (j+1))
    clear hx;generalize l[j]=x at *;have HB:=hid (H1.out.box (kzA x.op x.n x.m x.at_ a1 x.args.length k1 a2 x.body.length k2 a3 x.other.length k3));go_wp2_with fail;refine (znx HB.out).mono ?_
    cases hf:zhh (zdh (acW k) (l.take j) s) with
    | true=>
      rintro e w3 ⟨rfl,rfl⟩;have Hv:=hid (HS.out hf);clear hf;go_wp2_with fail
      go_returns
      exact ⟨rfl,by rw [Hv.out];exact HB.out.tail⟩
    | false=>
      rintro e w3 ⟨rfl,rfl⟩;have B6:=hid (HT.out hf);rw [B6.out] at Ba;clear hf;go_wp2_with fail;refine (HY.out A a1 k1 a2 k2 a3 k3 K _ _ HA.out.1 HA.out.2.1 HA.out.2.2 HB.out.tail Ba.out).mono ?_;rintro e w4 ⟨rfl,h4⟩;have H4:=hid h4;clear h4;go_wp2_with fail;go_roundw
      case rel=>exact ⟨j+1,by omega,by go_num,by rw [B6.out];exact H4.out⟩
      case measure=>simp [intOf];omega
  . obtain rfl:j=l.length:=by omega
    rw [vau] at H1;go_wp2_with fail;go_end0;exact ⟨rfl,H1.out⟩
theorem z9y {w0 w:World} {R k:Nat} {K:List (Nat × Obj)} {s:Wrt} {A:Nat->Prop} {op n m at_:Int} {args:List Nd} {body other:List Ac} {a1:OA} {k1:Nat} {a2:OA} {k2:Nat} {a3:OA} {k3:Nat} (hN:∀ y ∈ args,NdC w0 R 6 y) (hD:DAt w0 A a1 args.length (zdg args)) (h:Wri w0 w R K s) (hl:args.length=1) (hm:m = -1) (hr:(zbq 3 at_ 0 (ndW 6 (argN args 0) s)).code.length<=1000000) :
 qc 214 #[pq R 0,.agg #[qi op,qi n,qi m,qi at_,.slice a1 args.length k1,.slice a2 body.length k2,.slice a3 other.length k3]] w fun e w'=>e = .returned (.tuple #[])/\Wri w0 w' R K (zbq 3 at_ 0 (ndW 6 (argN args 0) s)):=by
 subst hm;have HW:Hid (Wri w0 (w.alloc (kzA op n (-1) at_ a1 args.length k1 a2 body.length k2 a3 other.length k3)) R ((w.heap.size,(kzA op n (-1) at_ a1 args.length k1 a2 body.length k2 a3 other.length k3)) :: K) s):=h.box (kzA op n (-1) at_ a1 args.length k1 a2 body.length k2 a3 other.length k3)
 have Bz:(ndW 6 (argN args 0) s).code.length<=1000000:=by simp only [zac,za2] at hr;omega
 obtain ⟨b,off,aa,ca,rfl,hA,hc⟩:=zem hD 0 (by omega);simp only [vbi,vbp] at hc;have hy:=zct hN 0 (by omega);generalize argN args 0=y at *;obtain ⟨z0,z1,z2,z3,z4⟩:=hc _ h.below
 have hb:b<w.heap.size:=by
  rcases vbg b w.heap.size with h' | h'
  . exact h'
  . simp [World.cell?,vaz h'] at z0
 have Bm:0<args.length:=by omega
 have HC:=hid (hy A aa ca _ _ _ hA HW.out Bz);clear h hN hD hA hy hc hl;go_enter Tryz.func214,Tryz.ntmps214;go_wp2_with fail;refine (HC.out).mono ?_;rintro e w1 ⟨rfl,h1⟩;have H1:=hid h1;clear h1;obtain ⟨q0,q1,q2,q3,q4,q5,q6, -⟩:=zao H1.out.head;clear z0 z1 z2 z3 z4;go_wp2_with fail;refine (zbz 3 at_ 0 H1.out Bz).mono ?_;rintro e w2 ⟨rfl,h2⟩;have H2:=hid h2;clear h2;go_wp2_with fail
 go_returns
 exact ⟨rfl,H2.out.tail⟩
theorem z9z {w0 w:World} {R k:Nat} {K:List (Nat × Obj)} {s:Wrt} {A:Nat->Prop} {op n m at_:Int} {args:List Nd} {body other:List Ac} {a1:OA} {k1:Nat} {a2:OA} {k2:Nat} {a3:OA} {k3:Nat} (hN:∀ y ∈ args,NdC w0 R 6 y) (hD:DAt w0 A a1 args.length (zdg args)) (h:Wri w0 w R K s) (hl:args.length=1) (hm:m≠-1) (hr:(ztu 3 m ⟨5,at_,0⟩ (ndW 6 (argN args 0) s)).code.length<=1000000) :
 qc 214 #[pq R 0,.agg #[qi op,qi n,qi m,qi at_,.slice a1 args.length k1,.slice a2 body.length k2,.slice a3 other.length k3]] w fun e w'=>e = .returned (.tuple #[])/\Wri w0 w' R K (ztu 3 m ⟨5,at_,0⟩ (ndW 6 (argN args 0) s)):=by
 have HW:Hid (Wri w0 (w.alloc (aC op n m at_ a1 args k1 a2 body k2 a3 other k3)) R ((w.heap.size,(aC op n m at_ a1 args k1 a2 body k2 a3 other k3)) :: K) s):=h.box (aC op n m at_ a1 args k1 a2 body k2 a3 other k3)
 have Bz:(ndW 6 (argN args 0) s).code.length<=1000000:=by simp only [zac,za2] at hr;omega
 obtain ⟨b,off,aa,ca,rfl,hA,hc⟩:=zem hD 0 (by omega);simp only [vbi,vbp] at hc;have hy:=zct hN 0 (by omega);generalize argN args 0=y at *;obtain ⟨z0,z1,z2,z3,z4⟩:=hc _ h.below
 have hb:b<w.heap.size:=by
  rcases vbg b w.heap.size with h' | h'
  . exact h'
  . simp [World.cell?,vaz h'] at z0
 have Bm:0<args.length:=by omega
 have HC:=hid (hy A aa ca _ _ _ hA HW.out Bz);clear h hN hD hA hy hc hl;go_enter Tryz.func214,Tryz.ntmps214;go_wp2_with fail;refine (HC.out).mono ?_;rintro e w1 ⟨rfl,h1⟩;have H1:=hid h1;clear h1;obtain ⟨q0,q1,q2,q3,q4,q5,q6, -⟩:=zao H1.out.head;clear z0 z1 z2 z3 z4;go_wp2_with fail;refine (zdy 3 m 5 at_ 0 H1.out Bz).mono ?_;rintro e w2 ⟨rfl,h2⟩;have H2:=hid h2;clear h2;go_wp2_with fail;go_end0;exact ⟨rfl,H2.out.tail⟩
theorem ya2 {w0 w:World} {R k:Nat} {K:List (Nat × Obj)} {s:Wrt} {A:Nat->Prop} {op n m at_:Int} {args:List Nd} {body other:List Ac} {a1:OA} {k1:Nat} {a2:OA} {k2:Nat} {a3:OA} {k3:Nat} (hN:∀ y ∈ args,NdC w0 R 6 y) (hD:DAt w0 A a1 args.length (zdg args)) (h:Wri w0 w R K s) (hl:args.length=1) (hB:∀ y ∈ body,AcC w0 R k y) (dB:DAt w0 A a2 body.length (zdm body)) (hr:(zcd (ndW 6 (argN args 0) s).code.length (zdh (acW k) body (zcs 12 0 (ndW 6 (argN args 0) s)))).code.length<=1000000) :
 qc 218 #[pq R 0,.agg #[qi op,qi n,qi m,qi at_,.slice a1 args.length k1,.slice a2 body.length k2,.slice a3 0 k3]] w fun e w'=>e = .returned (.tuple #[])/\Wri w0 w' R K (zcd (ndW 6 (argN args 0) s).code.length (zdh (acW k) body (zcs 12 0 (ndW 6 (argN args 0) s)))):=by
 have HW:Hid (Wri w0 (w.alloc (kzA op n m at_ a1 args.length k1 a2 body.length k2 a3 0 k3)) R ((w.heap.size,(kzA op n m at_ a1 args.length k1 a2 body.length k2 a3 0 k3)) :: K) s):=h.box (kzA op n m at_ a1 args.length k1 a2 body.length k2 a3 0 k3);have m1:=zch (zfr k) body (zcs 12 0 (ndW 6 (argN args 0) s));rw [zak] at m1
 have r1:(zdh (acW k) body (zcs 12 0 (ndW 6 (argN args 0) s))).code.length<=1000000:=by simp only [zae] at hr;omega
 obtain ⟨b,off,aa,ca,rfl,hA,hc⟩:=zem hD 0 (by omega);simp only [vbi,vbp] at hc;have hy:=zct hN 0 (by omega);generalize argN args 0=y at *;obtain ⟨z0,z1,z2,z3,z4⟩:=hc _ h.below
 have hb:b<w.heap.size:=by
  rcases vbg b w.heap.size with h' | h'
  . exact h'
  . simp [World.cell?,vaz h'] at z0
 have Bm:0<args.length:=by omega
 have HC:=hid (hy A aa ca _ _ _ hA HW.out (by omega));have HB:=hid (fun (K:List (Nat × Obj)) (s:Wrt) (w:World)=>zff (w:=w) (K:=K) (s:=s) (cap:=k2) hB dB);clear h hN hD hA hy hc hl hB dB;go_enter Tryz.func218,Tryz.ntmps218;go_wp2_with fail;refine (HC.out).mono ?_;rintro e w1 ⟨rfl,h1⟩;have H1:=hid h1;clear h1;clear z0 z1 z2 z3 z4;go_wp2_with fail;refine (zew 12 H1.out (by omega)).mono ?_;rintro e w2 ⟨rfl,h2⟩;have H2:=hid h2;clear h2;obtain ⟨q0,q1,q2,q3,q4,q5,q6, -⟩:=zao (H2.out.has (vai _ (vai _ (var ..))));go_wp2_with fail;refine (HB.out _ _ _ H2.out r1).mono ?_;rintro e w3 ⟨rfl,h3⟩;have H3:=hid h3;clear h3;clear q0 q1 q2 q3 q4 q5 q6;obtain ⟨q0,q1,q2,q3,q4,q5,q6, -⟩:=zao (H3.out.has (vai _ (vai _ (var ..))))
 go_wp2_with (go_at_call 291;refine (zex (b:=w1.heap.size) (k:=(ndW 6 y s).code.length) H3.out (by simp) (by simp) (by omega) r1).mono ?_;rintro e w4 ⟨rfl,h4⟩;have H4:=hid h4;clear h4)
 go_returns
 exact ⟨rfl,H4.out.tail.tail.tail⟩
theorem ya3 {w0 w:World} {R k:Nat} {K:List (Nat × Obj)} {s:Wrt} {A:Nat->Prop} {op n m at_:Int} {args:List Nd} {body other:List Ac} {a1:OA} {k1:Nat} {a2:OA} {k2:Nat} {a3:OA} {k3:Nat} (hN:∀ y ∈ args,NdC w0 R 6 y) (hD:DAt w0 A a1 args.length (zdg args)) (h:Wri w0 w R K s) (hl:args.length=1) (hB:∀ y ∈ body,AcC w0 R k y) (dB:DAt w0 A a2 body.length (zdm body)) (hO:∀ y ∈ other,AcC w0 R k y) (dO:DAt w0 A a3 other.length (zdm other)) (Ak:other.length≠0) (hr:(zcd (zdh (acW k) body (zcs 12 0 (ndW 6 (argN args 0) s))).code.length (zdh (acW k) other (zcd (ndW 6 (argN args 0) s).code.length (zcs 11 0 (zdh (acW k) body (zcs 12 0 (ndW 6 (argN args 0) s))))))).code.length<=1000000) :
 qc 218 #[pq R 0,.agg #[qi op,qi n,qi m,qi at_,.slice a1 args.length k1,.slice a2 body.length k2,.slice a3 other.length k3]] w fun e w'=>e = .returned (.tuple #[])/\Wri w0 w' R K (zcd (zdh (acW k) body (zcs 12 0 (ndW 6 (argN args 0) s))).code.length (zdh (acW k) other (zcd (ndW 6 (argN args 0) s).code.length (zcs 11 0 (zdh (acW k) body (zcs 12 0 (ndW 6 (argN args 0) s))))))):=by
 have HW:Hid (Wri w0 (w.alloc (aC op n m at_ a1 args k1 a2 body k2 a3 other k3)) R ((w.heap.size,(aC op n m at_ a1 args k1 a2 body k2 a3 other k3)) :: K) s):=h.box (aC op n m at_ a1 args k1 a2 body k2 a3 other k3);have m1:=zch (zfr k) body (zcs 12 0 (ndW 6 (argN args 0) s));have m2:=zch (zfr k) other (zcd (ndW 6 (argN args 0) s).code.length (zcs 11 0 (zdh (acW k) body (zcs 12 0 (ndW 6 (argN args 0) s)))));rw [zak] at m1;rw [zae,zak] at m2
 have r2:(zdh (acW k) other (zcd (ndW 6 (argN args 0) s).code.length (zcs 11 0 (zdh (acW k) body (zcs 12 0 (ndW 6 (argN args 0) s)))))).code.length<=1000000:=by simp only [zae] at hr;omega
 have r1:(zdh (acW k) body (zcs 12 0 (ndW 6 (argN args 0) s))).code.length+1<=1000000:=by omega
 obtain ⟨b,off,aa,ca,rfl,hA,hc⟩:=zem hD 0 (by omega);simp only [vbi,vbp] at hc;have hy:=zct hN 0 (by omega);generalize argN args 0=y at *;obtain ⟨z0,z1,z2,z3,z4⟩:=hc _ h.below
 have hb:b<w.heap.size:=by
  rcases vbg b w.heap.size with h' | h'
  . exact h'
  . simp [World.cell?,vaz h'] at z0
 have Bm:0<args.length:=by omega
 have Df:=dO.bound;have HC:=hid (hy A aa ca _ _ _ hA HW.out (by omega));have HB:=hid (fun (K:List (Nat × Obj)) (s:Wrt) (w:World)=>zff (w:=w) (K:=K) (s:=s) (cap:=k2) hB dB);have HO:=hid (fun (K:List (Nat × Obj)) (s:Wrt) (w:World)=>zff (w:=w) (K:=K) (s:=s) (cap:=k3) hO dO);clear h hN hD hA hy hc hl hB dB hO dO;go_enter Tryz.func218,Tryz.ntmps218;go_wp2_with fail;refine (HC.out).mono ?_;rintro e w1 ⟨rfl,h1⟩;have H1:=hid h1;clear h1;clear z0 z1 z2 z3 z4;go_wp2_with fail;refine (zew 12 H1.out (by omega)).mono ?_;rintro e w2 ⟨rfl,h2⟩;have H2:=hid h2;clear h2;obtain ⟨q0,q1,q2,q3,q4,q5,q6, -⟩:=zao (H2.out.has (vai _ (vai _ (var ..))));go_wp2_with fail;refine (HB.out _ _ _ H2.out (by omega)).mono ?_;rintro e w3 ⟨rfl,h3⟩;have H3:=hid h3;clear h3;clear q0 q1 q2 q3 q4 q5 q6
 obtain ⟨q0,q1,q2,q3,q4,q5,q6, -⟩:=zao (H3.out.has (vai _ (vai _ (var ..))));go_wp2_with fail;refine (zew 11 H3.out (by omega)).mono ?_;rintro e w4 ⟨rfl,h4⟩;have H4:=hid h4;clear h4;clear q0 q1 q2 q3 q4 q5 q6
 go_wp2_with (go_at_call 291;refine (zex (b:=w1.heap.size) (k:=(ndW 6 y s).code.length) H4.out (by simp) (by simp) (by simp only [zae,zak,zac,za2];omega) (by simp only [zae,zak,zac,za2];omega)).mono ?_;rintro e w5 ⟨rfl,h5⟩;have H5:=hid h5;clear h5;obtain ⟨q0,q1,q2,q3,q4,q5,q6, -⟩:=zao (H5.out.has (vai _ (vai _ (vai _ (vai _ (var ..)))))))
 refine (HO.out _ _ _ H5.out r2).mono ?_;rintro e w6 ⟨rfl,h6⟩;have H6:=hid h6;clear h6;clear q0 q1 q2 q3 q4 q5 q6
 go_wp2_with (go_at_call 291;refine (zex (b:=w3.heap.size) (k:=(zdh (acW k) body (zcs 12 0 (ndW 6 y s))).code.length) H6.out (by simp) (by simp) (by omega) r2).mono ?_;rintro e w7 ⟨rfl,h7⟩;have H7:=hid h7;clear h7)
 go_end0;exact ⟨rfl,H7.out.tail.tail.tail.tail.tail⟩
theorem wwh {w0 w:World} {R k:Nat} {K:List (Nat × Obj)} {s:Wrt} {A:Nat->Prop} {op n m at_:Int} {args:List Nd} {body other:List Ac} {a1:OA} {k1:Nat} {a2:OA} {k2:Nat} {a3:OA} {k3:Nat} (hN:∀ y ∈ args,NdC w0 R 6 y) (hD:DAt w0 A a1 args.length (zdg args)) (h:Wri w0 w R K s) (hl:args.length=1) (hB:∀ y ∈ body,AcC w0 R k y) (dB:DAt w0 A a2 body.length (zdm body)) (hr:(zcd (ndW 6 (argN args 0) s).code.length (zcs 11 s.code.length (zdh (acW k) body (zbq 16 0 0 (zcs 12 0 (ndW 6 (argN args 0) s)))))).code.length<=1000000) :
 qc 219 #[pq R 0,.agg #[qi op,qi n,qi m,qi at_,.slice a1 args.length k1,.slice a2 body.length k2,.slice a3 other.length k3]] w fun e w'=>e = .returned (.tuple #[])/\Wri w0 w' R K (zcd (ndW 6 (argN args 0) s).code.length (zcs 11 s.code.length (zdh (acW k) body (zbq 16 0 0 (zcs 12 0 (ndW 6 (argN args 0) s)))))):=by
 have HW:Hid (Wri w0 (w.alloc (aC op n m at_ a1 args k1 a2 body k2 a3 other k3)) R ((w.heap.size,(aC op n m at_ a1 args k1 a2 body k2 a3 other k3)) :: K) s):=h.box (aC op n m at_ a1 args k1 a2 body k2 a3 other k3);have m0:=zdd 6 (argN args 0) s;have m1:=zch (zfr k) body (zbq 16 0 0 (zcs 12 0 (ndW 6 (argN args 0) s)));rw [zac,zak] at m1
 have r1:(zdh (acW k) body (zbq 16 0 0 (zcs 12 0 (ndW 6 (argN args 0) s)))).code.length+1<=1000000:=by simp only [zae,zak] at hr;omega
 obtain ⟨b,off,aa,ca,rfl,hA,hc⟩:=zem hD 0 (by omega);simp only [vbi,vbp] at hc;have hy:=zct hN 0 (by omega);generalize argN args 0=y at *;obtain ⟨z0,z1,z2,z3,z4⟩:=hc _ h.below
 have hb:b<w.heap.size:=by
  rcases vbg b w.heap.size with h' | h'
  . exact h'
  . simp [World.cell?,vaz h'] at z0
 have Bm:0<args.length:=by omega
 have HE:=hid (zgp HW.out);have HC:=hid (hy A aa ca _ _ _ hA HW.out (by omega));have HB:=hid (fun (K:List (Nat × Obj)) (s:Wrt) (w:World)=>zff (w:=w) (K:=K) (s:=s) (cap:=k2) hB dB);clear h hN hD hA hy hc hl hB dB;go_enter Tryz.func219,Tryz.ntmps219;go_wp2_with fail;refine HE.out.mono ?_;rintro e w9 ⟨rfl,rfl⟩;go_wp2_with fail;refine (HC.out).mono ?_;rintro e w1 ⟨rfl,h1⟩;have H1:=hid h1;clear h1;clear z0 z1 z2 z3 z4;go_wp2_with fail;refine (zew 12 H1.out (by omega)).mono ?_;rintro e w2 ⟨rfl,h2⟩;have H2:=hid h2;clear h2;go_wp2_with fail;refine (zbz 16 0 0 H2.out (by simp only [zae,zak,zac,za2];omega)).mono ?_;rintro e w3 ⟨rfl,h3⟩;have H3:=hid h3;clear h3;obtain ⟨q0,q1,q2,q3,q4,q5,q6, -⟩:=zao (H3.out.has (vai _ (vai _ (var ..))));go_wp2_with fail
 refine (HB.out _ _ _ H3.out (by omega)).mono ?_;rintro e w4 ⟨rfl,h4⟩;have H4:=hid h4;clear h4;clear q0 q1 q2 q3 q4 q5 q6;go_wp2_with fail;refine (zny 11 s.code.length H4.out (by omega)).mono ?_;rintro e w5 ⟨rfl,h5⟩;have H5:=hid h5;clear h5
 go_wp2_with (go_at_call 291;refine (zex (b:=w1.heap.size) (k:=(ndW 6 y s).code.length) H5.out (by simp) (by simp) (by simp only [zae,zak,zac,za2];omega) (by simp only [zae,zak,zac,za2];omega)).mono ?_;rintro e w6 ⟨rfl,h6⟩;have H6:=hid h6;clear h6)
 go_end0;exact ⟨rfl,H6.out.tail.tail.tail⟩
theorem z90 {w0 w:World} {R:Nat} {K:List (Nat × Obj)} {n m at_:Int} {args:List Nd} {body other:List Ac} {a1:OA} {k1:Nat} {a2:OA} {k2:Nat} {a3:OA} {k3:Nat} {s':Wrt} (HC:Hid (qc 214 #[pq R 0,.agg #[qi 1,qi n,qi m,qi at_,.slice a1 args.length k1,.slice a2 body.length k2,.slice a3 other.length k3]] (w.alloc (kzA 1 n m at_ a1 args.length k1 a2 body.length k2 a3 other.length k3)) fun e w'=>e = .returned (.tuple #[])/\Wri w0 w' R ((w.heap.size,(kzA 1 n m at_ a1 args.length k1 a2 body.length k2 a3 other.length k3)) :: K) s')) :
 qc 172 #[pq R 0,.agg #[qi 1,qi n,qi m,qi at_,.slice a1 args.length k1,.slice a2 body.length k2,.slice a3 other.length k3]] w fun e w'=>e = .returned (.tuple #[])/\Wri w0 w' R K s':=by
 go_enter Tryz.func172,Tryz.ntmps172;go_wp2_with fail;refine (HC.out).mono ?_;rintro e w1 ⟨rfl,h1⟩;have H1:=hid h1;clear h1;go_wp2_with fail;go_end0;exact ⟨rfl,H1.out.tail⟩
theorem z91 {w0 w:World} {R:Nat} {K:List (Nat × Obj)} {n m at_:Int} {args:List Nd} {body other:List Ac} {a1:OA} {k1:Nat} {a2:OA} {k2:Nat} {a3:OA} {k3:Nat} {s':Wrt} (HC:Hid (qc 218 #[pq R 0,.agg #[qi 4,qi n,qi m,qi at_,.slice a1 args.length k1,.slice a2 body.length k2,.slice a3 other.length k3]] (w.alloc (kzA 4 n m at_ a1 args.length k1 a2 body.length k2 a3 other.length k3)) fun e w'=>e = .returned (.tuple #[])/\Wri w0 w' R ((w.heap.size,(kzA 4 n m at_ a1 args.length k1 a2 body.length k2 a3 other.length k3)) :: K) s')) :
 qc 172 #[pq R 0,.agg #[qi 4,qi n,qi m,qi at_,.slice a1 args.length k1,.slice a2 body.length k2,.slice a3 other.length k3]] w fun e w'=>e = .returned (.tuple #[])/\Wri w0 w' R K s':=by
 go_enter Tryz.func172,Tryz.ntmps172;go_wp2_with fail;refine (HC.out).mono ?_;rintro e w1 ⟨rfl,h1⟩;have H1:=hid h1;clear h1;go_wp2_with fail;go_end0;exact ⟨rfl,H1.out.tail⟩
theorem z92 {w0 w:World} {R:Nat} {K:List (Nat × Obj)} {n m at_:Int} {args:List Nd} {body other:List Ac} {a1:OA} {k1:Nat} {a2:OA} {k2:Nat} {a3:OA} {k3:Nat} {s':Wrt} (HC:Hid (qc 219 #[pq R 0,.agg #[qi 5,qi n,qi m,qi at_,.slice a1 args.length k1,.slice a2 body.length k2,.slice a3 other.length k3]] (w.alloc (kzA 5 n m at_ a1 args.length k1 a2 body.length k2 a3 other.length k3)) fun e w'=>e = .returned (.tuple #[])/\Wri w0 w' R ((w.heap.size,(kzA 5 n m at_ a1 args.length k1 a2 body.length k2 a3 other.length k3)) :: K) s')) :
 qc 172 #[pq R 0,.agg #[qi 5,qi n,qi m,qi at_,.slice a1 args.length k1,.slice a2 body.length k2,.slice a3 other.length k3]] w fun e w'=>e = .returned (.tuple #[])/\Wri w0 w' R K s':=by
 go_enter Tryz.func172,Tryz.ntmps172;go_wp2_with fail;refine (HC.out).mono ?_;rintro e w1 ⟨rfl,h1⟩;have H1:=hid h1;clear h1;go_wp2_with fail;go_end0;exact ⟨rfl,H1.out.tail⟩
theorem z93 {w0 w:World} {R k:Nat} {K:List (Nat × Obj)} {s:Wrt} {A:Nat->Prop} {n m at_:Int} {args:List Nd} {body other:List Ac} {a1:OA} {k1:Nat} {a2:OA} {k2:Nat} {a3:OA} {k3:Nat} (hN:∀ y ∈ args,NdC w0 R 6 y) (hD:DAt w0 A a1 args.length (zdg args)) (h:Wri w0 w R K s) (hl:args.length=1) (hr:(zbq 15 0 0 (ndW 6 (argN args 0) s)).code.length<=1000000) :
 qc 172 #[pq R 0,.agg #[qi 6,qi n,qi m,qi at_,.slice a1 args.length k1,.slice a2 body.length k2,.slice a3 other.length k3]] w fun e w'=>e = .returned (.tuple #[])/\Wri w0 w' R K (zbq 15 0 0 (ndW 6 (argN args 0) s)):=by
 have HW:Hid (Wri w0 (w.alloc (kzA 6 n m at_ a1 args.length k1 a2 body.length k2 a3 other.length k3)) R ((w.heap.size,(kzA 6 n m at_ a1 args.length k1 a2 body.length k2 a3 other.length k3)) :: K) s):=h.box (kzA 6 n m at_ a1 args.length k1 a2 body.length k2 a3 other.length k3)
 have Bz:(ndW 6 (argN args 0) s).code.length<=1000000:=by simp only [zac] at hr;omega
 obtain ⟨b,off,aa,ca,rfl,hA,hc⟩:=zem hD 0 (by omega);simp only [vbi,vbp] at hc;have hy:=zct hN 0 (by omega);generalize argN args 0=y at *;obtain ⟨z0,z1,z2,z3,z4⟩:=hc _ h.below
 have hb:b<w.heap.size:=by
  rcases vbg b w.heap.size with h' | h'
  . exact h'
  . simp [World.cell?,vaz h'] at z0
 have Bm:0<args.length:=by omega
 have HC:=hid (hy A aa ca _ _ _ hA HW.out Bz);clear h hN hD hA hy hc hl;go_enter Tryz.func172,Tryz.ntmps172;go_wp2_with fail;refine (HC.out).mono ?_;rintro e w1 ⟨rfl,h1⟩;have H1:=hid h1;clear h1;clear z0 z1 z2 z3 z4;go_wp2_with fail;refine (zbz 15 0 0 H1.out Bz).mono ?_;rintro e w2 ⟨rfl,h2⟩;have H2:=hid h2;clear h2;go_wp2_with fail;go_end0;exact ⟨rfl,H2.out.tail⟩
theorem z94 {w0 w:World} {R k:Nat} {K:List (Nat × Obj)} {s:Wrt} {A:Nat->Prop} {n m at_:Int} {args:List Nd} {body other:List Ac} {a1:OA} {k1:Nat} {a2:OA} {k2:Nat} {a3:OA} {k3:Nat} (hN:∀ y ∈ args,NdC w0 R 6 y) (hD:DAt w0 A a1 args.length (zdg args)) (h:Wri w0 w R K s) (hl:args.length=1) (hr:(zbq 19 0 0 (ndW 6 (argN args 0) s)).code.length<=1000000) :
 qc 172 #[pq R 0,.agg #[qi 7,qi n,qi m,qi at_,.slice a1 args.length k1,.slice a2 body.length k2,.slice a3 other.length k3]] w fun e w'=>e = .returned (.tuple #[])/\Wri w0 w' R K (zbq 19 0 0 (ndW 6 (argN args 0) s)):=by
 have HW:Hid (Wri w0 (w.alloc (kzA 7 n m at_ a1 args.length k1 a2 body.length k2 a3 other.length k3)) R ((w.heap.size,(kzA 7 n m at_ a1 args.length k1 a2 body.length k2 a3 other.length k3)) :: K) s):=h.box (kzA 7 n m at_ a1 args.length k1 a2 body.length k2 a3 other.length k3)
 have Bz:(ndW 6 (argN args 0) s).code.length<=1000000:=by simp only [zac] at hr;omega
 obtain ⟨b,off,aa,ca,rfl,hA,hc⟩:=zem hD 0 (by omega);simp only [vbi,vbp] at hc;have hy:=zct hN 0 (by omega);generalize argN args 0=y at *;obtain ⟨z0,z1,z2,z3,z4⟩:=hc _ h.below
 have hb:b<w.heap.size:=by
  rcases vbg b w.heap.size with h' | h'
  . exact h'
  . simp [World.cell?,vaz h'] at z0
 have Bm:0<args.length:=by omega
 have HC:=hid (hy A aa ca _ _ _ hA HW.out Bz);clear h hN hD hA hy hc hl;go_enter Tryz.func172,Tryz.ntmps172;go_wp2_with fail;refine (HC.out).mono ?_;rintro e w1 ⟨rfl,h1⟩;have H1:=hid h1;clear h1;clear z0 z1 z2 z3 z4;go_wp2_with fail;refine (zbz 19 0 0 H1.out Bz).mono ?_;rintro e w2 ⟨rfl,h2⟩;have H2:=hid h2;clear h2;go_wp2_with fail;go_end0;exact ⟨rfl,H2.out.tail⟩
theorem z95 {w0 w:World} {R k:Nat} {K:List (Nat × Obj)} {s:Wrt} {A:Nat->Prop} {n m at_:Int} {args:List Nd} {body other:List Ac} {a1:OA} {k1:Nat} {a2:OA} {k2:Nat} {a3:OA} {k3:Nat} (hN:∀ y ∈ args,NdC w0 R 6 y) (hD:DAt w0 A a1 args.length (zdg args)) (h:Wri w0 w R K s) (hr:(zbq 17 0 0 (zgv (zgu (ndW 6) args) m at_ s)).code.length<=1000000) :
 qc 172 #[pq R 0,.agg #[qi 3,qi n,qi m,qi at_,.slice a1 args.length k1,.slice a2 body.length k2,.slice a3 other.length k3]] w fun e w'=>e = .returned (.tuple #[])/\Wri w0 w' R K (zbq 17 0 0 (zgv (zgu (ndW 6) args) m at_ s)):=by
 have HW:Hid (Wri w0 (w.alloc (kzA 3 n m at_ a1 args.length k1 a2 body.length k2 a3 other.length k3)) R ((w.heap.size,(kzA 3 n m at_ a1 args.length k1 a2 body.length k2 a3 other.length k3)) :: K) s):=h.box (kzA 3 n m at_ a1 args.length k1 a2 body.length k2 a3 other.length k3)
 have Bz:(zgu (ndW 6) args s).code.length+1<=1000000:=by simp only [zac,zgv,za2] at hr;omega
 have HC:=hid (zrk (cap:=k1) m at_ hN hD HW.out (by omega));clear h hN hD;go_enter Tryz.func172,Tryz.ntmps172;go_wp2_with fail;refine (HC.out).mono ?_;rintro e w1 ⟨rfl,h1⟩;have H1:=hid h1;clear h1;go_wp2_with fail;refine (zbz 17 0 0 H1.out (by simp only [zgv,za2];omega)).mono ?_;rintro e w2 ⟨rfl,h2⟩;have H2:=hid h2;clear h2;go_wp2_with fail;go_end0;exact ⟨rfl,H2.out.tail⟩
theorem z96 {w0 w:World} {R k:Nat} {K:List (Nat × Obj)} {s:Wrt} {A:Nat->Prop} {n m at_:Int} {args:List Nd} {body other:List Ac} {a1:OA} {k1:Nat} {a2:OA} {k2:Nat} {a3:OA} {k3:Nat} (hN:∀ y ∈ args,NdC w0 R 6 y) (hD:DAt w0 A a1 args.length (zdg args)) (h:Wri w0 w R K s) (hl:args.length=2) (hr:(zbq 8 0 0 (ndW 6 (argN args 1) (zml (ndW 6 (argN args 0)) n m at_ s))).code.length<=1000000) :
 qc 172 #[pq R 0,.agg #[qi 2,qi n,qi m,qi at_,.slice a1 args.length k1,.slice a2 body.length k2,.slice a3 other.length k3]] w fun e w'=>e = .returned (.tuple #[])/\Wri w0 w' R K (zbq 8 0 0 (ndW 6 (argN args 1) (zml (ndW 6 (argN args 0)) n m at_ s))):=by
 have HW:Hid (Wri w0 (w.alloc (kzA 2 n m at_ a1 args.length k1 a2 body.length k2 a3 other.length k3)) R ((w.heap.size,(kzA 2 n m at_ a1 args.length k1 a2 body.length k2 a3 other.length k3)) :: K) s):=h.box (kzA 2 n m at_ a1 args.length k1 a2 body.length k2 a3 other.length k3);have m1:=zdd 6 (argN args 1) (zml (ndW 6 (argN args 0)) n m at_ s)
 have r1:(ndW 6 (argN args 1) (zml (ndW 6 (argN args 0)) n m at_ s)).code.length<=1000000:=by simp only [zac] at hr;omega
 have r0:(ndW 6 (argN args 0) s).code.length<=1000000:=by simp only [zml,za2] at m1 r1;omega
 obtain ⟨b,off,aa,ca,rfl,hA,hc⟩:=zem hD 0 (by omega);obtain ⟨b',C7,ab,cb,Iy,hB,hd⟩:=zem hD 1 (by omega);cases Iy;simp only [vbi,vbp] at hc;simp only [vdm] at hd;have hy:=zct hN 0 (by omega);have hz:=zct hN 1 (by omega);generalize argN args 0=y at *;generalize argN args 1=z at *;have HC:=hid (zn0 (cp:=ca) n m at_ hy hA HW.out.drew r0);have HZ:=hid (fun (W:World) (h:Wri w0 W R ((w.heap.size,(kzA 2 n m at_ (some (qa b off)) args.length k1 a2 body.length k2 a3 other.length k3)) :: K) (zml (ndW 6 y) n m at_ s))=>hz A ab cb _ _ W hB h r1)
 have HS:Hid (∀ W s',Wri w0 W R ((w.heap.size,(kzA 2 n m at_ (some (qa b off)) args.length k1 a2 body.length k2 a3 other.length k3)) :: K) s'->W.cell? (qa w.heap.size 1)=some (qi n)/\W.cell? (qa w.heap.size 2)=some (qi m)/\W.cell? (qa w.heap.size 3)=some (qi at_)/\W.cell? (qa w.heap.size 4)=some (.slice (some (qa b off)) args.length k1)/\W.cell? (qa b off)=some (qi y.op)/\W.cell? ⟨b,off+1,none⟩=some (qi y.n)/\W.cell? ⟨b,off+2,none⟩=some (qi y.m)/\W.cell? ⟨b,off+3,none⟩=some (qi y.at_)/\W.cell? ⟨b,off+4,none⟩=some (.slice aa y.args.length ca)):=fun W s' hW=>by
  obtain ⟨q0,q1,q2,q3,q4,q5,q6, -⟩:=zao hW.head;obtain ⟨z0,z1,z2,z3,z4⟩:=hc W hW.below;exact ⟨q1,q2,q3,q4,z0,z1,z2,z3,z4⟩
 have F0:Hid (∀ W s',Wri w0 W R ((w.heap.size,(kzA 2 n m at_ (some (qa b off)) args.length k1 a2 body.length k2 a3 other.length k3)) :: K) s'->W.cell? (qa w.heap.size 4)=some (.slice (some (qa b off)) args.length k1)/\W.cell? ⟨b,off+5,none⟩=some (qi z.op)/\W.cell? ⟨b,off+5+1,none⟩=some (qi z.n)/\W.cell? ⟨b,off+5+2,none⟩=some (qi z.m)/\W.cell? ⟨b,off+5+3,none⟩=some (qi z.at_)/\W.cell? ⟨b,off+5+4,none⟩=some (.slice ab z.args.length cb)):=fun W s' hW=>by
  obtain ⟨q0,q1,q2,q3,q4,q5,q6, -⟩:=zao hW.head;obtain ⟨z0,z1,z2,z3,z4⟩:=hd W hW.below;exact ⟨q4,z0,z1,z2,z3,z4⟩
 have HD:=hid HW.out.drew
 have Bm:1<args.length:=by omega
 clear h hN hD hA hB hy hz hc hd hl;go_enter Tryz.func172,Tryz.ntmps172;go_upto_region 5 with fail
 go_region_held (fun W=>W.cell? (qa w.heap.size 1)=some (qi n)/\W.cell? (qa w.heap.size 2)=some (qi m)/\W.cell? (qa w.heap.size 3)=some (qi at_)/\W.cell? (qa w.heap.size 4)=some (.slice (some (qa b off)) args.length k1)/\W.cell? (qa b off)=some (qi y.op)/\W.cell? ⟨b,off+1,none⟩=some (qi y.n)/\W.cell? ⟨b,off+2,none⟩=some (qi y.m)/\W.cell? ⟨b,off+3,none⟩=some (qi y.at_)/\W.cell? ⟨b,off+4,none⟩=some (.slice aa y.args.length ca)) (first | with_reducible exact HS.out _ _ HW.out | with_reducible exact HS.out _ _ HD.out | with_reducible exact HS.out _ _ H1.out)
  (first
    | (go_at_call 215;refine HC.out.mono ?_;rintro e w1 ⟨rfl,h1⟩;have H1:=hid h1;clear h1))
 all_goals
  obtain ⟨q4,z0,z1,z2,z3,z4⟩:=F0.out _ _ H1.out;go_wp2_with fail;refine (HZ.out _ H1.out).mono ?_;rintro e w2 ⟨rfl,h2⟩;have H2:=hid h2;clear h2 q4 z0 z1 z2 z3 z4;go_wp2_with fail;refine (zbz 8 0 0 H2.out r1).mono ?_;rintro e w3 ⟨rfl,h3⟩;have H3:=hid h3;clear h3;go_wp2_with fail;go_end0;exact ⟨rfl,H3.out.tail⟩
def zvo (f:Ac->Wrt->Wrt) (op n m at_:Int) (args:List Nd) (body other:List Ac) (s:Wrt):Wrt:=
 if op=1 then z4g (ndW 6 (argN args 0)) m at_ s
 else if op=2 then zbq 8 0 0 (ndW 6 (argN args 1) (zml (ndW 6 (argN args 0)) n m at_ s))
 else if op=3 then zbq 17 0 0 (zgv (zgu (ndW 6) args) m at_ s)
 else if op=4 then brW (ndW 6 (argN args 0)) (zdh f body) (zdh f other) other.isEmpty s
 else if op=5 then whW (ndW 6 (argN args 0)) (zdh f body) s
 else if op=6 then zbq 15 0 0 (ndW 6 (argN args 0) s)
 else if op=7 then zbq 19 0 0 (ndW 6 (argN args 0) s)
 else s
theorem zpp (k:Nat) (op n m at_:Int) (args:List Nd) (body other:List Ac) (s:Wrt):acW (k+1) ⟨op,n,m,at_,args,body,other⟩ s=zvo (acW k) op n m at_ args body other s:=rfl
theorem zlv {c:Ck} {op n m at_:Int} {args:List Nd} {body other:List Ac} (h:zb7 c ⟨op,n,m,at_,args,body,other⟩=true):(1<=op/\op<=7)/\(op=2->args.length=2)/\(op≠2->op≠3->args.length=1):=by
 unfold zb7 at h
 by_cases e1:op=1
 . subst e1
   simp [Ac.op,Ac.args] at h;exact ⟨by decide,fun h=>absurd h (by decide),fun _ _=>of_decide_eq_true h.1⟩
 by_cases e2:op=2
 . subst e2
   simp [Ac.op,Ac.args] at h;exact ⟨by decide,fun _=>of_decide_eq_true h.1,fun h=>absurd rfl h⟩
 by_cases e3:op=3
 . subst e3
   exact ⟨by decide,fun h=>absurd h (by decide),fun _ h=>absurd rfl h⟩
 by_cases e4:4<=op/\op<=7
 . simp [Ac.op,Ac.args,e1,e2,e3,e4] at h
   exact ⟨by omega,fun h=>absurd h e2,fun _ _=>of_decide_eq_true h.1⟩
 . simp [Ac.op,Ac.args,e1,e2,e3,e4] at h
theorem z6j {w0:World} {R k:Nat} {c:Ck} {x:Ac} (hx:zb7 c x=true) (hN:∀ y ∈ x.args,NdC w0 R 6 y) (hB:∀ y ∈ x.body,AcC w0 R k y) (hO:∀ y ∈ x.other,AcC w0 R k y):AcC w0 R (k+1) x:=by
 obtain ⟨op,n,m,at_,args,body,other⟩:=x;intro A a1 k1 a2 k2 a3 k3 K s w hD dB dO h hr;obtain ⟨⟨o1,o7⟩,l2,l1⟩:=zlv hx;rw [zpp] at hr ⊢;unfold zvo at hr ⊢;simp only [Ac.op,Ac.n,Ac.m,Ac.at_,Ac.args,Ac.body,Ac.other] at hD dB dO hN hB hO ⊢
 by_cases e1:op=1
 . rw [if_pos e1] at hr ⊢
   subst e1;unfold z4g at hr ⊢;refine z90 ?_
   by_cases hm:m = -1
   . rw [if_pos hm] at hr ⊢;exact z9y (k:=0) hN hD (h.box _) (l1 (by decide) (by decide)) hm hr
   . rw [if_neg hm] at hr ⊢;exact z9z (k:=0) hN hD (h.box _) (l1 (by decide) (by decide)) hm hr
 rw [if_neg e1] at hr ⊢
 by_cases e2:op=2
 . rw [if_pos e2] at hr ⊢
   subst e2;exact z96 (k:=0) hN hD h (l2 rfl) hr
 rw [if_neg e2] at hr ⊢
 by_cases e3:op=3
 . rw [if_pos e3] at hr ⊢
   subst e3;exact z95 (k:=0) hN hD h hr
 rw [if_neg e3] at hr ⊢;have hl:=l1 e2 e3
 by_cases e4:op=4
 . rw [if_pos e4] at hr ⊢
   subst e4;refine z91 ?_;unfold brW at hr ⊢
   cases other with
   | nil=>exact ya2 (other:=[]) hN hD (h.box _) hl hB dB hr
   | cons o r=>exact ya3 hN hD (h.box _) hl hB dB hO dO (by simp) hr
 rw [if_neg e4] at hr ⊢
 by_cases e5:op=5
 . rw [if_pos e5] at hr ⊢
   subst e5;exact z92 (wwh hN hD (h.box _) hl hB dB hr)
 rw [if_neg e5] at hr ⊢
 by_cases e6:op=6
 . rw [if_pos e6] at hr ⊢
   subst e6;exact z93 (k:=0) hN hD h hl hr
 rw [if_neg e6] at hr ⊢
 by_cases e7:op=7
 . rw [if_pos e7] at hr ⊢
   subst e7;exact z94 (k:=0) hN hD h hl hr
 . omega
theorem zj7 {w0:World} {R:Nat} {c:Ck}:∀ (k:Nat) (l:List Ac),zeo c k l=true->∀ y ∈ l,AcC w0 R k y
 | 0,l,h=>by simp [zeo] at h
 | k + 1,l,h=>fun y hy=>by
   simp only [zeo,vac,vas] at h;obtain ⟨h1,h2,h3⟩:=h.2 y hy
   have hN:∀ z ∈ y.args,NdC w0 R 6 z:=fun z hz=>by
    rw [show zgf c 6 y.args=y.args.all (fun x=>zax c x&&zgf c 5 x.args) from rfl,vas] at h2;have h4:=h2 z hz;rw [vac] at h4;exact zrl 5 z h4.1 h4.2
   have nil:∀ (q:List Ac),q.length=0->∀ z ∈ q,AcC w0 R k z:=fun q hq z hz=>by
    rw [vak hq] at hz;simp at hz
   refine z6j h1 hN ?_ ?_
   . split at h3
     . exact zj7 k _ (vac .. ▸ h3).1
     . split at h3
       . exact zj7 k _ (vac .. ▸ h3).1
       . simp only [vac,decide_eq_true_eq] at h3
         exact nil _ h3.1
   . split at h3
     . exact zj7 k _ (vac .. ▸ h3).2
     . split at h3
       . simp only [vac,decide_eq_true_eq] at h3
         exact nil _ h3.2
       . simp only [vac,decide_eq_true_eq] at h3
         exact nil _ h3.2
def grw:Nat->Nat
 | 0=>0
 | k+1=>3*grw k+4
theorem zlw {f:Nd->Wrt->Wrt} {g:Nat}:∀ (l:List Nd),(∀ y ∈ l,∀ s,(f y s).code.length<=s.code.length+g)->∀ s,(zgu f l s).code.length<=s.code.length+l.length*g
 | [],_,s=>by simp [zgu]
 | x :: r,h,s=>by
   have h1:=h x (var ..) s;have h2:=zlw r (fun y hy=>h y (vai _ hy)) (f x s);show (zgu f r (f x s)).code.length<=_;simp only [vav,Nat.add_mul,vdm];omega
def Few (c:Ck):Prop:=∀ m at_ k:Int,zjn c m at_ k=true->k<=3
theorem z0s {c:Ck} (hc:Few c) {x:Nd} (h:zax c x=true):x.args.length<=3:=by
 obtain ⟨op,n,m,at_,args⟩:=x;show args.length<=3
 by_cases e1:op=1
 . subst e1;simp [zax,Nd.op,Nd.args] at h;rw [h.1];simp
 by_cases e3:op=16
 . subst e3;simp [zax,Nd.op,Nd.args] at h;rw [h.1];simp
 by_cases e4:op=3
 . subst e4;simp [zax,Nd.op,Nd.args] at h;rw [h.1];simp
 by_cases e5:op=4
 . subst e5;have:=z0r h;omega
 by_cases e6:op=5
 . subst e6
   simp [zax,Nd.op,Nd.args,Nd.m,Nd.at_] at h;have:=hc _ _ _ h.2;omega
 have hl:=ztv h e1 e3 e4 e5 e6;unfold argsOf at hl
 split at hl
 . omega
 . split at hl
   . omega
   . split at hl<;>omega
theorem z3n {c:Ck} (hc:Few c):∀ (k:Nat) (x:Nd),zax c x=true->zgf c k x.args=true->∀ s,(ndW (k+1) x s).code.length<=s.code.length+grw (k+1):=by
 have Cy:∀ (k:Nat) (x:Nd),zax c x=true->(∀ y ∈ x.args,∀ s,(ndW k y s).code.length<=s.code.length+grw k)->∀ s,(ndW (k+1) x s).code.length<=s.code.length+grw (k+1):=by
  intro k x hx hN s;have hl:=z0s hc hx;obtain ⟨op,n,m,at_,args⟩:=x
  have hA:∀ i s,(ndW k (argN args i) s).code.length<=s.code.length+grw k:=fun i s=>by
   by_cases hi:i<args.length
   . rw [zgo _ _ hi];exact hN _ (vaj hi) s
   . have:argN args i=nd0:=by simp [argN,vay,vbq (Nat.le_of_not_lt hi)]
     rw [this]
     cases k with
     | zero=>exact Nat.le_add_right ..
     | succ k=>
       show (zbq 10 0 0 (zgu (ndW k) [] s)).code.length<=_;rw [zac];show s.code.length+1<=s.code.length+(3*grw k+4);omega
  have A8:=zlw (f:=ndW k) (g:=grw k) args hN s;have hm:args.length*grw k<=3*grw k:=vdi _ hl;have h0:=hA 0 s;have h1:=hA 1 (zcs 12 0 (ndW k (argN args 0) s));have h2:=hA 1 (zcd (ndW k (argN args 0) s).code.length (zcs 11 0 (zbq 1 1 0 (zcs 12 0 (ndW k (argN args 0) s)))));rw [ndW_succ];unfold ndStep;simp only [grw];simp only [zae,zak,zac] at h1 h2
  repeat' split
  all_goals (simp only [zac,za2,zml,zgv,z0j,orW,zae,zak];omega)
 intro k
 induction k with
 | zero=>intro x h1 h2;exact Cy 0 x h1 (fun y hy s=>Nat.le_add_right ..)
 | succ k ih=>
   intro x h1 h2;refine Cy (k+1) x h1 (fun y hy=>?_);rw [show zgf c (k+1) x.args=x.args.all (fun x=>zax c x&&zgf c k x.args) from rfl,vas] at h2;have h4:=h2 y hy;rw [vac] at h4;exact ih y h4.1 h4.2
theorem zic {f:Ac->Wrt->Wrt} {g:Nat}:∀ (l:List Ac),(∀ y ∈ l,∀ s,(f y s).code.length<=max s.code.length 2048+g)->∀ s,(zdh f l s).code.length<=max s.code.length (2048+g)
 | [],_,s=>Nat.le_max_left ..
 | x :: r,h,s=>by
   have h1:=h x (var ..) s;have h2:=zic r (fun y hy=>h y (vai _ hy));show (zdh f r (if zhh s=true then s else f x s)).code.length<=_;split
   . exact h2 s
   . rename_i hf
     have:=h2 (f x s);unfold zhh at hf;simp only [decide_eq_true_eq] at hf;omega
theorem z0t {c:Ck} {k:Nat} {l:List Ac} (h:zeo c (k+1) l=true) {y:Ac} (hy:y ∈ l):zb7 c y=true/\zgf c 6 y.args=true/\(zeo c k y.body=true\/y.body.length=0)/\(zeo c k y.other=true\/y.other.length=0):=by
 simp only [zeo,vac,vas] at h;obtain ⟨h1,h2,h3⟩:=h.2 y hy;refine ⟨h1,h2,?_⟩
 split at h3
 . rw [vac] at h3;exact ⟨Or.inl h3.1,Or.inl h3.2⟩
 . split at h3
   . rw [vac] at h3;exact ⟨Or.inl h3.1,Or.inr (of_decide_eq_true h3.2)⟩
   . rw [vac] at h3;exact ⟨Or.inr (of_decide_eq_true h3.1),Or.inr (of_decide_eq_true h3.2)⟩
theorem zpq {c:Ck} (hc:Few c):∀ (k:Nat) (l:List Ac),zeo c k l=true->∀ y ∈ l,∀ s,(acW k y s).code.length<=max s.code.length 2048+5000*k
 | 0,l,h=>by simp [zeo] at h
 | k + 1,l,h=>fun y hy s=>by
   obtain ⟨h1,h2,h3,h4⟩:=z0t h hy;obtain ⟨op,n,m,at_,args,body,other⟩:=y;obtain ⟨⟨o1,o7⟩,l2,l1⟩:=zlv h1;simp only [Ac.args,Ac.body,Ac.other] at h2 h3 h4
   have hN:∀ z ∈ args,∀ s,(ndW 6 z s).code.length<=s.code.length+1456:=fun z hz s=>by
    rw [show zgf c 6 args=args.all (fun x=>zax c x&&zgf c 5 x.args) from rfl,vas] at h2;have h5:=h2 z hz;rw [vac] at h5;exact z3n hc 5 z h5.1 h5.2 s
   have hA:∀ i,i<args.length->∀ s,(ndW 6 (argN args i) s).code.length<=s.code.length+1456:=fun i hi s=>by
    rw [zgo _ _ hi];exact hN _ (vaj hi) s
   have nil:∀ (q:List Ac),q.length=0->∀ s,(zdh (acW k) q s).code.length<=max s.code.length (2048+5000*k):=fun q hq s=>by
    rw [vak hq];exact Nat.le_max_left ..
   have hB:∀ s,(zdh (acW k) body s).code.length<=max s.code.length (2048+5000*k):=by
    rcases h3 with h3 | h3
    . exact zic _ (zpq hc k _ h3)
    . exact nil _ h3
   have hO:∀ s,(zdh (acW k) other s).code.length<=max s.code.length (2048+5000*k):=by
    rcases h4 with h4 | h4
    . exact zic _ (zpq hc k _ h4)
    . exact nil _ h4
   rw [zpp];unfold zvo
   by_cases e3:op=3
   . subst e3
     have hp:args.length<=3:=by
      simp [zb7,Ac.op,Ac.args,Ac.m,Ac.at_] at h1;have:=hc _ _ _ h1.2;omega
     have h5:=zlw (f:=ndW 6) (g:=1456) args hN s;have h6:args.length*1456<=3*1456:=vdi _ hp;simp only [show ¬ ((3:Int)=1) from by decide,show ¬ ((3:Int)=2) from by decide,if_true,if_false,zac,zgv,za2];omega
   have Bm:0<args.length:=by
    by_cases e2:op=2
    . have:=l2 e2;omega
    . have:=l1 e2 e3;omega
   have h0:=hA 0 Bm s;have b1:=hB (zcs 12 0 (ndW 6 (argN args 0) s));have b2:=hO (zcd (ndW 6 (argN args 0) s).code.length (zcs 11 0 (zdh (acW k) body (zcs 12 0 (ndW 6 (argN args 0) s)))));have b3:=hB (zbq 16 0 0 (zcs 12 0 (ndW 6 (argN args 0) s)));simp only [zae,zak,zac] at b1 b2 b3
   by_cases e2:op=2
   . subst e2
     have h7:=hA 1 (by have:=l2 rfl;omega) (zml (ndW 6 (argN args 0)) n m at_ s);simp only [show ¬ ((2:Int)=1) from by decide,if_true,if_false,zac];simp only [zml,za2] at h7 ⊢;omega
   repeat' split
   all_goals first
    | omega
    | (simp only [zac,z4g,brW,whW];omega)
    | (unfold z4g;split<;>simp only [zac,za2]<;>omega)
    | (unfold brW;split<;>simp only [zae]<;>omega)
    | (unfold whW;simp only [zae,zak];omega)
theorem zn1 {c:Ck} (hc:Few c) (p:Pt) (h:zeo c 6 p.body=true) (s:Wrt):(zpn p s).code.length<=max s.code.length 32048+3:=by
 have:=zic p.body (zpq hc 6 p.body h) (zbq 14 p.params p.locals s);simp only [zac] at this;simp only [zpn,zac];omega
theorem zrm {w0 w:World} {R:Nat} {K:List (Nat × Obj)} {s:Wrt} {A:Nat->Prop} {p:Pt} {a:OA} {cap:Nat} {c:Ck} (hp:zeo c 6 p.body=true) (hD:DAt w0 A a p.body.length (zdm p.body)) (h:Wri w0 w R K s) (hr:(zpn p s).code.length<=1000000) :
 qc 79 #[pq R 0,.agg #[qi p.params,qi p.locals,.slice a p.body.length cap]] w fun e w'=>e = .returned (.tuple #[])/\Wri w0 w' R K (zpn p s):=by
 have HW:Hid (Wri w0 (w.alloc (kzL p.params p.locals a p.body.length cap)) R ((w.heap.size,kzL p.params p.locals a p.body.length cap) :: K) s):=h.box _;have m1:=zch (zfr 6) p.body (zbq 14 p.params p.locals s)
 have r1:(zdh (acW 6) p.body (zbq 14 p.params p.locals s)).code.length+2<=1000000:=by simp only [zpn,zac] at hr;omega
 rw [zac] at m1;have HB:=hid (fun (K:List (Nat × Obj)) (s:Wrt) (w:World)=>zff (w:=w) (K:=K) (s:=s) (cap:=cap) (zj7 (w0:=w0) (R:=R) 6 p.body hp) hD);clear h hp hD;go_enter Tryz.func79,Tryz.ntmps79;go_wp2_with fail;refine (zbz 14 p.params p.locals HW.out (by omega)).mono ?_;rintro e w1 ⟨rfl,h1⟩;have H1:=hid h1;clear h1;obtain ⟨q0,q1,q2, -⟩:=zev H1.out.head;go_wp2_with fail;refine (HB.out _ _ _ H1.out (by omega)).mono ?_;rintro e w2 ⟨rfl,h2⟩;have H2:=hid h2;clear h2 q0 q1 q2;go_wp2_with fail;refine (zbz 1 0 0 H2.out (by omega)).mono ?_;rintro e w3 ⟨rfl,h3⟩;have H3:=hid h3;clear h3;go_wp2_with fail;refine (zbz 15 0 0 H3.out (by rw [zac];omega)).mono ?_;rintro e w4 ⟨rfl,h4⟩;have H4:=hid h4;clear h4;go_wp2_with fail;go_end0;exact ⟨rfl,H4.out.tail⟩
def ziy (m at_ n:Int):Bool:=decide (n=1/\at_=512)||z00 512 at_ n
def zig (m at_ k:Int):Bool:=decide (0<=at_/\at_<6)&&decide (k<=3)
theorem zpr (m at_ n:Int) (w:World) (ha:(Lit.int .i64 at_).wf=true) (h1:1<=n) (h2:n<=32) :
 qc 327 #[.agg #[],qi m,qi at_,qi n] w fun e w'=>e = .returned (.bool (ziy m at_ n))/\qb w w':=by
 by_cases t1:n=1
 . by_cases t2:at_=512
   . have HR:Hid (ziy m at_ n=true):=by show _=_;unfold ziy;rw [decide_eq_true ⟨t1,t2⟩];rfl
     subst t1;subst t2;clear ha h1 h2;go_enter Tryz.func327,Tryz.ntmps327;go_wp2_with fail;go_ret;exact ⟨ret_bool HR.out.symm,al1 _ _⟩
   . have HR:Hid (ziy m at_ n=z00 512 at_ n):=by show _=_;unfold ziy;rw [decide_eq_false (fun h=>t2 h.2)];rfl
     have HL:=hid (zld 512 at_ n (w.alloc (.cells #[] 133)) (by decide) (by decide) h1 h2 ha);subst t1;clear ha h1 h2;go_enter Tryz.func327,Tryz.ntmps327;go_wp2_with fail;refine HL.out.mono ?_;rintro e w1 ⟨rfl,rfl⟩;go_wp2_with fail;go_ret;exact ⟨ret_bool (by first | exact HR.out.symm | (rw [HR.out]<;>first | (simp;omega) | (simp [*];done))),al1 _ _⟩
 . have HR:Hid (ziy m at_ n=z00 512 at_ n):=by show _=_;unfold ziy;rw [decide_eq_false (fun h=>t1 h.1)];rfl
   have HL:=hid (zld 512 at_ n (w.alloc (.cells #[] 133)) (by decide) (by decide) h1 h2 ha);clear ha h1 h2;go_enter Tryz.func327,Tryz.ntmps327;go_wp2_with fail;refine HL.out.mono ?_;rintro e w1 ⟨rfl,rfl⟩;go_wp2_with fail;go_ret;exact ⟨ret_bool HR.out.symm,al1 _ _⟩
theorem zmm (m at_:Int) (k:Nat) (w:World) :
 qc 328 #[.agg #[],qi m,qi at_,qi k] w fun e w'=>e = .returned (.bool (zig m at_ k))/\qb w w':=by
 by_cases t1:0<=at_
 . by_cases t2:at_<6
   . have HR:Hid (zig m at_ k=decide ((k:Int)<=3)):=by show _=_;unfold zig;rw [decide_eq_true ⟨t1,t2⟩];rfl
     go_enter Tryz.func328,Tryz.ntmps328;go_wp2_with fail;go_ret;exact ⟨ret_bool HR.out.symm,al1 _ _⟩
   . have HR:Hid (zig m at_ k=false):=by show _=_;unfold zig;rw [decide_eq_false (fun h=>t2 h.2)];rfl
     have Em:6<=at_:=by omega
     clear t2;go_enter Tryz.func328,Tryz.ntmps328;go_wp2_with fail;go_ret;exact ⟨ret_bool HR.out.symm,al1 _ _⟩
 . have HR:Hid (zig m at_ k=false):=by show _=_;unfold zig;rw [decide_eq_false (fun h=>t1 h.1)];rfl
   have DJ:at_<0:=by omega
   clear t1;go_enter Tryz.func328,Tryz.ntmps328;go_wp2_with fail;go_ret;exact ⟨ret_bool HR.out.symm,al1 _ _⟩
theorem ztw (w:World) (u:Un) (lc:Int):UsAt w (zif u ziy zig lc) 327 328 (.agg #[]):=
 ⟨fun W _ m at_ n _ ha h1 h2=>zpr m at_ n W ha h1 h2,fun W _ m at_ k _ _ _=>zmm m at_ k W⟩
theorem zrn (u:Un) (x1:OA) (y1:Nat) (x2:OA) (y2:Nat) (x3:OA) (y3:Nat) (w:World) (hU:UvAt w u x1 y1 x2 y2 x3 y3) :
 qc 77 #[.agg #[.string u.name,.slice x1 u.uses.length y1,qi u.data,.slice x2 u.parts.length y2,.slice x3 u.main.length y3],.iface 133 (.agg #[])] w fun e w'=>e = .returned (.bool (ze0 u ziy zig))/\qb w w':=
 z24 u ziy zig x1 y1 x2 y2 x3 y3 133 (.agg #[]) w hU (fun hh lc W hW=>by
  have hd:=ziv hh
  exact ckS (zif u ziy zig lc) u.name x1 y1 x2 y2 x3 u.main.length y3 W hd.1 hd.2 (hU.later hW).uses.bound (hU.later hW).parts (ztw W u lc))
structure Ob where
 name:ByteArray
 uses:List ByteArray
 data:Int
 code:List Gi
 fixes:List Gf
 entries:List Int
 main:Int
def wr0:Wrt:=⟨[],[]⟩
def zb1 (l:List Pt):Wrt:=l.foldl (fun s p=>zpn p s) wr0
def entsW (l:List Pt):List Int:=(List.range l.length).map (fun i=>((zb1 (l.take i)).code.length:Int))
def genS (u:Un):Wrt:=zpn ⟨0,0,u.main⟩ (zb1 u.parts)
def zps (u:Un):Ob:=⟨u.name,u.uses,u.data,(genS u).code,(genS u).fixes,entsW u.parts,(zb1 u.parts).code.length⟩
def zw5 (u:Un):Except Int Ob:=
 if (Go.Lib.containsS u.uses u.name || !ze0 u ziy zig)=true then .error 1
 else if zhh (genS u)=true then .error 2
 else .ok (zps u)
theorem zhi (l:List Pt) (j:Nat) (h:j<l.length):zb1 (l.take (j+1))=zpn l[j] (zb1 (l.take j)):=by
 rw [vaf h];unfold zb1;rw [vbk]
 rfl
def zje (l:List Pt) (j:Nat):List Int:=(List.range j).map (fun i=>((zb1 (l.take i)).code.length:Int))
theorem ztx (l:List Pt) (j:Nat):zje l (j+1)=zje l j++[((zb1 (l.take j)).code.length:Int)]:=by
 unfold zje;rw [vdz,vbr]
 rfl
theorem zdp (l:List Pt) (j:Nat):(zje l j).length=j:=by simp [zje]
theorem zb0 {u:Un} {num prt:Int->Int->Int->Bool} (h:ze0 u num prt=true):(∀ p ∈ u.parts,zeo (zif u num prt (p.params+p.locals)) 6 p.body=true)/\zeo (zif u num prt 0) 6 u.main=true/\zdo u=true:=by
 unfold ze0 at h;simp only [vac,vas] at h;exact ⟨h.2.1,h.2.2,h.1⟩
theorem zvp {u:Un} (h:zdo u=true) (lc:Int):Few (zif u ziy zig lc):=fun m at_ k hk=>by
 unfold zjn at hk
 split at hk
 . unfold zvb at hk
   rw [vac] at hk;obtain ⟨_,h2⟩:=hk;unfold zdo at h;simp only [vac,vas] at h;simp only [zif] at h2
   cases hq:u.parts[at_.toNat]? with
   | none=>rw [hq] at h2;cases h2
   | some p=>
     rw [hq] at h2;have h3:=of_decide_eq_true h2;have h4:=h.2.1 p (vdh hq);unfold ptB at h4;rw [vac] at h4;have h5:=of_decide_eq_true h4.1;omega
 . rw [vac] at hk
   simp only [zif,zig,vac] at hk;exact of_decide_eq_true hk.2.2
theorem zlx {u:Un} (h:ze0 u ziy zig=true):∀ j,j<=u.parts.length->(zb1 (u.parts.take j)).code.length<=32051+3*j
 | 0,_=>by simp [zb1,wr0]
 | j+1,hj=>by
   have h1:=zlx h j (by omega);obtain ⟨hp,_,hh⟩:=zb0 h;have h2:=zn1 (zvp hh _) u.parts[j] (hp _ (vaj (by omega))) (zb1 (u.parts.take j));rw [zhi _ _ (by omega)];omega
theorem zid {u:Un} (h:zdo u=true):u.parts.length<=6:=by
 unfold zdo at h;simp only [vac] at h;exact of_decide_eq_true h.2.2.2
theorem zty {u:Un} (h:ze0 u ziy zig=true):(genS u).code.length<=33000:=by
 obtain ⟨_,hm,hh⟩:=zb0 h;have h1:=zlx h u.parts.length (vaa _);rw [vau] at h1;have h2:=zid hh;have h3:=zn1 (zvp hh 0) ⟨0,0,u.main⟩ hm (zb1 u.parts);unfold genS;omega
def intV (l:List Int):List Value:=l.map (Value.int .i64 ·)
theorem zro (l:List Int) (x:Int):intV (l++[x])=intV l++[qi x]:=by simp [intV]
def Ent (B:Nat) (v:Value) (es:List Int) (E:List (Nat × Obj)):Prop:=
 (es=[]/\v=qs/\E=[])\/∃ g cap AC,v = .slice (some (qa g 0)) es.length cap/\E=[(g,.cells AC 3)]/\B<=g/\es.length<=cap/\cap<=maxLen/\AC.size=cap*1/\AC.toList.take (es.length*1)=intV es
def Wre (w0 w:World) (R:Nat) (K:List (Nat × Obj)) (s:Wrt) (v:Value) (es:List Int):Prop:=∃ E,Ent w0.heap.size v es E/\Wri w0 w R (E++K) s/\∀ x ∈ K,v.ownBlock≠some x.1
section
variable {w0 w w':World} {R:Nat} {K:List (Nat × Obj)} {s:Wrt} {v:Value} {es:List Int}
theorem Wre.start (h:Wri w0 w R K s):Wre w0 w R K s (qs) []:=⟨[],Or.inl ⟨rfl,rfl,rfl⟩,h,fun x _ e=>by simp [Value.ownBlock] at e⟩
theorem Wre.own (h:Wre w0 w R K s v es):w.ownsRow w0.heap.size 3 1 v es.length (intV es):=by
 obtain ⟨E,hE,hw,_⟩:=h;refine ⟨by simp [intV],?_⟩
 rcases hE with ⟨h1,h2,_⟩ | ⟨g,cap,AC,hv,hE,hB,h3,h4,h5,h6⟩
 . exact Or.inl ⟨h2,by rw [h1];rfl⟩
 . subst hE
   exact Or.inr ⟨g,cap,AC,hv,hB,hw.head,h3,h4,h5,h6⟩
theorem Wre.form (h:Wre w0 w R K s v es):∃ a cap,v = .slice a es.length cap/\es.length<=cap/\cap<=maxLen:=zal h.own
theorem Wre.wri (h:Wre w0 w R K s v es):Wri w0 w R K s:=by
 obtain ⟨E,_,hw,_⟩:=h;exact hw.sub (fun x hx=>vby _ hx)
theorem Wre.later (h:Wre w0 w R K s v es) (hb:qb w w'):Wre w0 w' R K s v es:=by
 obtain ⟨E,hE,hw,hx⟩:=h;exact ⟨E,hE,hw.later hb,hx⟩
theorem Wre.alloc (h:Wre w0 w R K s v es) (o:Obj):Wre w0 (w.alloc o) R K s v es:=h.later ((Below.refl _ _).alloc (vaa _) o)
theorem Wre.box (h:Wre w0 w R K s v es) (o:Obj):Wre w0 (w.alloc o) R ((w.heap.size,o) :: K) s v es:=by
 have Ag:=h.own;obtain ⟨E,hE,hw,hx⟩:=h;refine ⟨E,hE,(hw.box o).sub (fun x hx=>?_),fun x hm=>?_⟩
 . rcases vbs.1 hx with h1 | h1
   . exact vai _ (vdj _ h1)
   . rcases vca.1 h1 with rfl | h1
     . exact var ..
     . exact vai _ (vby _ h1)
 . rcases vca.1 hm with rfl | hm
   . intro e
     have:=(Ag.lt _ e).2;simp only at this;omega
   . exact hx x hm
theorem Wre.tail {x:Nat × Obj} (h:Wre w0 w R (x :: K) s v es):Wre w0 w R K s v es:=by
 obtain ⟨E,hE,hw,hx⟩:=h;refine ⟨E,hE,hw.sub (fun y hy=>?_),fun y hy=>hx y (vai _ hy)⟩
 rcases vbs.1 hy with h1 | h1
 . exact vdj _ h1
 . exact vby _ (vai _ h1)
theorem Wre.call {P:Program} {f:FuncId} {args:Array Value} {s':Wrt} (h:Wre w0 w R K s v es) (hc:∀ K',Wri w0 w R K' s->Calls P f args w fun e w'=>e = .returned (.tuple #[])/\Wri w0 w' R K' s') :
 Calls P f args w fun e w'=>e = .returned (.tuple #[])/\Wre w0 w' R K s' v es:=by
 obtain ⟨E,hE,hw,hx⟩:=h;exact (hc _ hw).mono (fun e w' h=>⟨h.1,E,hE,h.2,hx⟩)
theorem Wre.onto {x:Int} {g cap:Nat} (h:Wre w0 w R K s v es) (ho:Onto w w' w0.heap.size 3 1 v es.length g cap (intV es++[qi x])) :
 Wre w0 w' R K s (.slice (some (qa g 0)) (es.length+1) cap) (es++[x]):=by
 have Ag:=h.own;obtain ⟨E,hE,⟨hl,cv,fv,hw⟩,hx⟩:=h
 have hv:∀ k,v.ownBlock=some k->k≠R/\cv.ownBlock≠some k/\fv.ownBlock≠some k:=fun k hk=>by
  rcases hE with ⟨_,h2,_⟩ | ⟨g',cap',AC,hv,hE,_⟩
  . rw [h2] at hk;simp [Value.ownBlock] at hk
  . subst hE
    rw [hv] at hk;simp only [Value.ownBlock,vbe] at hk;subst hk;obtain ⟨_,h2,h3,h4⟩:=hw.kp (g',.cells AC 3) (vdj _ (var ..));exact ⟨h2,h3,h4⟩
 have FK:∀ k,k<w.heap.size->v.ownBlock≠some k->g≠k:=fun k hk Ak e=>by
  rcases ho.at_ with h1 | h1
  . exact Ak (by rw [h1,e])
  . omega
 rcases ho.own.2 with ⟨h1,_⟩ | ⟨g',cap',AC,E3,hB,hg,h3,h4,h5,h6⟩
 . cases h1
 cases E3
 have KI:∀ k,cv.ownBlock=some k->v.ownBlock≠some k:=fun k h1 h2=>(hv k h2).2.1 h1
 have Oo:∀ k,fv.ownBlock=some k->v.ownBlock≠some k:=fun k h1 h2=>(hv k h2).2.2 h1
 have keep:∀ k,k<w.heap.size->v.ownBlock≠some k->w'.heap[k]? = w.heap[k]?:=fun k hk Ak=>
  (ho.old k _ (vbu hk) Ak).trans (vbu hk).symm
 refine ⟨[(g,.cells AC 3)],Or.inr ⟨g,cap,AC,by rw [vam];rfl,rfl,hB,by rw [vam];exact h3,h4,h5,by rw [vam,zro];exact h6⟩,⟨hl,cv,fv,?_⟩,fun y hy e=>?_⟩
 . exact {
    blk:=(keep R hw.ltR (fun e=>(hv R e).1 rfl)).trans hw.blk
    hR:=hw.hR
    code:=zai hw.code (fun k hk=>keep k (hw.code.lt k hk).2 (KI k hk))
    fix:=zai hw.fix (fun k hk=>keep k (hw.fix.lt k hk).2 (Oo k hk))
    apt:=hw.apt
    nc:=hw.nc
    nf:=hw.nf
    below:=hw.below.trans ho.below
    kp :=fun y hy=>by
     rcases vbs.1 hy with h7 | h7
     . rw [vcg] at h7
       subst h7;refine ⟨hg,FK R hw.ltR (fun e=>(hv R e).1 rfl),fun e=>?_,fun e=>?_⟩
       . exact FK g (hw.code.lt g e).2 (KI g e) rfl
       . exact FK g (hw.fix.lt g e).2 (Oo g e) rfl
     . obtain ⟨k1,k2,k3,k4⟩:=hw.kp y (vby _ h7)
       exact ⟨ho.old _ _ k1 (hx y h7),k2,k3,k4⟩}
 . have k1:=(hw.kp y (vby _ hy)).1
   simp only [Value.ownBlock,vbe] at e;exact FK y.1 (lt_of_heap k1) (hx y hy) e
end
set_option maxHeartbeats 3200000
theorem zfs (l:List ByteArray) (x:ByteArray) (a:OA) (cap:Nat) (w:World) (h:DAt w Tt a l.length (zaj l)) :
 qc 76 #[.slice a l.length cap,.string x] w fun e w'=>e = .returned (.bool (Go.Lib.containsS l x))/\w'=w:=by
 have hb:=h.bound
 rcases (zel h).1 with rfl | ⟨b,off,rfl,_,hc⟩
 . have:Go.Lib.containsS [] x=false:=by
    cases hq:Go.Lib.containsS [] x with
    | false=>rfl
    | true=>have:=(Go.Lib.containsS_iff [] x).1 hq;simp at this
   rw [this];exact Tryz.slices_Contains_string_empty a cap x w
 . have:=Tryz.slices_Contains_string b off l.length cap l x w (vaa _) (by omega) (fun j hj=>by rw [hc j hj];simp [vay,hj])
   rw [vau] at this;exact this
def zjf (w:World) (u:Un) (e:Ending) (w':World):Prop:=
 match zw5 u with
 | .error c=>e = .returned (.tuple #[.agg #[.string ⟨#[]⟩,.slice none 0 0,.int .i64 0,.slice none 0 0,.slice none 0 0,.slice none 0 0,.int .i64 0],.int .i64 c])
 | .ok o=>∃ ua uc ca cc fa fc ea ec,e = .returned (.tuple #[.agg #[.string o.name,.slice ua o.uses.length uc,.int .i64 o.data,.slice ca o.code.length cc,.slice fa o.fixes.length fc,.slice ea o.entries.length ec,.int .i64 o.main],.int .i64 0])/\
  w'.ownsRow w.heap.size 9 1 (.slice ua o.uses.length uc) o.uses.length (strV o.uses)/\w'.ownsRow w.heap.size 69 3 (.slice ca o.code.length cc) o.code.length (zen o.code)/\
  w'.ownsRow w.heap.size 67 3 (.slice fa o.fixes.length fc) o.fixes.length (z3l o.fixes)/\w'.ownsRow w.heap.size 3 1 (.slice ea o.entries.length ec) o.entries.length (intV o.entries)
theorem z0u {B:Nat} {w w':World} {b:Nat} (h:Below B w w') (hb:B<=b) (v0 v1 v2 v3 v4 v5 v6:Value) :
 Below B w (((((((w'.setCell (qa b 0) v0).setCell (qa b 1) v1).setCell (qa b 2) v2).setCell (qa b 3) v3).setCell (qa b 4) v4).setCell (qa b 5) v5).setCell (qa b 6) v6):=
 (((((((h.setCell (p:=(qa b 0)) hb v0).setCell (p:=(qa b 1)) hb v1).setCell (p:=(qa b 2)) hb v2).setCell (p:=(qa b 3)) hb v3).setCell (p:=(qa b 4)) hb v4).setCell (p:=(qa b 5)) hb v5).setCell (p:=(qa b 6)) hb v6)
theorem z3o (u:Un) (x1:OA) (y1:Nat) (x2:OA) (y2:Nat) (x3:OA) (y3:Nat) (w:World) (hU:UvAt w u x1 y1 x2 y2 x3 y3) (hc:(Go.Lib.containsS u.uses u.name || !ze0 u ziy zig)=true) :
 qc 31 #[.agg #[.string u.name,.slice x1 u.uses.length y1,qi u.data,.slice x2 u.parts.length y2,.slice x3 u.main.length y3]] w fun e w'=>zjf w u e w'/\qb w w':=by
 have HG:Hid (zw5 u = .error 1):=if_pos hc;have Af:Hid (qb w ((w.alloc (kzC u.name x1 u.uses.length y1 u.data x2 u.parts.length y2 x3 u.main.length y3)).alloc (kzD ⟨#[]⟩ none 0 0 0 none 0 0 none 0 0 none 0 0 0))):=((Below.refl _ _).alloc (vaa _) _).alloc (by simp) _;have HC:=hid (zfs u.uses u.name x1 y1 _ (hU.later Af.out).uses);have HH:=hid (zrn u x1 y1 x2 y2 x3 y3 _ (hU.later Af.out));have A6:=hU.uses.bound
 cases hq:Go.Lib.containsS u.uses u.name with
 | true=>
   rw [hq] at HC;clear hc hU HH hq;go_enter Tryz.func31,Tryz.ntmps31;go_wp2_with fail;refine HC.out.mono ?_;rintro e w' ⟨rfl,rfl⟩;go_wp2_with fail;refine bodyPost_ret (v:=.tuple #[.agg #[.string ⟨#[]⟩,qs,qi 0,qs,qs,qs,qi 0],qi 1]) (by simp [results,Tryz.results31,go_sem]) rfl ⟨by unfold zjf;rw [HG.out],?_⟩;exact Af.out
 | false=>
   rw [hq] at HC hc
   have hh:ze0 u ziy zig=false:=by simpa using hc
   rw [hh] at HH;clear hc hU hq hh;go_enter Tryz.func31,Tryz.ntmps31;go_wp2_with fail;refine HC.out.mono ?_;rintro e w' ⟨rfl,rfl⟩;go_wp2_with fail;refine HH.out.mono ?_;rintro e w3 ⟨rfl,A9⟩;have Ae:=hid (thenB Af.out A9)
   have hk:w3.heap[w.heap.size+1]? = some (kzD ⟨#[]⟩ none 0 0 0 none 0 0 none 0 0 none 0 0 0):=by
    have h1:=heap_newP (w.alloc (kzC u.name x1 u.uses.length y1 u.data x2 u.parts.length y2 x3 u.main.length y3)) (kzD ⟨#[]⟩ none 0 0 0 none 0 0 none 0 0 none 0 0 0);rw [vcm] at h1;exact (A9.block (w.heap.size+1) (by simp)).trans h1
   obtain ⟨q0,q1,q2,q3,q4,q5,q6,qz⟩:=zao hk;have A4:=lt_of_heap hk
   have hf:∀ j,w3.frozen? ⟨w.heap.size+1,j,none⟩=false:=fun j=>veg hk j
   clear A9 hk;go_wp2_with fail;refine bodyPost_ret (v:=.tuple #[.agg #[.string ⟨#[]⟩,qs,qi 0,qs,qs,qs,qi 0],qi 1]) (by simp [results,Tryz.results31,go_sem,q0,q1,q2,q3,q4,q5,q6,A4]) rfl ⟨by unfold zjf;rw [HG.out],?_⟩;exact z0u Ae.out (by omega) _ _ _ _ _ _ _
end Go.Proofs.YtndkhgakfodldaaGreatDoor

namespace Go.Proofs.YtndkhgakfodldaaGreatDoor
open Go.RowKit
structure Sw where
 data:List Int
 inp:List Int
 out:List Int
 ticks:Nat
 calls:Nat
inductive Rr (α:Type) where
 | ok (a:α) (s:Sw)
 | stop (e:Int) (s:Sw)
def Rr.bind {α β:Type}:Rr α->(α->Sw->Rr β)->Rr β
 | .ok a s,f=>f a s
 | .stop e s,_=>.stop e s
structure Cx where
 us:List Un
 near:List (List Nat)
 beg:List Int
 lim:Nat
structure Fr where
 loc:List Int
 ret:Int
def zjq (lim:Nat) (s:Sw):Rr Unit:=if s.ticks=lim then .stop 3 s else .ok () { s with ticks:=s.ticks+1 }
def zpt (s:Sw):Rr Int:=match s.inp with
 | []=>.ok 0 s
 | x :: r=>.ok x { s with inp:=r }
def ztz (n:Int) (s:Sw):Rr Unit:=if s.out.length=200 then .stop 5 s else .ok () { s with out:=s.out++[n] }
def z97 (cx:Cx) (u:Nat) (m:Int):Nat:=(cx.near.getD u []).getD m.toNat 0
def z6w (cx:Cx) (u:Nat) (m at_:Int):Int:=cx.beg.getD (z97 cx u m) 0+at_
def zrp (b:Bool):Int:=if b=true then 1 else 0
def ofS (op a b:Int):Option Int:=
 if op=9 then some (wrap64 (a+b))
 else if op=10 then some (wrap64 (a - b))
 else if op=11 then some (wrap64 (a*b))
 else if op=14 then some (zrp (a == b))
 else if op=15 then some (zrp (decide (a<b)))
 else if b=0 then none
 else if op=12 then some (wrap64 (Int.tdiv a b))
 else if op=13 then some (Int.tmod a b)
 else none
def ze4 (f:Nd->Sw->Rr Int):List Nd->Sw->Rr (List Int)
 | [],s=>.ok [] s
 | x :: r,s=>(f x s).bind fun v s=>(ze4 f r s).bind fun vs s=>.ok (v :: vs) s
def z8m (f:Sw->Rr Int) (p n:Int) (s:Sw):Rr Int:=(f s).bind fun i s=>if i<0\/n<=i then .stop 2 s else .ok (p+i) s
abbrev z02:=Nat->List Ac->List Int->Sw->Rr Int
def z0v (cx:Cx) (u:Nat) (m at_:Int):Pt:=match cx.us[z97 cx u m]? with
 | some x=>x.parts.getD at_.toNat ⟨0,0,[]⟩
 | none=>⟨0,0,[]⟩
def zrq (vs:List Int) (n:Int):List Int:=vs++List.replicate (n.toNat - vs.length) 0
def zvq (E:z02) (cx:Cx) (u:Nat) (f:Nd->Sw->Rr Int) (m at_:Int) (args:List Nd) (s:Sw):Rr Int:=
 (ze4 f args s).bind fun vs s=>E (z97 cx u m) (z0v cx u m at_).body (zrq vs ((z0v cx u m at_).params+(z0v cx u m at_).locals)) s
def vN (E:z02) (cx:Cx) (u:Nat) (loc:List Int):Nat->Nd->Sw->Rr Int
 | 0,_,s=>.ok 0 s
 | k+1,x,s=>
   if x.op=1 then .ok x.n s
   else if x.op=2 then zpt s
   else if x.op=16 then .ok (loc.getD x.at_.toNat 0) s
   else if x.op=3 then .ok (s.data.getD (z6w cx u x.m x.at_).toNat 0) s
   else if x.op=4 then (z8m (vN E cx u loc k (argN x.args 0)) (z6w cx u x.m x.at_) x.n s).bind fun p s=>.ok (s.data.getD p.toNat 0) s
   else if x.op=5 then zvq E cx u (vN E cx u loc k) x.m x.at_ x.args s
   else if x.op=6 then (vN E cx u loc k (argN x.args 0) s).bind fun v s=>.ok (zrp (decide (v=0))) s
   else if x.op=7 then (vN E cx u loc k (argN x.args 0) s).bind fun v s=>if v=0 then .ok 0 s else (vN E cx u loc k (argN x.args 1) s).bind fun v s=>.ok (zrp (decide (v≠0))) s
   else if x.op=8 then (vN E cx u loc k (argN x.args 0) s).bind fun v s=>if v=0 then (vN E cx u loc k (argN x.args 1) s).bind fun v s=>.ok (zrp (decide (v≠0))) s else .ok 1 s
   else (vN E cx u loc k (argN x.args 0) s).bind fun a s=>(vN E cx u loc k (argN x.args 1) s).bind fun b s=>match ofS x.op a b with
    | some n=>.ok n s
    | none=>.stop 1 s
def bN (f:Ac->Fr->Sw->Rr (Bool × Fr)):List Ac->Fr->Sw->Rr (Bool × Fr)
 | [],c,s=>.ok (false,c) s
 | a :: r,c,s=>(f a c s).bind fun d s=>if d.1=true then .ok (true,d.2) s else bN f r d.2 s
abbrev Whl:=Nat->Nd->List Ac->Fr->Sw->Rr (Bool × Fr)
def aN (E:z02) (L:Whl) (cx:Cx) (u:Nat):Nat->Ac->Fr->Sw->Rr (Bool × Fr)
 | 0,_,c,s=>.ok (false,c) s
 | k+1,a,c,s=>
   if a.op=1 then (vN E cx u c.loc 6 (argN a.args 0) s).bind fun v s=>if a.m = -1 then .ok (false,{ c with loc:=c.loc.set a.at_.toNat v }) s else .ok (false,c) { s with data:=s.data.set (z6w cx u a.m a.at_).toNat v }
   else if a.op=2 then (z8m (vN E cx u c.loc 6 (argN a.args 0)) (z6w cx u a.m a.at_) a.n s).bind fun p s=>(vN E cx u c.loc 6 (argN a.args 1) s).bind fun v s=>.ok (false,c) { s with data:=s.data.set p.toNat v }
   else if a.op=3 then (zvq E cx u (vN E cx u c.loc 6) a.m a.at_ a.args s).bind fun _ s=>.ok (false,c) s
   else if a.op=4 then (vN E cx u c.loc 6 (argN a.args 0) s).bind fun v s=>if v=0 then bN (aN E L cx u k) a.other c s else bN (aN E L cx u k) a.body c s
   else if a.op=5 then L u (argN a.args 0) a.body c s
   else if a.op=6 then (vN E cx u c.loc 6 (argN a.args 0) s).bind fun v s=>.ok (true,{ c with ret:=v }) s
   else if a.op=7 then (vN E cx u c.loc 6 (argN a.args 0) s).bind fun v s=>(ztz v s).bind fun _ s=>.ok (false,c) s
   else .ok (false,c) s
structure Lv where
 ent:z02
 whl:Whl
def ya4 (r:Lv) (cx:Cx) (u:Nat) (body:List Ac) (loc:List Int) (s:Sw):Rr Int:=
 (bN (aN r.ent r.whl cx u 6) body ⟨loc,0⟩ { s with calls:=s.calls+1 }).bind fun d s=>.ok d.2.ret { s with calls:=s.calls - 1 }
def zxe (r:Lv) (cx:Cx):z02:=fun u body loc s=>(zjq cx.lim s).bind fun _ s=>if s.calls=24 then .stop 4 s else ya4 r cx u body loc s
def z6k (r:Lv) (cx:Cx) (E:z02):Whl:=fun u x body c s=>
 (vN E cx u c.loc 6 x s).bind fun v s=>if v=0 then .ok (false,c) s else
   (zjq cx.lim s).bind fun _ s=>(bN (aN r.ent r.whl cx u 6) body c s).bind fun d s=>if d.1=true then .ok (true,d.2) s else r.whl u x body d.2 s
def lv0:Lv:=⟨fun _ _ _ s=>.stop 3 s,fun _ _ _ _ s=>.stop 3 s⟩
def lv (cx:Cx):Nat->Lv
 | 0=>⟨zxe lv0 cx,z6k lv0 cx (zxe lv0 cx)⟩
 | t+1=>⟨zxe (lv cx t) cx,z6k (lv cx t) cx (zxe (lv cx t) cx)⟩
structure Rs where
 end_:Int
 out:List Int
 data:List Int
 ticks:Nat
end Go.Proofs.YtndkhgakfodldaaGreatDoor
