import Derived.Test.YtndkhgakfodldaaGreatDoorUn
import Derived.Deep.RegionHeldLaw
namespace Go.Proofs.YtndkhgakfodldaaGreatDoor
set_option maxRecDepth 100000
set_option maxHeartbeats 6400000
open Go.RowKit Go.Maps Go.WideMaps
set_option linter.unusedSimpArgs false
set_option linter.unusedVariables false
def Apt (v u:Value):Prop:=∀ k,v.ownBlock=some k->u.ownBlock≠some k
theorem Apt.symm {v u:Value} (h:Apt v u):Apt u v:=fun k h1 h2=>h k h2 h1
theorem Apt.nil (u:Value):Apt (qs) u:=fun k h=>by simp [Value.ownBlock] at h
def zk0 (w:World) (a:OA) (l:List Bool):Prop:=l=[]\/∃ b off,a=some (qa b off)/\b<w.heap.size/\∀ i (h:i<l.length),w.cell? ⟨b,off+i,none⟩=some (.bool l[i])
theorem zk0.later {w w':World} {a:OA} {l:List Bool} (h:zk0 w a l) (hb:qb w w'):zk0 w' a l:=by
 rcases h with h | ⟨b,off,e,hl,h⟩
 . exact Or.inl h
 . exact Or.inr ⟨b,off,e,vah hl hb.size,fun i hi=>(hb.cell (p:=⟨b,off+i,none⟩) hl).trans (h i hi)⟩
theorem zk0.place {w:World} {a:OA} {l:List Bool} (h:zk0 w a l) {k:Nat} (hk:k<l.length):∃ b off,a=some (qa b off)/\b<w.heap.size/\w.cell? ⟨b,off+k,none⟩=some (.bool l[k]):=by
 rcases h with h | ⟨b,off,e,hl,h⟩
 . subst h;simp at hk
 . exact ⟨b,off,e,hl,h k hk⟩
structure Gi where
 op:Int
 a:Int
 b:Int
structure Gf where
 at_:Int
 kind:Int
 m:Int
structure Wrt where
 code:List Gi
 fixes:List Gf
def zbm (op a b:Int) (s:Wrt):Wrt:=⟨s.code++[⟨op,a,b⟩],s.fixes⟩
def zsk (kind m:Int) (i:Gi) (s:Wrt):Wrt:=⟨s.code++[i],s.fixes++[⟨s.code.length,kind,m⟩]⟩
def zck (op t:Int) (s:Wrt):Wrt:=zsk 1 0 ⟨op,t,0⟩ s
def zzr (x:Int) (i:Gi):Gi:=⟨i.op,x,i.b⟩
def zb8 (k:Nat) (s:Wrt):Wrt:=⟨s.code.modify k (zzr s.code.length),s.fixes⟩
def zgz (s:Wrt):Bool:=decide (2048<s.code.length)
def zy3 (f g:Wrt->Wrt) (s:Wrt):Wrt:=
 let s1:=f s
 let s4:=zbm 22 0 0 (g (zck 12 0 s1))
 zb8 s4.code.length (zbm 1 0 0 (zb8 s1.code.length (zck 11 0 s4)))
def orW (f g:Wrt->Wrt) (s:Wrt):Wrt:=
 let s1:=f s
 let s3:=zbm 1 1 0 (zck 12 0 s1)
 zb8 s3.code.length (zbm 22 0 0 (g (zb8 s1.code.length (zck 11 0 s3))))
def nd0:Nd:=⟨0,0,0,0,[]⟩
def argN (l:List Nd) (i:Nat):Nd:=l.getD i nd0
def zgh (f:Nd->Wrt->Wrt) (l:List Nd) (s:Wrt):Wrt:=l.foldl (fun s y=>f y s) s
def zlx (f:Wrt->Wrt) (n m at_:Int) (s:Wrt):Wrt:=zsk 3 m ⟨6,at_,n⟩ (f s)
def zgi (f:Wrt->Wrt) (m at_:Int) (s:Wrt):Wrt:=zsk 2 m ⟨13,at_,0⟩ (f s)
def ndW:Nat->Nd->Wrt->Wrt
 | 0,_,s=>s
 | k+1,x,s=>
   if x.op=1 then zbm 1 x.n 0 s
   else if x.op=2 then zbm 18 0 0 s
   else if x.op=16 then zbm 2 x.at_ 0 s
   else if x.op=3 then zsk 3 x.m ⟨4,x.at_,0⟩ s
   else if x.op=4 then zbm 7 0 0 (zlx (ndW k (argN x.args 0)) x.n x.m x.at_ s)
   else if x.op=5 then zgi (zgh (ndW k) x.args) x.m x.at_ s
   else if x.op=6 then zbm 9 0 0 (ndW k (argN x.args 0) s)
   else if x.op=7 then zy3 (ndW k (argN x.args 0)) (ndW k (argN x.args 1)) s
   else if x.op=8 then orW (ndW k (argN x.args 0)) (ndW k (argN x.args 1)) s
   else zbm 10 x.op 0 (zgh (ndW k) x.args s)
def zc3 (f:Ac->Wrt->Wrt) (l:List Ac) (s:Wrt):Wrt:=l.foldl (fun s y=>if zgz s=true then s else f y s) s
def z2w (f:Wrt->Wrt) (m at_:Int) (s:Wrt):Wrt:=if m = -1 then zbm 3 at_ 0 (f s) else zsk 3 m ⟨5,at_,0⟩ (f s)
def brW (f g h:Wrt->Wrt) (e:Bool) (s:Wrt):Wrt:=
 let s1:=f s
 let s2:=g (zck 12 0 s1)
 if e=true then zb8 s1.code.length s2
 else zb8 s2.code.length (h (zb8 s1.code.length (zck 11 0 s2)))
def whW (f g:Wrt->Wrt) (s:Wrt):Wrt:=
 let s1:=f s
 zb8 s1.code.length (zck 11 s.code.length (g (zbm 16 0 0 (zck 12 0 s1))))
def acW:Nat->Ac->Wrt->Wrt
 | 0,_,s=>s
 | k+1,a,s=>
   if a.op=1 then z2w (ndW 6 (argN a.args 0)) a.m a.at_ s
   else if a.op=2 then zbm 8 0 0 (ndW 6 (argN a.args 1) (zlx (ndW 6 (argN a.args 0)) a.n a.m a.at_ s))
   else if a.op=3 then zbm 17 0 0 (zgi (zgh (ndW 6) a.args) a.m a.at_ s)
   else if a.op=4 then brW (ndW 6 (argN a.args 0)) (zc3 (acW k) a.body) (zc3 (acW k) a.other) a.other.isEmpty s
   else if a.op=5 then whW (ndW 6 (argN a.args 0)) (zc3 (acW k) a.body) s
   else if a.op=6 then zbm 15 0 0 (ndW 6 (argN a.args 0) s)
   else if a.op=7 then zbm 19 0 0 (ndW 6 (argN a.args 0) s)
   else s
def zok (p:Pt) (s:Wrt):Wrt:=zbm 15 0 0 (zbm 1 0 0 (zc3 (acW 6) p.body (zbm 14 p.params p.locals s)))
def zk1 (f:Wrt->Wrt):Prop:=∀ s,s.code.length<=(f s).code.length
theorem zac (op a b:Int) (s:Wrt):(zbm op a b s).code.length=s.code.length+1:=by simp [zbm]
theorem zay (k m:Int) (i:Gi) (s:Wrt):(zsk k m i s).code.length=s.code.length+1:=by simp [zsk]
theorem zai (op t:Int) (s:Wrt):(zck op t s).code.length=s.code.length+1:=zay ..
theorem zae (k:Nat) (s:Wrt):(zb8 k s).code.length=s.code.length:=by simp [zb8]
theorem zhq {f:Nd->Wrt->Wrt} (hf:∀ x,zk1 (f x)):∀ l,zk1 (zgh f l)
 | [],s=>vaa _
 | x :: r,s=>vbd (hf x s) (zhq hf r (f x s))
theorem zcb {f:Ac->Wrt->Wrt} (hf:∀ x,zk1 (f x)):∀ l,zk1 (zc3 f l)
 | [],s=>vaa _
 | x :: r,s=>by
   show _<=(zc3 f r (if zgz s=true then s else f x s)).code.length;refine vbd ?_ (zcb hf r _);split
   . exact vaa _
   . exact hf x s
theorem zy4 {f g:Wrt->Wrt} (hf:zk1 f) (hg:zk1 g):zk1 (zy3 f g):=fun s=>by
 have h1:=hf s;have h2:=hg (zck 12 0 (f s));simp only [zy3,zae,zac,zai] at h2 ⊢;omega
theorem z12 {f g:Wrt->Wrt} (hf:zk1 f) (hg:zk1 g):zk1 (orW f g):=fun s=>by
 have h1:=hf s;have h2:=hg (zb8 (f s).code.length (zck 11 0 (zbm 1 1 0 (zck 12 0 (f s)))));simp only [orW,zae,zac,zai] at h2 ⊢;omega
theorem zc1:∀ k x,zk1 (ndW k x)
 | 0,_,s=>vaa _
 | k+1,x,s=>by
   have ih:=fun y=>zc1 k y
   have h1:=ih (argN x.args 0) s;have h2:=zhq ih x.args s;have h3:=zy4 (ih (argN x.args 0)) (ih (argN x.args 1)) s;have h4:=z12 (ih (argN x.args 0)) (ih (argN x.args 1)) s;unfold ndW
   repeat' split
   all_goals first | assumption | (simp only [zac,zay,zlx,zgi];omega)
theorem z13 {f g h:Wrt->Wrt} (hf:zk1 f) (hg:zk1 g) (hh:zk1 h) (e:Bool):zk1 (brW f g h e):=fun s=>by
 have h1:=hf s;have h2:=hg (zck 12 0 (f s));have h3:=hh (zb8 (f s).code.length (zck 11 0 (g (zck 12 0 (f s)))));simp only [brW,zae,zac,zai] at h2 h3 ⊢
 split<;>simp only [zae]<;>omega
theorem z14 {f g:Wrt->Wrt} (hf:zk1 f) (hg:zk1 g):zk1 (whW f g):=fun s=>by
 have h1:=hf s;have h2:=hg (zbm 16 0 0 (zck 12 0 (f s)));simp only [whW,zae,zac,zai] at h2 ⊢;omega
theorem zy5 {f:Wrt->Wrt} (hf:zk1 f) (m at_:Int):zk1 (z2w f m at_):=fun s=>by
 have h1:=hf s;unfold z2w
 split<;>simp only [zac,zay]<;>omega
theorem zfc:∀ k x,zk1 (acW k x)
 | 0,_,s=>vaa _
 | k+1,x,s=>by
   have ih:=fun y=>zfc k y
   have n0:=zc1 6 (argN x.args 0);have h1:=n0 s;have h2:=zy5 n0 x.m x.at_ s;have h3:=zc1 6 (argN x.args 1) (zlx (ndW 6 (argN x.args 0)) x.n x.m x.at_ s);have h4:=zhq (zc1 6) x.args s;have h5:=z13 n0 (zcb ih x.body) (zcb ih x.other) x.other.isEmpty s;have h6:=z14 n0 (zcb ih x.body) s;unfold acW
   repeat' split
   all_goals first | assumption | (simp only [zac,zay,zlx,zgi] at h3 ⊢;omega)
theorem zqg (f:Ac->Wrt->Wrt):∀ (l:List Ac) (s:Wrt),zgz s=true->zc3 f l s=s
 | [],s,_=>rfl
 | x :: r,s,h=>by
   show zc3 f r (if zgz s=true then s else f x s)=s;rw [if_pos h];exact zqg f r s h
theorem zy6 (f:Nd->Wrt->Wrt) (l:List Nd) (s:Wrt) (j:Nat) (h:j<l.length):zgh f (l.take (j+1)) s=f l[j] (zgh f (l.take j) s):=by
 rw [vaf h];unfold zgh;rw [vbn]
 rfl
theorem zy7 (f:Ac->Wrt->Wrt) (l:List Ac) (s:Wrt) (j:Nat) (h:j<l.length) (hn:zgz (zc3 f (l.take j) s)=false):zc3 f (l.take (j+1)) s=f l[j] (zc3 f (l.take j) s):=by
 rw [vaf h];unfold zc3 at hn ⊢;rw [vbn];simp only [List.foldl_cons,List.foldl_nil];rw [if_neg (by rw [hn];decide)]
theorem zy8 (f:Ac->Wrt->Wrt) (l:List Ac) (s:Wrt) (j:Nat) (hn:zgz (zc3 f (l.take j) s)=true):zc3 f l s=zc3 f (l.take j) s:=by
 have:=zqg f (l.drop j) (zc3 f (l.take j) s) hn;rw [← this];unfold zc3;rw [← vbn,vcg]
theorem z4z (f:Nd->Wrt->Wrt) (hf:∀ x,zk1 (f x)) (l:List Nd) (s:Wrt) (j:Nat):(zgh f (l.take j) s).code.length<=(zgh f l s).code.length:=by
 have:=zhq hf (l.drop j) (zgh f (l.take j) s);unfold zgh at this ⊢;rwa [← vbn,vcg] at this
theorem z40 (f:Ac->Wrt->Wrt) (hf:∀ x,zk1 (f x)) (l:List Ac) (s:Wrt) (j:Nat):(zc3 f (l.take j) s).code.length<=(zc3 f l s).code.length:=by
 have:=zcb hf (l.drop j) (zc3 f (l.take j) s);unfold zc3 at this ⊢;rwa [← vbn,vcg] at this
theorem zgd (l:List Nd) (i:Nat) (h:i<l.length):argN l i=l[i]:=by simp [argN,vav,vac h]
def giV (i:Gi):List Value:=[qi i.op,qi i.a,qi i.b]
def zdl (l:List Gi):List Value:=l.flatMap giV
def gfV (f:Gf):List Value:=[qi f.at_,qi f.kind,qi f.m]
def z15 (l:List Gf):List Value:=l.flatMap gfV
theorem zhr (l:List Gi) (i:Gi):zdl (l++[i])=zdl l++giV i:=by simp [zdl]
theorem zy9 (l:List Gf) (i:Gf):z15 (l++[i])=z15 l++gfV i:=by simp [z15]
theorem zt7 (l:List Gi):(zdl l).length=l.length*3:=by
 induction l with
 | nil=>rfl
 | cons x r ih=>simp only [zdl,vbj,vak,vaw] at ih ⊢;rw [ih];simp [giV];omega
theorem zol:∀ (l:List Gi) (k:Nat) (x:Int),k<l.length->zdl (l.modify k (zzr x))=(zdl l).set (k*3+1) (qi x)
 | [],k,_,h=>by simp at h
 | i :: r,0,x,_=>by simp [zdl,giV,zzr]
 | i :: r,k+1,x,h=>by
   have:=zol r k x (by simpa using h);simp only [zdl,List.modify_succ_cons,vbj] at this ⊢;rw [this,show (k+1)*3+1=(giV i).length+(k*3+1) from by simp [giV];omega,List.set_append_right _ _ (by omega),Nat.add_sub_cancel_left]
theorem zt8 (l:List Gi) (k:Nat) (h:k<l.length):(zdl l)[k*3+1]? = some (qi l[k].a):=by
 induction l generalizing k with
 | nil=>simp at h
 | cons x r ih=>
   cases k with
   | zero=>rfl
   | succ k=>
     have:=ih k (by simpa using h);simp only [zdl,vbj,vbt] at this ⊢;rw [vbh (by simp [giV];omega),show (k+1)*3+1 - (giV x).length=k*3+1 from by simp [giV];omega];exact this
theorem zk2 (i:Gi):∀ u ∈ giV i,u.oneCell'=true:=by simp [giV];exact ⟨rfl,rfl,rfl⟩
theorem z6v (i:Gf):∀ u ∈ gfV i,u.oneCell'=true:=by simp [gfV];exact ⟨rfl,rfl,rfl⟩
structure Onto (w w':World) (B:Nat) (e:TypeId) (size:Nat) (v:Value) (n:Nat) (g cap:Nat) (xs:List Value):Prop where
 own:w'.ownsRow B e size (.slice (some (qa g 0)) (n+1) cap) (n+1) xs
 below:Below B w w'
 size:w.heap.size<w'.heap.size
 old:∀ (b:Nat) (x:Obj),w.heap[b]? = some x->v.ownBlock≠some b->w'.heap[b]? = some x
 at_:v.ownBlock=some g\/w.heap.size<g
theorem zeg {P:Program} {ops:Array Oper} {rest:List Oper} {o:Oper} {a:Act} {Q:Exit->Act->World->Prop} (BC:o.guard=none) (s x:Operand) (t:TypeId)
 (ho:o.op = .call { callee:=.builtin .append,args:=#[s,x],argTypes:=#[t,t] }) (base:Nat) (e:TypeId) (z:Value) (size bytes:Nat) (ht:P.underlying t=some (.slice e))
 (hi:(P.info? e).map (fun i=>(i.zero,i.size,i.bytes))=some (some z,size,bytes)) (Ff:z.cells.size=size) (Co:0<size) (w:World) (v:Value) (n:Nat) (xs:List Value) (hs:a.eval s=v) (Ab:w.ownsRow base e size v n xs)
 (cs:Array Value) (H:Nat) (hH:H=w.heap.size) (hx:a.eval x = .slice (some (qa H 0)) 1 1) (AY:cs.size=size) (h1:∀ u ∈ cs.toList,u.oneCell'=true)
 (hn:n<=2000000) (Dg:bytes<=200) (AN:base<=w.heap.size) (W:World) (hW:W=w.alloc (.cells cs e))
 (h:∀ g cap w',Onto w w' base e size v n g cap (xs++cs.toList)->wpList P ops Q rest (a.put o.dst (.slice (some (qa g 0)) (n+1) cap)) w') :
 wpList P ops Q (o :: rest) a W:=by
 subst hW;obtain ⟨i0,hi,Bs,Ao,AA⟩:=info_parts hi
 have C6:(w.alloc (.cells cs e)).heap.size=w.heap.size+1:=by simp
 refine wpList_append_lies (w.alloc (.cells cs e)) BC s x t ho base e i0 z size bytes ht hi Bs Ao AA Ff Co v n xs hs (Ab.alloc _) (qa H 0) 1 1 cs.toList hx (by simp [AY]) ?_ h1 (by omega) (by unfold maxLen;omega) ?_ (by omega) _ rfl ?_
 . intro j u hj
   subst hH
   have:((qa w.heap.size 0):Addr).add j=(qa w.heap.size j):=by unfold Addr.add;split<;>simp_all
   rw [this,vep (heap_newP w _)];simpa using hj
 . have:(n+1)*bytes<=2000001*200:=vdy (by omega) Dg
   omega
 . intro g cap w' Cp AL AF A0
   have M8:=AL.size;refine h g cap w' ⟨Cp,((Below.refl base w).alloc AN _).grown AL (by omega) (fun k hk=>(Ab.lt k hk).1),by omega,fun b x hb Aj=>?_,AF.imp id (fun e=>by omega)⟩;have AZ:(w.alloc (.cells cs e)).heap[b]? = some x:=zab hb;exact (AL.block b (lt_of_heap AZ) (fun e=>Aj e.symm)).trans AZ
theorem zfd {P:Program} {ops:Array Oper} {o:Oper} {a:Act} {K:Act->World->Prop} {Q:Exit->Act->World->Prop} {E:Prop} (BC:o.guard=none) (s x:Operand) (t:TypeId)
 (ho:o.op = .call { callee:=.builtin .append,args:=#[s,x],argTypes:=#[t,t] }) (base:Nat) (e:TypeId) (z:Value) (size bytes:Nat) (ht:P.underlying t=some (.slice e))
 (hi:(P.info? e).map (fun i=>(i.zero,i.size,i.bytes))=some (some z,size,bytes)) (Ff:z.cells.size=size) (Co:0<size) (w:World) (v:Value) (n:Nat) (xs:List Value) (hs:a.eval s=v) (Ab:w.ownsRow base e size v n xs)
 (cs:Array Value) (H:Nat) (hH:H=w.heap.size) (hx:a.eval x = .slice (some (qa H 0)) 1 1) (AY:cs.size=size) (h1:∀ u ∈ cs.toList,u.oneCell'=true)
 (hn:n<=2000000) (Dg:bytes<=200) (AN:base<=w.heap.size) (W:World) (hW:W=w.alloc (.cells cs e))
 (h:∀ g cap w',Onto w w' base e size v n g cap (xs++cs.toList)->K (a.put o.dst (.slice (some (qa g 0)) (n+1) cap)) w') :
 if Region.wanted o (yielded ops a.tmps)=true then Oper.wp P o a W K Q else E:=by
 subst hW;obtain ⟨i0,hi,Bs,Ao,AA⟩:=info_parts hi
 have C6:(w.alloc (.cells cs e)).heap.size=w.heap.size+1:=by simp
 refine step_append_lies (w.alloc (.cells cs e)) BC s x t ho base e i0 z size bytes ht hi Bs Ao AA Ff Co v n xs hs (Ab.alloc _) (qa H 0) 1 1 cs.toList hx (by simp [AY]) ?_ h1 (by omega) (by unfold maxLen;omega) ?_ (by omega) _ rfl ?_
 . intro j u hj
   subst hH
   have:((qa w.heap.size 0):Addr).add j=(qa w.heap.size j):=by unfold Addr.add;split<;>simp_all
   rw [this,vep (heap_newP w _)];simpa using hj
 . have:(n+1)*bytes<=2000001*200:=vdy (by omega) Dg
   omega
 . intro g cap w' Cp AL AF A0
   have M8:=AL.size;refine h g cap w' ⟨Cp,((Below.refl base w).alloc AN _).grown AL (by omega) (fun k hk=>(Ab.lt k hk).1),by omega,fun b x hb Aj=>?_,AF.imp id (fun e=>by omega)⟩;have AZ:(w.alloc (.cells cs e)).heap[b]? = some x:=zab hb;exact (AL.block b (lt_of_heap AZ) (fun e=>Aj e.symm)).trans AZ
theorem zaf {w w':World} {B:Nat} {e:TypeId} {sz:Nat} {v:Value} {n:Nat} {xs:List Value} (h:w.ownsRow B e sz v n xs) (hk:∀ k,v.ownBlock=some k->w'.heap[k]? = w.heap[k]?):w'.ownsRow B e sz v n xs:=by
 refine ⟨h.1,?_⟩
 rcases h.2 with h1 | ⟨g,cap,AC,hv,hb,hg,hr⟩
 . exact Or.inl h1
 . exact Or.inr ⟨g,cap,AC,hv,hb,(hk g (by rw [hv];rfl)).trans hg,hr⟩
theorem zag {w:World} {B:Nat} {e:TypeId} {sz:Nat} {v:Value} {n:Nat} {xs:List Value} (h:w.ownsRow B e sz v n xs):∃ a cap,v = .slice a n cap/\n<=cap/\cap<=maxLen:=by
 rcases h.2 with ⟨h1,h2⟩ | ⟨g,cap,AC,hv,_,_,h3,h4,_⟩
 . exact ⟨none,0,by rw [h2];exact h1,by omega,by unfold maxLen;omega⟩
 . exact ⟨_,cap,hv,h3,h4⟩
theorem ownsRow_set {w:World} {B:Nat} {e:TypeId} {sz:Nat} {g n cap:Nat} {xs:List Value} (h:w.ownsRow B e sz (.slice (some (qa g 0)) n cap) n xs) (j:Nat) (u:Value) (hj:j<n*sz) :
 (w.setCell (qa g j) u).ownsRow B e sz (.slice (some (qa g 0)) n cap) n (xs.set j u):=by
 refine ⟨by rw [List.length_set];exact h.1,?_⟩
 rcases h.2 with ⟨h1,_⟩ | ⟨g',cap',AC,hv,hb,hg,h3,h4,h5,h6⟩
 . cases h1
 . cases hv
   refine Or.inr ⟨g,cap,AC.setIfInBounds j u,rfl,hb,heap_set hg u,h3,h4,by rw [Array.size_setIfInBounds];exact h5,?_⟩;rw [Array.toList_setIfInBounds,← h6,List.take_set]
structure WAt (w0 w:World) (R:Nat) (K:List (Nat × Obj)) (cv fv:Value) (s:Wrt):Prop where
 blk:w.heap[R]? = some (.cells #[cv,fv] 136)
 hR:w0.heap.size<=R
 code:w.ownsRow w0.heap.size 69 3 cv s.code.length (zdl s.code)
 fix:w.ownsRow w0.heap.size 67 3 fv s.fixes.length (z15 s.fixes)
 apt:Apt cv fv
 nc:cv.ownBlock≠some R
 nf:fv.ownBlock≠some R
 below:qb w0 w
 kp:∀ x ∈ K,w.heap[x.1]? = some x.2/\x.1≠R/\cv.ownBlock≠some x.1/\fv.ownBlock≠some x.1
def Wri (w0 w:World) (R:Nat) (K:List (Nat × Obj)) (s:Wrt):Prop:=s.fixes.length<=s.code.length/\∃ cv fv,WAt w0 w R K cv fv s
section
variable {w0 w w':World} {R:Nat} {K K':List (Nat × Obj)} {cv fv:Value} {s:Wrt}
theorem WAt.ltR (h:WAt w0 w R K cv fv s):R<w.heap.size:=lt_of_heap h.blk
theorem WAt.hB (h:WAt w0 w R K cv fv s):w0.heap.size<=w.heap.size:=vbd h.hR (Nat.le_of_lt h.ltR)
theorem WAt.later (h:WAt w0 w R K cv fv s) (hb:qb w w'):WAt w0 w' R K cv fv s:=
 { h with
   blk:=(hb.block R h.ltR).trans h.blk
   code:=ownsRow_later h.code hb
   fix:=ownsRow_later h.fix hb
   below:=h.below.trans (hb.mono h.hB)
   kp:=fun x hx=>⟨(hb.block _ (lt_of_heap (h.kp x hx).1)).trans (h.kp x hx).1,(h.kp x hx).2⟩}
theorem WAt.alloc (h:WAt w0 w R K cv fv s) (o:Obj):WAt w0 (w.alloc o) R K cv fv s:=h.later ((Below.refl _ _).alloc (vaa _) o)
theorem WAt.drew (h:WAt w0 w R K cv fv s):WAt w0 w.drew R K cv fv s:=h.later (Below.refl _ _).drew
theorem WAt.box (h:WAt w0 w R K cv fv s) (o:Obj):WAt w0 (w.alloc o) R ((w.heap.size,o) :: K) cv fv s:=
 { h.alloc o with
   kp :=fun x hx=>by
    rcases vby.1 hx with rfl | hx
    . refine ⟨heap_newP w o,fun e=>by have:=h.ltR;simp only at e;omega,fun e=>?_,fun e=>?_⟩
      . have:=(h.code.lt _ e).2;simp only at this;omega
      . have:=(h.fix.lt _ e).2;simp only at this;omega
    . exact (h.alloc o).kp x hx }
theorem WAt.sub (h:WAt w0 w R K cv fv s) (hK:∀ x ∈ K',x ∈ K):WAt w0 w R K' cv fv s:={ h with kp:=fun x hx=>h.kp x (hK x hx) }
theorem Wri.later (h:Wri w0 w R K s) (hb:qb w w'):Wri w0 w' R K s:=by obtain ⟨hl,_,_,h⟩:=h;exact ⟨hl,_,_,h.later hb⟩
theorem Wri.alloc (h:Wri w0 w R K s) (o:Obj):Wri w0 (w.alloc o) R K s:=by obtain ⟨hl,_,_,h⟩:=h;exact ⟨hl,_,_,h.alloc o⟩
theorem Wri.drew (h:Wri w0 w R K s):Wri w0 w.drew R K s:=by obtain ⟨hl,_,_,h⟩:=h;exact ⟨hl,_,_,h.drew⟩
theorem Wri.box (h:Wri w0 w R K s) (o:Obj):Wri w0 (w.alloc o) R ((w.heap.size,o) :: K) s:=by obtain ⟨hl,_,_,h⟩:=h;exact ⟨hl,_,_,h.box o⟩
theorem Wri.sub (h:Wri w0 w R K s) (hK:∀ x ∈ K',x ∈ K):Wri w0 w R K' s:=by obtain ⟨hl,_,_,h⟩:=h;exact ⟨hl,_,_,h.sub hK⟩
theorem Wri.tail {x:Nat × Obj} (h:Wri w0 w R (x :: K) s):Wri w0 w R K s:=h.sub fun _=>vaj _
theorem Wri.has (h:Wri w0 w R K s) {b:Nat} {o:Obj} (hx:(b,o) ∈ K):w.heap[b]? = some o:=by obtain ⟨_,_,_,h⟩:=h;exact (h.kp _ hx).1
theorem Wri.head {b:Nat} {o:Obj} (h:Wri w0 w R ((b,o) :: K) s):w.heap[b]? = some o:=h.has (vap ..)
theorem Wri.below (h:Wri w0 w R K s):qb w0 w:=by obtain ⟨_,_,_,h⟩:=h;exact h.below
theorem WAt.cells (h:WAt w0 w R K cv fv s):w.cell? (qa R 0)=some cv/\w.cell? (qa R 1)=some fv/\∀ j,w.frozen? (qa R j)=false:=
 ⟨by rw [vep h.blk];rfl,by rw [vep h.blk];rfl,fun j=>veq h.blk j⟩
theorem WAt.putC (h:WAt w0 w R K cv fv s) {i:Gi} {g cap:Nat} (ho:Onto w w' w0.heap.size 69 3 cv s.code.length g cap (zdl s.code++giV i)) :
 w'.cell? (qa R 0)=some cv/\w'.frozen? (qa R 0)=false/\WAt w0 (w'.setCell (qa R 0) (.slice (some (qa g 0)) (s.code.length+1) cap)) R K (.slice (some (qa g 0)) (s.code.length+1) cap) fv ⟨s.code++[i],s.fixes⟩:=by
 have hb:=ho.old R _ h.blk h.nc
 have Jn:g≠R:=fun e=>by
  rcases ho.at_ with h1 | h1
  . exact h.nc (by rw [h1,e])
  . have:=h.ltR;omega
 have Aj:∀ b,b≠R->(w'.setCell (qa R 0) (.slice (some (qa g 0)) (s.code.length+1) cap)).heap[b]? = w'.heap[b]?:=fun b hb=>heap_set_ne (p:=(qa R 0)) hb _
 refine ⟨by rw [vep hb];rfl,veq hb 0,?_⟩
 exact {
  blk:=(heap_set hb _).trans rfl
  hR:=h.hR
  code:=by
   have:=zaf (w':=w'.setCell (qa R 0) (.slice (some (qa g 0)) (s.code.length+1) cap)) ho.own (fun k hk=>Aj k (fun e=>by simp only [Value.ownBlock,vbf] at hk;omega));rw [zhr,vak];exact this
  fix:=zaf h.fix (fun k hk=>by
   rw [Aj k (fun e=>h.nf (by rw [hk,e]))];have hl:=(h.fix.lt k hk).2
   exact (ho.old k _ (by rw [vbq hl]) (fun e=>h.apt k e hk)).trans (vbq hl).symm)
  apt:=fun k h1 h2=>by
   simp only [Value.ownBlock,vbf] at h1
   rcases ho.at_ with h3 | h3
   . exact h.apt k (by rw [h3,h1]) h2
   . have:=(h.fix.lt k h2).2;omega
  nc:=fun e=>Jn (by simpa [Value.ownBlock] using e)
  nf:=h.nf
  below:=(h.below.trans ho.below).setCell (p:=(qa R 0)) h.hR _
  kp:=fun x hx=>by
   obtain ⟨h1,h2,h3,h4⟩:=h.kp x hx;refine ⟨(Aj _ h2).trans (ho.old _ _ h1 h3),h2,fun e=>?_,h4⟩;simp only [Value.ownBlock,vbf] at e
   rcases ho.at_ with h5 | h5
   . exact h3 (by rw [h5,e])
   . have:=lt_of_heap h1;omega }
theorem WAt.putF (h:WAt w0 w R K cv fv s) {i:Gf} {g cap:Nat} (ho:Onto w w' w0.heap.size 67 3 fv s.fixes.length g cap (z15 s.fixes++gfV i)) :
 w'.cell? (qa R 1)=some fv/\w'.frozen? (qa R 1)=false/\WAt w0 (w'.setCell (qa R 1) (.slice (some (qa g 0)) (s.fixes.length+1) cap)) R K cv (.slice (some (qa g 0)) (s.fixes.length+1) cap) ⟨s.code,s.fixes++[i]⟩:=by
 have hb:=ho.old R _ h.blk h.nf
 have Jn:g≠R:=fun e=>by
  rcases ho.at_ with h1 | h1
  . exact h.nf (by rw [h1,e])
  . have:=h.ltR;omega
 have Aj:∀ b,b≠R->(w'.setCell (qa R 1) (.slice (some (qa g 0)) (s.fixes.length+1) cap)).heap[b]? = w'.heap[b]?:=fun b hb=>heap_set_ne (p:=(qa R 1)) hb _
 refine ⟨by rw [vep hb];rfl,veq hb 1,?_⟩
 exact {
  blk:=(heap_set hb _).trans rfl
  hR:=h.hR
  fix:=by
   have:=zaf (w':=w'.setCell (qa R 1) (.slice (some (qa g 0)) (s.fixes.length+1) cap)) ho.own (fun k hk=>Aj k (fun e=>by simp only [Value.ownBlock,vbf] at hk;omega));rw [zy9,vak];exact this
  code:=zaf h.code (fun k hk=>by
   rw [Aj k (fun e=>h.nc (by rw [hk,e]))];have hl:=(h.code.lt k hk).2
   exact (ho.old k _ (by rw [vbq hl]) (fun e=>h.apt k hk e)).trans (vbq hl).symm)
  apt:=fun k h2 h1=>by
   simp only [Value.ownBlock,vbf] at h1
   rcases ho.at_ with h3 | h3
   . exact h.apt k h2 (by rw [h3,h1])
   . have:=(h.code.lt k h2).2;omega
  nf:=fun e=>Jn (by simpa [Value.ownBlock] using e)
  nc:=h.nc
  below:=(h.below.trans ho.below).setCell (p:=(qa R 1)) h.hR _
  kp:=fun x hx=>by
   obtain ⟨h1,h2,h3,h4⟩:=h.kp x hx;refine ⟨(Aj _ h2).trans (ho.old _ _ h1 h4),h2,h3,fun e=>?_⟩;simp only [Value.ownBlock,vbf] at e
   rcases ho.at_ with h5 | h5
   . exact h4 (by rw [h5,e])
   . have:=lt_of_heap h1;omega }
end
set_option maxHeartbeats 1600000
theorem Tryz.infoInstr:(Tryz.prog.info? 69).map (fun i=>(i.zero,i.size,i.bytes))=some (some (.agg #[qi 0,qi 0,qi 0]),3,24):=by kernel_rfl
theorem Tryz.infoFix:(Tryz.prog.info? 67).map (fun i=>(i.zero,i.size,i.bytes))=some (some (.agg #[qi 0,qi 0,qi 0]),3,24):=by kernel_rfl
theorem zge {w0 w:World} {R:Nat} {K:List (Nat × Obj)} {s:Wrt} (h:Wri w0 w R K s) :
 qc 78 #[pq R 0] w fun e w'=>e = .returned (qi s.code.length)/\w'=w:=by
 obtain ⟨-,cv,fv,h⟩:=h;obtain ⟨a,cap,rfl, -, -⟩:=zag h.code;obtain ⟨c0, -, -⟩:=h.cells;clear h;go_enter Tryz.func78,Tryz.ntmps78;go_wp2_with fail;go_ret;exact ⟨rfl,rfl⟩
theorem zmz {w0 w:World} {R:Nat} {K:List (Nat × Obj)} {s:Wrt} (h:Wri w0 w R K s) :
 qc 80 #[pq R 0] w fun e w'=>e = .returned (.bool (zgz s))/\w'=w:=by
 obtain ⟨-,cv,fv,h⟩:=h;obtain ⟨a,cap,rfl, -, -⟩:=zag h.code;obtain ⟨c0, -, -⟩:=h.cells;clear h;go_enter Tryz.func80,Tryz.ntmps80;go_wp2_with fail;go_ret;exact ⟨ret_bool (by unfold zgz;exact decide_eq_decide.2 (by omega)),rfl⟩
theorem zbr {w0 w:World} {R:Nat} {K:List (Nat × Obj)} {s:Wrt} (op a b:Int) (h:Wri w0 w R K s) (hr:s.code.length<=1000000) :
 qc 129 #[pq R 0,qi op,qi a,qi b] w fun e w'=>e = .returned (.tuple #[])/\Wri w0 w' R K (zbm op a b s):=by
 obtain ⟨hl,cv,fv,h⟩:=h;obtain ⟨c0, -, -⟩:=h.cells;have HM:=hid h;obtain ⟨sa,sc,rfl, -, -⟩:=zag h.code;clear h;go_enter Tryz.func129,Tryz.ntmps129
 go_wp2_with (at_builtin;refine zeg rfl (.tmp 12) (.tmp 17) 59 rfl w0.heap.size 69 _ 3 24 Tryz.underlying59 Tryz.infoInstr rfl (by decide) w (.slice sa s.code.length sc) s.code.length (zdl s.code) rfl HM.out.code #[qi op,qi a,qi b] _ rfl rfl rfl (zk2 ⟨op,a,b⟩) (by omega) (by decide) HM.out.hB _ rfl ?_;intro g cap w1 ho;obtain ⟨d0,d1,hW⟩:=HM.out.putC (i:=⟨op,a,b⟩) ho;have HW:=hid hW;clear ho hW)
 go_end0;exact ⟨rfl,by simp only [zbm,vak,vaw,vco];omega,_,_,HW.out⟩
theorem zza:Enters Tryz.prog 78:=enters_of Tryz.func78 (by kernel_rfl) rfl
theorem zdh {w0 w:World} {R:Nat} {K:List (Nat × Obj)} {s:Wrt} (kind m op a b:Int) (h:Wri w0 w R K s) (hr:s.code.length<=1000000) :
 qc 270 #[pq R 0,qi kind,qi m,.agg #[qi op,qi a,qi b]] w fun e w'=>e = .returned (.tuple #[])/\Wri w0 w' R K (zsk kind m ⟨op,a,b⟩ s):=by
 obtain ⟨hl,cv,fv,h⟩:=h;obtain ⟨fa,fc,rfl, -, -⟩:=zag h.fix;obtain ⟨ca,cc,rfl, -, -⟩:=zag h.code;have HK:=hid ((h.sub (K':=[]) (by simp)).box (.cells #[qi op,qi a,qi b] 69));have HM:=hid (h.box (.cells #[qi op,qi a,qi b] 69));obtain ⟨c0,c1,cf⟩:=HM.out.cells;have Bk:=HM.out.ltR;clear h;go_enter Tryz.func270,Tryz.ntmps270;go_upto_region 1 with fail;generalize Cm:w.alloc (.cells #[qi op,qi a,qi b] 69)=w1 at *;have HD:=hid HM.out.drew;have HE:=hid (fun (W:World) (hW:W=w1.drew)=>(by subst hW;exact (zge (K:=(w.heap.size,.cells #[qi op,qi a,qi b] 69) :: K) (s:=s) ⟨hl,_,_,HD.out⟩).mono (fun e w' h=>⟨_,h.1,rfl,h.2⟩):qc 78 #[pq R 0] W fun e w'=>∃ u,e = .returned u/\(u=qi s.code.length/\w'=W)));have HC:=hid HD.out.cells.2.1;have Sf:=hid (fun o=>(HD.out.alloc o).cells.2.1)
 go_region_law
  (first
    | (refine zf6 (by rfl) 78 _ _ (by rfl) zza _ (by rfl) (HE.out _ rfl) ?_;rintro u w2 ⟨rfl,rfl⟩)
    | (refine zfd rfl (.tmp 12) (.tmp 18) 60 rfl w0.heap.size 67 _ 3 24 Tryz.underlying60 Tryz.infoFix rfl (by decide) w1.drew (.slice fa s.fixes.length fc) s.fixes.length (z15 s.fixes) rfl HD.out.fix #[qi s.code.length,qi kind,qi m] _ (by simp) rfl rfl (z6v ⟨s.code.length,kind,m⟩) (by omega) (by decide) HD.out.hB _ rfl ?_;intro g cap w3 ho;obtain ⟨d0,d1,hW⟩:=HD.out.putF (i:=⟨s.code.length,kind,m⟩) ho;have HW:=hid hW;clear ho hW))
 all_goals
  generalize PU:w3.setCell (qa R 1) (.slice (some (qa g 0)) (s.fixes.length+1) cap)=w4 at *;clear d0 d1 c0 c1 cf Bk HE HC Sf;obtain ⟨c0,c1,cf⟩:=HW.out.cells;have Bk:=HW.out.ltR;have hk:=(HW.out.kp _ (vap ..)).1;obtain ⟨x0,x1,x2, -⟩:=zef hk;have Au:=lt_of_heap hk;have Nx:=hid HW.out.drew;clear hk;go_wp2_with fail
  go_region_law (first
   | (refine zfd rfl (.tmp 26) (.tmp 28) 59 rfl w0.heap.size 69 _ 3 24 Tryz.underlying59 Tryz.infoInstr rfl (by decide) w4.drew (.slice ca s.code.length cc) s.code.length (zdl s.code) rfl Nx.out.code #[qi op,qi a,qi b] _ (by simp) rfl rfl (zk2 ⟨op,a,b⟩) (by omega) (by decide) Nx.out.hB _ rfl ?_;intro g5 cap5 w5 ho;obtain ⟨d0,d1,hW⟩:=Nx.out.putC (i:=⟨op,a,b⟩) ho;have Iq:=hid hW;clear ho hW))
  all_goals
   go_end0;exact ⟨rfl,by simp only [zsk,vak,vaw,vco];omega,_,_,Iq.out.sub (fun x hx=>vaj _ hx)⟩
theorem zm0 {w0 w:World} {R:Nat} {K:List (Nat × Obj)} {s:Wrt} (op t:Int) (h:Wri w0 w R K s) (hr:s.code.length<=1000000) :
 qc 275 #[pq R 0,qi op,qi t] w fun e w'=>e = .returned (.tuple #[])/\Wri w0 w' R K (zck op t s):=by
 have HW:=hid h;clear h;go_enter Tryz.func275,Tryz.ntmps275;go_wp2_with fail;refine (zdh 1 0 op t 0 HW.out hr).mono ?_;rintro e w1 ⟨rfl,h1⟩;have H1:=hid h1;clear h1;go_wp2_with fail;go_end0;exact ⟨rfl,H1.out⟩
def z5e (R:Nat):Obj:=.cells #[pq R 0] 134
def z68 (n:Nat):Obj:=.cells #[qi n] 3
theorem zeh {w0 w:World} {R:Nat} {K:List (Nat × Obj)} {s:Wrt} (op:Int) (h:Wri w0 w R K s) (hr:s.code.length<=1000000) :
 qc 274 #[pq R 0,qi op] w fun e w'=>e = .returned (.func (.func 291) #[] #[pq w.heap.size 0,.pointer (some ⟨w.heap.size+1,0,none⟩)])/\Wri w0 w' R ((w.heap.size+1,z68 s.code.length) :: (w.heap.size,z5e R) :: K) (zck op 0 s):=by
 have HW:Hid (Wri w0 (w.alloc (.cells #[pq R 0] 134)) R ((w.heap.size,z5e R) :: K) s):=h.box (z5e R)
 have L4:Hid (Wri w0 ((w.alloc (.cells #[pq R 0] 134)).alloc (.cells #[qi s.code.length] 3)) R ((w.heap.size+1,z68 s.code.length) :: (w.heap.size,z5e R) :: K) s):=by
  have:=(h.box (z5e R)).box (z68 s.code.length);rw [vck] at this;exact this
 clear h;go_enter Tryz.func274,Tryz.ntmps274;go_wp2_with fail;refine (zge HW.out).mono ?_;rintro e w1 ⟨rfl,rfl⟩;go_wp2_with fail;refine (zm0 op 0 L4.out hr).mono ?_;rintro e w1 ⟨rfl,h1⟩;have H1:=hid h1;clear h1;go_wp2_with fail;go_ret;exact ⟨rfl,H1.out⟩
theorem WAt.land {w0 w:World} {R:Nat} {K:List (Nat × Obj)} {s:Wrt} {g cap:Nat} {fv:Value} (h:WAt w0 w R K (.slice (some (qa g 0)) s.code.length cap) fv s) (k:Nat) (hk:k<s.code.length) :
 w.cell? ⟨g,k*3+1,none⟩=some (qi s.code[k].a)/\w.frozen? ⟨g,k*3+1,none⟩=false/\WAt w0 (w.setCell ⟨g,k*3+1,none⟩ (qi s.code.length)) R K (.slice (some (qa g 0)) s.code.length cap) fv (zb8 k s):=by
 have hc:=h.code.cells (g:=g) rfl _ _ (zt8 s.code k hk);rw [show ((qa g 0):Addr).add (k*3+1)=⟨g,k*3+1,none⟩ from by unfold Addr.add;split<;>simp_all] at hc;have On:w0.heap.size<=g:=(h.code.lt g rfl).1
 have Aj:∀ b,b≠g->(w.setCell ⟨g,k*3+1,none⟩ (qi s.code.length)).heap[b]? = w.heap[b]?:=fun b hb=>heap_set_ne (p:=⟨g,k*3+1,none⟩) hb _
 have Jn:R≠g:=fun e=>h.nc (by rw [e];rfl)
 refine ⟨hc,?_,?_⟩
 . rcases h.code.2 with ⟨h1,_⟩ | ⟨g',cap',AC,hv,_,hg,_⟩
   . cases h1
   . cases hv;exact veq hg _
 . have Ab:=ownsRow_set h.code (k*3+1) (qi s.code.length) (by omega)
   rw [← zol s.code k _ hk] at Ab
   exact {
    blk:=(Aj R Jn).trans h.blk
    hR:=h.hR
    code:=by rw [zae];exact Ab
    fix:=zaf h.fix (fun b hb=>Aj b (fun e=>h.apt g rfl (by rw [hb,e])))
    apt:=h.apt
    nc:=h.nc
    nf:=h.nf
    below:=h.below.setCell (p:=⟨g,k*3+1,none⟩) On _
    kp:=fun x hx=>by
     obtain ⟨h1,h2,h3,h4⟩:=h.kp x hx
     exact ⟨(Aj _ (fun e=>h3 (by rw [e];rfl))).trans h1,h2,h3,h4⟩}
theorem zei {w0 w:World} {R:Nat} {K:List (Nat × Obj)} {s:Wrt} {b k:Nat} (h:Wri w0 w R K s) (h1:(b,z5e R) ∈ K) (h2:(b+1,z68 k) ∈ K) (hk:k<s.code.length) (hr:s.code.length<=1000000) :
 qc 291 #[pq b 0,.pointer (some ⟨b+1,0,none⟩)] w fun e w'=>e = .returned (.tuple #[])/\Wri w0 w' R K (zb8 k s):=by
 have HH:=hid (fun (W:World) (hW:Wri w0 W R K s)=>((zge hW).mono (fun e w' h=>⟨_,h.1,rfl,h.2⟩):qc 78 #[pq R 0] W fun e w'=>∃ u,e = .returned u/\(u=qi s.code.length/\w'=W)));have HE:=hid (HH.out _ h.drew);obtain ⟨hl,cv,fv,h⟩:=h;obtain ⟨g,cap,rfl, -⟩:=h.code.form (by omega)
 have q1:w.cell? (qa b 0)=some (pq R 0):=by rw [vep (h.kp _ h1).1];rfl
 have q2:w.cell? ⟨b+1,0,none⟩=some (qi k):=by rw [vep (h.kp _ h2).1];rfl
 obtain ⟨c0, -, -⟩:=h.cells;obtain ⟨y0,y1,KU⟩:=h.land k hk;have hL:=KU.drew;clear KU
 have HC:Hid (w.drew.cell? (qa b 0)=some (pq R 0)/\w.drew.cell? ⟨b+1,0,none⟩=some (qi k)/\w.drew.cell? (qa R 0)=some (.slice (some (qa g 0)) s.code.length cap)):=⟨q1,q2,c0⟩
 have Eq:Hid ((w.setCell ⟨g,k*3+1,none⟩ (qi s.code.length)).drew.cell? (qa b 0)=some (pq R 0)/\(w.setCell ⟨g,k*3+1,none⟩ (qi s.code.length)).drew.cell? ⟨b+1,0,none⟩=some (qi k)/\(w.setCell ⟨g,k*3+1,none⟩ (qi s.code.length)).drew.cell? (qa R 0)=some (.slice (some (qa g 0)) s.code.length cap)):=
  ⟨by rw [vep (hL.kp _ h1).1];rfl,by rw [vep (hL.kp _ h2).1];rfl,hL.cells.1⟩
 have HL:=hid hL;clear h hL HH h1 h2;go_enter Tryz.func291,Tryz.ntmps291;go_upto_region 0 with fail
 go_region_held_law (fun W=>W.cell? (qa b 0)=some (pq R 0)/\W.cell? ⟨b+1,0,none⟩=some (qi k)/\W.cell? (qa R 0)=some (.slice (some (qa g 0)) s.code.length cap)) (first | with_reducible exact HC.out | with_reducible exact Eq.out)
  (first
    | (refine zf6 (by rfl) 78 _ _ (by rfl) zza _ (by rfl) HE.out ?_;rintro u w2 ⟨rfl,rfl⟩))
 all_goals
  go_end0;exact ⟨rfl,by rw [zae];exact hl,_,_,HL.out⟩
def NdC (w0:World) (R k:Nat) (y:Nd):Prop:=∀ (A:Nat->Prop) (aa:OA) (cp:Nat) (K:List (Nat × Obj)) (s:Wrt) (w:World),DAt w0 A aa y.args.length (zc2 y.args)->Wri w0 w R K s->(ndW k y s).code.length<=1000000->
 qc 216 #[pq R 0,.agg #[qi y.op,qi y.n,qi y.m,qi y.at_,.slice aa y.args.length cp]] w fun e w'=>e = .returned (.tuple #[])/\Wri w0 w' R K (ndW k y s)
theorem zm1 {w0 w:World} {R k:Nat} {K:List (Nat × Obj)} {s:Wrt} {A:Nat->Prop} {l:List Nd} {a:OA} {cap:Nat} (hN:∀ y ∈ l,NdC w0 R k y) (hD:DAt w0 A a l.length (zc2 l)) (h:Wri w0 w R K s) (hr:(zgh (ndW k) l s).code.length<=1000000) :
 qc 273 #[pq R 0,.slice a l.length cap] w fun e w'=>e = .returned (.tuple #[])/\Wri w0 w' R K (zgh (ndW k) l s):=by
 have Bt:=hD.bound;have HD:=hid hD;have HW:=hid h;have HN:=hid hN;have HR:=hid (fun j=>vbd (z4z (ndW k) (zc1 k) l s j) hr);clear hD h hN hr;go_enter Tryz.func273,Tryz.ntmps273;go_wp2_with fail
 go_loopw [8] (fun i wr=>∃ j:Nat,j<=l.length/\i=qi j/\Wri w0 wr R K (zgh (ndW k) (l.take j) s)) (fun i _=>l.length - (intOf i).toNat)
 case atStart=>exact ⟨0,vae _,rfl,HW.out⟩
 case round=>
  obtain ⟨j,hj,rfl,hw⟩:=hrel;have H1:=hid hw;clear hw
  by_cases A0:j<l.length
  . obtain ⟨b,off,aa,cp,rfl,hx⟩:=(HD.out.later H1.out.below).nd j A0
    obtain ⟨b',BG,aa',cp',AZ,Bz⟩:=HD.out.nd j A0
    cases AZ
    obtain ⟨Au,x0,x1,x2,x3,x4,_,_,_,_,_⟩:=hx;have e4:=(H1.out.below.cell (p:=⟨b,off+j*5+4,none⟩) Bz.lt).trans Bz.c4
    obtain ⟨rfl,rfl⟩:aa=aa'/\cp=cp':=by
     rw [x4] at e4;simp only [vbf,Value.slice.injEq] at e4;exact ⟨e4.1,e4.2.2⟩
    have HA:=hid Bz.args';have HT:=hid (zy6 (ndW k) l s j A0);have B4:=hid (HR.out (j+1));rw [HT.out] at B4;have HY:=hid (HN.out l[j] (vag A0));clear e4 Bz;generalize l[j]=x at *;go_wp2_with fail;refine (HY.out A aa cp K _ _ HA.out (H1.out.alloc _) B4.out).mono ?_;rintro e w3 ⟨rfl,h3⟩;have H3:=hid h3;clear h3;go_wp2_with fail;go_roundw
    case rel=>exact ⟨j+1,by omega,by go_num,by rw [HT.out];exact H3.out⟩
    case measure=>simp [intOf];omega
  . obtain rfl:j=l.length:=by omega
    rw [vat] at H1;go_wp2_with fail;go_end0;exact ⟨rfl,H1.out⟩
theorem zm2 {w0 w:World} {R k:Nat} {K:List (Nat × Obj)} {s:Wrt} {A:Nat->Prop} {y:Nd} {aa:OA} {cp:Nat} (n m at_:Int) (hN:NdC w0 R k y) (hD:DAt w0 A aa y.args.length (zc2 y.args)) (h:Wri w0 w R K s) (hr:(ndW k y s).code.length<=1000000) :
 qc 215 #[pq R 0,qi n,qi m,qi at_,.agg #[qi y.op,qi y.n,qi y.m,qi y.at_,.slice aa y.args.length cp]] w fun e w'=>e = .returned (.tuple #[])/\Wri w0 w' R K (zlx (ndW k y) n m at_ s):=by
 have HW:=hid h;have HC:=hid (fun (o:Obj)=>hN A aa cp K s _ hD (h.alloc o) hr);clear h hN hD;go_enter Tryz.func215,Tryz.ntmps215;go_wp2_with fail;refine (HC.out _).mono ?_;rintro e w1 ⟨rfl,h1⟩;have H1:=hid h1;clear h1;go_wp2_with fail;refine (zdh 3 m 6 at_ n H1.out hr).mono ?_;rintro e w2 ⟨rfl,h2⟩;have H2:=hid h2;clear h2;go_wp2_with fail;go_end0;exact ⟨rfl,H2.out⟩
theorem zqh {w0 w:World} {R k:Nat} {K:List (Nat × Obj)} {s:Wrt} {A:Nat->Prop} {l:List Nd} {a:OA} {cap:Nat} (m at_:Int) (hN:∀ y ∈ l,NdC w0 R k y) (hD:DAt w0 A a l.length (zc2 l)) (h:Wri w0 w R K s) (hr:(zgh (ndW k) l s).code.length<=1000000) :
 qc 217 #[pq R 0,qi m,qi at_,.slice a l.length cap] w fun e w'=>e = .returned (.tuple #[])/\Wri w0 w' R K (zgi (zgh (ndW k) l) m at_ s):=by
 have HC:=hid (zm1 (cap:=cap) hN hD h hr);clear h hN hD;go_enter Tryz.func217,Tryz.ntmps217;go_wp2_with fail;refine HC.out.mono ?_;rintro e w1 ⟨rfl,h1⟩;have H1:=hid h1;clear h1;go_wp2_with fail;refine (zdh 2 m 13 at_ 0 H1.out hr).mono ?_;rintro e w2 ⟨rfl,h2⟩;have H2:=hid h2;clear h2;go_wp2_with fail;go_end0;exact ⟨rfl,H2.out⟩
theorem z16 {w0 w:World} {R k:Nat} {K:List (Nat × Obj)} {s:Wrt} {A:Nat->Prop} {x y:Nd} {ax ay:OA} {cx cy:Nat} (hX:NdC w0 R k x) (hY:NdC w0 R k y) (dX:DAt w0 A ax x.args.length (zc2 x.args)) (dY:DAt w0 A ay y.args.length (zc2 y.args)) (h:Wri w0 w R K s) (hr:(zy3 (ndW k x) (ndW k y) s).code.length<=1000000) :
 qc 271 #[pq R 0,.agg #[qi x.op,qi x.n,qi x.m,qi x.at_,.slice ax x.args.length cx],.agg #[qi y.op,qi y.n,qi y.m,qi y.at_,.slice ay y.args.length cy]] w fun e w'=>e = .returned (.tuple #[])/\Wri w0 w' R K (zy3 (ndW k x) (ndW k y) s):=by
 have m1:=zc1 k x s;have m2:=zc1 k y (zck 12 0 (ndW k x s))
 have r0:(ndW k y (zck 12 0 (ndW k x s))).code.length+3<=1000000:=by simp only [zy3,zae,zac,zai] at hr;omega
 rw [zai] at m2
 have HW:Hid (Wri w0 ((w.alloc (kzF x.op x.n x.m x.at_ ax x.args.length cx)).alloc (kzF y.op y.n y.m y.at_ ay y.args.length cy)) R ((w.heap.size+1,(kzF y.op y.n y.m y.at_ ay y.args.length cy)) :: K) s):=by
  have:=(h.alloc (kzF x.op x.n x.m x.at_ ax x.args.length cx)).box (kzF y.op y.n y.m y.at_ ay y.args.length cy);rw [vck] at this;exact this
 have HX:=hid (fun K s w=>hX A ax cx K s w dX);have HY:=hid (fun K s w=>hY A ay cy K s w dY);clear h hX hY dX dY hr;go_enter Tryz.func271,Tryz.ntmps271;go_wp2_with fail;refine (HX.out _ _ _ HW.out (by omega)).mono ?_;rintro e w1 ⟨rfl,h1⟩;have H1:=hid h1;clear h1;go_wp2_with fail;refine (zeh 12 H1.out (by omega)).mono ?_;rintro e w2 ⟨rfl,h2⟩;have H2:=hid h2;clear h2;obtain ⟨q0,q1,q2,q3,q4, -⟩:=zaa (H2.out.has (vaj _ (vaj _ (vap ..))));go_wp2_with fail;refine (HY.out _ _ _ H2.out (by omega)).mono ?_;rintro e w3 ⟨rfl,h3⟩;have H3:=hid h3;clear h3;clear q0 q1 q2 q3 q4;go_wp2_with fail;refine (zbr 22 0 0 H3.out (by omega)).mono ?_;rintro e w4 ⟨rfl,h4⟩;have H4:=hid h4;clear h4;go_wp2_with fail;refine (zeh 11 H4.out (by simp only [zae,zai,zac];omega)).mono ?_
 rintro e w5 ⟨rfl,h5⟩;have H5:=hid h5;clear h5
 go_wp2_with (go_at_call 291;refine (zei (b:=w1.heap.size) (k:=(ndW k x s).code.length) H5.out (by simp) (by simp) (by simp only [zae,zai,zac];omega) (by simp only [zae,zai,zac];omega)).mono ?_;rintro e w6 ⟨rfl,h6⟩;have H6:=hid h6;clear h6)
 refine (zbr 1 0 0 H6.out (by simp only [zae,zai,zac];omega)).mono ?_;rintro e w7 ⟨rfl,h7⟩;have H7:=hid h7;clear h7
 go_wp2_with (go_at_call 291;refine (zei (b:=w4.heap.size) (k:=(zbm 22 0 0 (ndW k y (zck 12 0 (ndW k x s)))).code.length) H7.out (by simp) (by simp) (by simp only [zae,zai,zac];omega) (by simp only [zae,zai,zac];omega)).mono ?_;rintro e w8 ⟨rfl,h8⟩;have H8:=hid h8;clear h8)
 go_end0;exact ⟨rfl,H8.out.tail.tail.tail.tail.tail⟩
theorem z41 {w0 w:World} {R k:Nat} {K:List (Nat × Obj)} {s:Wrt} {A:Nat->Prop} {x y:Nd} {ax ay:OA} {cx cy:Nat} (hX:NdC w0 R k x) (hY:NdC w0 R k y) (dX:DAt w0 A ax x.args.length (zc2 x.args)) (dY:DAt w0 A ay y.args.length (zc2 y.args)) (h:Wri w0 w R K s) (hr:(orW (ndW k x) (ndW k y) s).code.length<=1000000) :
 qc 272 #[pq R 0,.agg #[qi x.op,qi x.n,qi x.m,qi x.at_,.slice ax x.args.length cx],.agg #[qi y.op,qi y.n,qi y.m,qi y.at_,.slice ay y.args.length cy]] w fun e w'=>e = .returned (.tuple #[])/\Wri w0 w' R K (orW (ndW k x) (ndW k y) s):=by
 have m1:=zc1 k x s;have m2:=zc1 k y (zb8 (ndW k x s).code.length (zck 11 0 (zbm 1 1 0 (zck 12 0 (ndW k x s)))))
 have r0:(ndW k y (zb8 (ndW k x s).code.length (zck 11 0 (zbm 1 1 0 (zck 12 0 (ndW k x s)))))).code.length+1<=1000000:=by simp only [orW,zae,zac,zai] at hr;omega
 simp only [zae,zac,zai] at m2
 have HW:Hid (Wri w0 ((w.alloc (kzF x.op x.n x.m x.at_ ax x.args.length cx)).alloc (kzF y.op y.n y.m y.at_ ay y.args.length cy)) R ((w.heap.size+1,(kzF y.op y.n y.m y.at_ ay y.args.length cy)) :: K) s):=by
  have:=(h.alloc (kzF x.op x.n x.m x.at_ ax x.args.length cx)).box (kzF y.op y.n y.m y.at_ ay y.args.length cy);rw [vck] at this;exact this
 have HX:=hid (fun K s w=>hX A ax cx K s w dX);have HY:=hid (fun K s w=>hY A ay cy K s w dY);clear h hX hY dX dY hr;go_enter Tryz.func272,Tryz.ntmps272;go_wp2_with fail;refine (HX.out _ _ _ HW.out (by omega)).mono ?_;rintro e w1 ⟨rfl,h1⟩;have H1:=hid h1;clear h1;go_wp2_with fail;refine (zeh 12 H1.out (by omega)).mono ?_;rintro e w2 ⟨rfl,h2⟩;have H2:=hid h2;clear h2;go_wp2_with fail;refine (zbr 1 1 0 H2.out (by simp only [zae,zai,zac];omega)).mono ?_;rintro e w3 ⟨rfl,h3⟩;have H3:=hid h3;clear h3;go_wp2_with fail;refine (zeh 11 H3.out (by simp only [zae,zai,zac];omega)).mono ?_;rintro e w4 ⟨rfl,h4⟩;have H4:=hid h4;clear h4
 go_wp2_with (go_at_call 291;refine (zei (b:=w1.heap.size) (k:=(ndW k x s).code.length) H4.out (by simp) (by simp) (by simp only [zae,zai,zac];omega) (by simp only [zae,zai,zac];omega)).mono ?_;rintro e w5 ⟨rfl,h5⟩;have H5:=hid h5;clear h5;obtain ⟨q0,q1,q2,q3,q4, -⟩:=zaa (H5.out.has (vaj _ (vaj _ (vaj _ (vaj _ (vap ..)))))))
 refine (HY.out _ _ _ H5.out (by omega)).mono ?_;rintro e w6 ⟨rfl,h6⟩;have H6:=hid h6;clear h6;clear q0 q1 q2 q3 q4;go_wp2_with fail;refine (zbr 22 0 0 H6.out (by omega)).mono ?_;rintro e w7 ⟨rfl,h7⟩;have H7:=hid h7;clear h7
 go_wp2_with (go_at_call 291;refine (zei (b:=w3.heap.size) (k:=(zbm 1 1 0 (zck 12 0 (ndW k x s))).code.length) H7.out (by simp) (by simp) (by simp only [zae,zai,zac];omega) (by simp only [zae,zai,zac];omega)).mono ?_;rintro e w8 ⟨rfl,h8⟩;have H8:=hid h8;clear h8)
 go_end0;exact ⟨rfl,H8.out.tail.tail.tail.tail.tail⟩
abbrev nC (a b c e:Int) (f:OA) (g:List Nd) (h:Nat):Obj:=kzF a b c e f g.length h
theorem zd5 {w0:World} {A:Nat->Prop} {aa:OA} {l:List Nd} (hD:DAt w0 A aa l.length (zc2 l)) (i:Nat) (hi:i<l.length):∃ b off a1 k1,aa=some (qa b off)/\DAt w0 A a1 (argN l i).args.length (zc2 (argN l i).args)/\
 ∀ W,qb w0 W->W.cell? ⟨b,off+i*5,none⟩=some (qi (argN l i).op)/\W.cell? ⟨b,off+i*5+1,none⟩=some (qi (argN l i).n)/\W.cell? ⟨b,off+i*5+2,none⟩=some (qi (argN l i).m)/\W.cell? ⟨b,off+i*5+3,none⟩=some (qi (argN l i).at_)/\W.cell? ⟨b,off+i*5+4,none⟩=some (.slice a1 (argN l i).args.length k1):=by
 rw [zgd l i hi];obtain ⟨b,off,a1,k1,ha,hx⟩:=hD.nd i hi;refine ⟨b,off,a1,k1,ha,hx.args',fun W hW=>⟨?_,?_,?_,?_,?_⟩⟩
 . exact (hW.cell (p:=(qa b _)) hx.lt).trans hx.c0
 . exact (hW.cell (p:=(qa b _)) hx.lt).trans hx.c1
 . exact (hW.cell (p:=(qa b _)) hx.lt).trans hx.c2
 . exact (hW.cell (p:=(qa b _)) hx.lt).trans hx.c3
 . exact (hW.cell (p:=(qa b _)) hx.lt).trans hx.c4
theorem zcl {w0:World} {R k:Nat} {l:List Nd} (h:∀ y ∈ l,NdC w0 R k y) (i:Nat) (hi:i<l.length):NdC w0 R k (argN l i):=by
 rw [zgd l i hi];exact h _ (vag hi)
theorem z8e {w0 w:World} {R k:Nat} {K:List (Nat × Obj)} {s:Wrt} {A:Nat->Prop} {op n m at_:Int} {args:List Nd} {aa:OA} {cp:Nat} (hN:∀ y ∈ args,NdC w0 R k y) (hD:DAt w0 A aa args.length (zc2 args)) (h:Wri w0 w R K s) (ho:op=1) (hr:(zbm 1 n 0 s).code.length<=1000000) :
 qc 216 #[pq R 0,.agg #[qi op,qi n,qi m,qi at_,.slice aa args.length cp]] w fun e w'=>e = .returned (.tuple #[])/\Wri w0 w' R K (zbm 1 n 0 s):=by
 have HW:Hid (Wri w0 (w.alloc (nC op n m at_ aa args cp)) R ((w.heap.size,(nC op n m at_ aa args cp)) :: K) s):=h.box (nC op n m at_ aa args cp);subst ho
 have BA:s.code.length<=1000000:=by simp only [zac,zay] at hr;omega
 clear h hN hD;go_enter Tryz.func216,Tryz.ntmps216;go_wp2_with fail;refine (zbr 1 n 0 HW.out BA).mono ?_;rintro e w1 ⟨rfl,h1⟩;have H1:=hid h1;clear h1;go_wp2_with fail;go_end0;exact ⟨rfl,H1.out.tail⟩
theorem z8f {w0 w:World} {R k:Nat} {K:List (Nat × Obj)} {s:Wrt} {A:Nat->Prop} {op n m at_:Int} {args:List Nd} {aa:OA} {cp:Nat} (hN:∀ y ∈ args,NdC w0 R k y) (hD:DAt w0 A aa args.length (zc2 args)) (h:Wri w0 w R K s) (ho:op=2) (hr:(zbm 18 0 0 s).code.length<=1000000) :
 qc 216 #[pq R 0,.agg #[qi op,qi n,qi m,qi at_,.slice aa args.length cp]] w fun e w'=>e = .returned (.tuple #[])/\Wri w0 w' R K (zbm 18 0 0 s):=by
 have HW:Hid (Wri w0 (w.alloc (nC op n m at_ aa args cp)) R ((w.heap.size,(nC op n m at_ aa args cp)) :: K) s):=h.box (nC op n m at_ aa args cp);subst ho
 have BA:s.code.length<=1000000:=by simp only [zac,zay] at hr;omega
 clear h hN hD;go_enter Tryz.func216,Tryz.ntmps216;go_wp2_with fail;refine (zbr 18 0 0 HW.out BA).mono ?_;rintro e w1 ⟨rfl,h1⟩;have H1:=hid h1;clear h1;go_wp2_with fail;go_end0;exact ⟨rfl,H1.out.tail⟩
theorem z6w {w0 w:World} {R k:Nat} {K:List (Nat × Obj)} {s:Wrt} {A:Nat->Prop} {op n m at_:Int} {args:List Nd} {aa:OA} {cp:Nat} (hN:∀ y ∈ args,NdC w0 R k y) (hD:DAt w0 A aa args.length (zc2 args)) (h:Wri w0 w R K s) (ho:op=16) (hr:(zbm 2 at_ 0 s).code.length<=1000000) :
 qc 216 #[pq R 0,.agg #[qi op,qi n,qi m,qi at_,.slice aa args.length cp]] w fun e w'=>e = .returned (.tuple #[])/\Wri w0 w' R K (zbm 2 at_ 0 s):=by
 have HW:Hid (Wri w0 (w.alloc (nC op n m at_ aa args cp)) R ((w.heap.size,(nC op n m at_ aa args cp)) :: K) s):=h.box (nC op n m at_ aa args cp);subst ho
 have BA:s.code.length<=1000000:=by simp only [zac,zay] at hr;omega
 clear h hN hD;go_enter Tryz.func216,Tryz.ntmps216;go_wp2_with fail;refine (zbr 2 at_ 0 HW.out BA).mono ?_;rintro e w1 ⟨rfl,h1⟩;have H1:=hid h1;clear h1;go_wp2_with fail;go_end0;exact ⟨rfl,H1.out.tail⟩
theorem z8g {w0 w:World} {R k:Nat} {K:List (Nat × Obj)} {s:Wrt} {A:Nat->Prop} {op n m at_:Int} {args:List Nd} {aa:OA} {cp:Nat} (hN:∀ y ∈ args,NdC w0 R k y) (hD:DAt w0 A aa args.length (zc2 args)) (h:Wri w0 w R K s) (ho:op=3) (hr:(zsk 3 m ⟨4,at_,0⟩ s).code.length<=1000000) :
 qc 216 #[pq R 0,.agg #[qi op,qi n,qi m,qi at_,.slice aa args.length cp]] w fun e w'=>e = .returned (.tuple #[])/\Wri w0 w' R K (zsk 3 m ⟨4,at_,0⟩ s):=by
 have HW:Hid (Wri w0 (w.alloc (nC op n m at_ aa args cp)) R ((w.heap.size,(nC op n m at_ aa args cp)) :: K) s):=h.box (nC op n m at_ aa args cp);subst ho
 have BA:s.code.length<=1000000:=by simp only [zac,zay] at hr;omega
 clear h hN hD;go_enter Tryz.func216,Tryz.ntmps216;go_wp2_with fail;refine (zdh 3 m 4 at_ 0 HW.out BA).mono ?_;rintro e w1 ⟨rfl,h1⟩;have H1:=hid h1;clear h1;go_wp2_with fail;go_end0;exact ⟨rfl,H1.out.tail⟩
theorem z8h {w0 w:World} {R k:Nat} {K:List (Nat × Obj)} {s:Wrt} {A:Nat->Prop} {op n m at_:Int} {args:List Nd} {aa:OA} {cp:Nat} (hN:∀ y ∈ args,NdC w0 R k y) (hD:DAt w0 A aa args.length (zc2 args)) (h:Wri w0 w R K s) (ho:op=4) (hl:args.length=1) (hr:(zbm 7 0 0 (zlx (ndW k (argN args 0)) n m at_ s)).code.length<=1000000) :
 qc 216 #[pq R 0,.agg #[qi op,qi n,qi m,qi at_,.slice aa args.length cp]] w fun e w'=>e = .returned (.tuple #[])/\Wri w0 w' R K (zbm 7 0 0 (zlx (ndW k (argN args 0)) n m at_ s)):=by
 have HW:Hid (Wri w0 (w.alloc (nC op n m at_ aa args cp)) R ((w.heap.size,(nC op n m at_ aa args cp)) :: K) s):=h.box (nC op n m at_ aa args cp);subst ho
 have BA:(ndW k (argN args 0) s).code.length+1<=1000000:=by simp only [zac,zlx,zay] at hr;omega
 obtain ⟨b,off,a1,k1,rfl,hA,hc⟩:=zd5 hD 0 (by omega);simp only [vbk,vbs] at hc;have hy:=zcl hN 0 (by omega);generalize argN args 0=y at *;have HA:=hid hA;have HY:=hid hy
 have HS:Hid (∀ W s',Wri w0 W R ((w.heap.size,(kzF 4 n m at_ (some (qa b off)) args.length cp)) :: K) s'->W.cell? (qa w.heap.size 1)=some (qi n)/\W.cell? (qa w.heap.size 2)=some (qi m)/\W.cell? (qa w.heap.size 3)=some (qi at_)/\W.cell? (qa w.heap.size 4)=some (.slice (some (qa b off)) args.length cp)/\W.cell? (qa b off)=some (qi y.op)/\W.cell? ⟨b,off+1,none⟩=some (qi y.n)/\W.cell? ⟨b,off+2,none⟩=some (qi y.m)/\W.cell? ⟨b,off+3,none⟩=some (qi y.at_)/\W.cell? ⟨b,off+4,none⟩=some (.slice a1 y.args.length k1)):=fun W s' hW=>by
  obtain ⟨q0,q1,q2,q3,q4, -⟩:=zaa hW.head;obtain ⟨z0,z1,z2,z3,z4⟩:=hc W hW.below;exact ⟨q1,q2,q3,q4,z0,z1,z2,z3,z4⟩
 have HD:=hid HW.out.drew
 have Bn:0<args.length:=by omega
 clear h hN hD hA hy hc hl;go_enter Tryz.func216,Tryz.ntmps216;go_upto_region 13 with fail
 go_region_held (fun W=>W.cell? (qa w.heap.size 1)=some (qi n)/\W.cell? (qa w.heap.size 2)=some (qi m)/\W.cell? (qa w.heap.size 3)=some (qi at_)/\W.cell? (qa w.heap.size 4)=some (.slice (some (qa b off)) args.length cp)/\W.cell? (qa b off)=some (qi y.op)/\W.cell? ⟨b,off+1,none⟩=some (qi y.n)/\W.cell? ⟨b,off+2,none⟩=some (qi y.m)/\W.cell? ⟨b,off+3,none⟩=some (qi y.at_)/\W.cell? ⟨b,off+4,none⟩=some (.slice a1 y.args.length k1)) (first | with_reducible exact HS.out _ _ HW.out | with_reducible exact HS.out _ _ HD.out | with_reducible exact HS.out _ _ H1.out)
  (first
    | (go_at_call 215;refine (zm2 n m at_ HY.out HA.out HD.out (by omega)).mono ?_;rintro e w1 ⟨rfl,h1⟩;have H1:=hid h1;clear h1))
 all_goals
  go_wp2_with fail;refine (zbr 7 0 0 H1.out (by simp only [zlx,zay];omega)).mono ?_;rintro e w2 ⟨rfl,h2⟩;have H2:=hid h2;clear h2;go_wp2_with fail;go_end0;exact ⟨rfl,H2.out.tail⟩
theorem z8i {w0 w:World} {R k:Nat} {K:List (Nat × Obj)} {s:Wrt} {A:Nat->Prop} {op n m at_:Int} {args:List Nd} {aa:OA} {cp:Nat} (hN:∀ y ∈ args,NdC w0 R k y) (hD:DAt w0 A aa args.length (zc2 args)) (h:Wri w0 w R K s) (ho:op=5) (hr:(zgi (zgh (ndW k) args) m at_ s).code.length<=1000000) :
 qc 216 #[pq R 0,.agg #[qi op,qi n,qi m,qi at_,.slice aa args.length cp]] w fun e w'=>e = .returned (.tuple #[])/\Wri w0 w' R K (zgi (zgh (ndW k) args) m at_ s):=by
 have HW:Hid (Wri w0 (w.alloc (nC op n m at_ aa args cp)) R ((w.heap.size,(nC op n m at_ aa args cp)) :: K) s):=h.box (nC op n m at_ aa args cp);subst ho
 have BA:(zgh (ndW k) args s).code.length<=1000000:=by simp only [zgi,zay] at hr;omega
 have HC:=hid (zqh (cap:=cp) m at_ hN hD HW.out BA);clear h hN hD;go_enter Tryz.func216,Tryz.ntmps216;go_wp2_with fail;refine (HC.out).mono ?_;rintro e w1 ⟨rfl,h1⟩;have H1:=hid h1;clear h1;go_wp2_with fail;go_end0;exact ⟨rfl,H1.out.tail⟩
theorem z8j {w0 w:World} {R k:Nat} {K:List (Nat × Obj)} {s:Wrt} {A:Nat->Prop} {op n m at_:Int} {args:List Nd} {aa:OA} {cp:Nat} (hN:∀ y ∈ args,NdC w0 R k y) (hD:DAt w0 A aa args.length (zc2 args)) (h:Wri w0 w R K s) (ho:op=6) (hl:args.length=1) (hr:(zbm 9 0 0 (ndW k (argN args 0) s)).code.length<=1000000) :
 qc 216 #[pq R 0,.agg #[qi op,qi n,qi m,qi at_,.slice aa args.length cp]] w fun e w'=>e = .returned (.tuple #[])/\Wri w0 w' R K (zbm 9 0 0 (ndW k (argN args 0) s)):=by
 have HW:Hid (Wri w0 (w.alloc (nC op n m at_ aa args cp)) R ((w.heap.size,(nC op n m at_ aa args cp)) :: K) s):=h.box (nC op n m at_ aa args cp);subst ho
 have BA:(ndW k (argN args 0) s).code.length<=1000000:=by simp only [zac] at hr;omega
 obtain ⟨b,off,a1,k1,rfl,hA,hc⟩:=zd5 hD 0 (by omega);simp only [vbk,vbs] at hc;have hy:=zcl hN 0 (by omega);generalize argN args 0=y at *;have HC:=hid (hy A a1 k1 _ _ _ hA HW.out BA);obtain ⟨z0,z1,z2,z3,z4⟩:=hc _ h.below
 have hb:b<w.heap.size:=by
  rcases vbi b w.heap.size with h' | h'
  . exact h'
  . simp [World.cell?,vaz h'] at z0
 have Bn:0<args.length:=by omega
 clear h hN hD hA hy hc hl;go_enter Tryz.func216,Tryz.ntmps216;go_wp2_with fail;refine (HC.out).mono ?_;rintro e w1 ⟨rfl,h1⟩;have H1:=hid h1;clear h1;clear z0 z1 z2 z3 z4;go_wp2_with fail;refine (zbr 9 0 0 H1.out BA).mono ?_;rintro e w2 ⟨rfl,h2⟩;have H2:=hid h2;clear h2;go_wp2_with fail;go_end0;exact ⟨rfl,H2.out.tail⟩
theorem z8k {w0 w:World} {R k:Nat} {K:List (Nat × Obj)} {s:Wrt} {A:Nat->Prop} {op n m at_:Int} {args:List Nd} {aa:OA} {cp:Nat} (hN:∀ y ∈ args,NdC w0 R k y) (hD:DAt w0 A aa args.length (zc2 args)) (h:Wri w0 w R K s) (ho:op=7) (hl:args.length=2) (hr:(zy3 (ndW k (argN args 0)) (ndW k (argN args 1)) s).code.length<=1000000) :
 qc 216 #[pq R 0,.agg #[qi op,qi n,qi m,qi at_,.slice aa args.length cp]] w fun e w'=>e = .returned (.tuple #[])/\Wri w0 w' R K (zy3 (ndW k (argN args 0)) (ndW k (argN args 1)) s):=by
 have HW:Hid (Wri w0 (w.alloc (nC op n m at_ aa args cp)) R ((w.heap.size,(nC op n m at_ aa args cp)) :: K) s):=h.box (nC op n m at_ aa args cp);subst ho;obtain ⟨b,off,a1,k1,rfl,hA,hc⟩:=zd5 hD 0 (by omega);obtain ⟨b',BG,a2,k2,Ip,hB,hd⟩:=zd5 hD 1 (by omega);cases Ip;simp only [vbk,vbs] at hc;simp only [vdr] at hd;have hy:=zcl hN 0 (by omega);have hz:=zcl hN 1 (by omega);generalize argN args 0=y at *;generalize argN args 1=z at *;have HC:=hid (z16 (cx:=k1) (cy:=k2) hy hz hA hB HW.out.drew hr)
 have HS:Hid (∀ W s',Wri w0 W R ((w.heap.size,(kzF 7 n m at_ (some (qa b off)) args.length cp)) :: K) s'->W.cell? (qa w.heap.size 4)=some (.slice (some (qa b off)) args.length cp)/\W.cell? (qa b off)=some (qi y.op)/\W.cell? ⟨b,off+1,none⟩=some (qi y.n)/\W.cell? ⟨b,off+2,none⟩=some (qi y.m)/\W.cell? ⟨b,off+3,none⟩=some (qi y.at_)/\W.cell? ⟨b,off+4,none⟩=some (.slice a1 y.args.length k1)/\W.cell? ⟨b,off+5,none⟩=some (qi z.op)/\W.cell? ⟨b,off+5+1,none⟩=some (qi z.n)/\W.cell? ⟨b,off+5+2,none⟩=some (qi z.m)/\W.cell? ⟨b,off+5+3,none⟩=some (qi z.at_)/\W.cell? ⟨b,off+5+4,none⟩=some (.slice a2 z.args.length k2)):=fun W s' hW=>by
  obtain ⟨q0,q1,q2,q3,q4, -⟩:=zaa hW.head;obtain ⟨z0,z1,z2,z3,z4⟩:=hc W hW.below;obtain ⟨y0,y1,y2,y3,y4⟩:=hd W hW.below;exact ⟨q4,z0,z1,z2,z3,z4,y0,y1,y2,y3,y4⟩
 have HD:=hid HW.out.drew
 have Bn:1<args.length:=by omega
 clear h hN hD hA hB hy hz hc hd hl;go_enter Tryz.func216,Tryz.ntmps216;go_upto_region 21 with fail
 go_region_held (fun W=>W.cell? (qa w.heap.size 4)=some (.slice (some (qa b off)) args.length cp)/\W.cell? (qa b off)=some (qi y.op)/\W.cell? ⟨b,off+1,none⟩=some (qi y.n)/\W.cell? ⟨b,off+2,none⟩=some (qi y.m)/\W.cell? ⟨b,off+3,none⟩=some (qi y.at_)/\W.cell? ⟨b,off+4,none⟩=some (.slice a1 y.args.length k1)/\W.cell? ⟨b,off+5,none⟩=some (qi z.op)/\W.cell? ⟨b,off+5+1,none⟩=some (qi z.n)/\W.cell? ⟨b,off+5+2,none⟩=some (qi z.m)/\W.cell? ⟨b,off+5+3,none⟩=some (qi z.at_)/\W.cell? ⟨b,off+5+4,none⟩=some (.slice a2 z.args.length k2)) (first | with_reducible exact HS.out _ _ HW.out | with_reducible exact HS.out _ _ HD.out | with_reducible exact HS.out _ _ H1.out)
  (first
    | (go_at_call 271;refine HC.out.mono ?_;rintro e w1 ⟨rfl,h1⟩;have H1:=hid h1;clear h1))
 all_goals
  go_wp2_with fail;go_end0;exact ⟨rfl,H1.out.tail⟩
theorem z8l {w0 w:World} {R k:Nat} {K:List (Nat × Obj)} {s:Wrt} {A:Nat->Prop} {op n m at_:Int} {args:List Nd} {aa:OA} {cp:Nat} (hN:∀ y ∈ args,NdC w0 R k y) (hD:DAt w0 A aa args.length (zc2 args)) (h:Wri w0 w R K s) (ho:op=8) (hl:args.length=2) (hr:(orW (ndW k (argN args 0)) (ndW k (argN args 1)) s).code.length<=1000000) :
 qc 216 #[pq R 0,.agg #[qi op,qi n,qi m,qi at_,.slice aa args.length cp]] w fun e w'=>e = .returned (.tuple #[])/\Wri w0 w' R K (orW (ndW k (argN args 0)) (ndW k (argN args 1)) s):=by
 have HW:Hid (Wri w0 (w.alloc (nC op n m at_ aa args cp)) R ((w.heap.size,(nC op n m at_ aa args cp)) :: K) s):=h.box (nC op n m at_ aa args cp);subst ho;obtain ⟨b,off,a1,k1,rfl,hA,hc⟩:=zd5 hD 0 (by omega);obtain ⟨b',BG,a2,k2,Ip,hB,hd⟩:=zd5 hD 1 (by omega);cases Ip;simp only [vbk,vbs] at hc;simp only [vdr] at hd;have hy:=zcl hN 0 (by omega);have hz:=zcl hN 1 (by omega);generalize argN args 0=y at *;generalize argN args 1=z at *;have HC:=hid (z41 (cx:=k1) (cy:=k2) hy hz hA hB HW.out.drew hr)
 have HS:Hid (∀ W s',Wri w0 W R ((w.heap.size,(kzF 8 n m at_ (some (qa b off)) args.length cp)) :: K) s'->W.cell? (qa w.heap.size 4)=some (.slice (some (qa b off)) args.length cp)/\W.cell? (qa b off)=some (qi y.op)/\W.cell? ⟨b,off+1,none⟩=some (qi y.n)/\W.cell? ⟨b,off+2,none⟩=some (qi y.m)/\W.cell? ⟨b,off+3,none⟩=some (qi y.at_)/\W.cell? ⟨b,off+4,none⟩=some (.slice a1 y.args.length k1)/\W.cell? ⟨b,off+5,none⟩=some (qi z.op)/\W.cell? ⟨b,off+5+1,none⟩=some (qi z.n)/\W.cell? ⟨b,off+5+2,none⟩=some (qi z.m)/\W.cell? ⟨b,off+5+3,none⟩=some (qi z.at_)/\W.cell? ⟨b,off+5+4,none⟩=some (.slice a2 z.args.length k2)):=fun W s' hW=>by
  obtain ⟨q0,q1,q2,q3,q4, -⟩:=zaa hW.head;obtain ⟨z0,z1,z2,z3,z4⟩:=hc W hW.below;obtain ⟨y0,y1,y2,y3,y4⟩:=hd W hW.below;exact ⟨q4,z0,z1,z2,z3,z4,y0,y1,y2,y3,y4⟩
 have HD:=hid HW.out.drew
 have Bn:1<args.length:=by omega
 clear h hN hD hA hB hy hz hc hd hl;go_enter Tryz.func216,Tryz.ntmps216;go_upto_region 23 with fail
 go_region_held (fun W=>W.cell? (qa w.heap.size 4)=some (.slice (some (qa b off)) args.length cp)/\W.cell? (qa b off)=some (qi y.op)/\W.cell? ⟨b,off+1,none⟩=some (qi y.n)/\W.cell? ⟨b,off+2,none⟩=some (qi y.m)/\W.cell? ⟨b,off+3,none⟩=some (qi y.at_)/\W.cell? ⟨b,off+4,none⟩=some (.slice a1 y.args.length k1)/\W.cell? ⟨b,off+5,none⟩=some (qi z.op)/\W.cell? ⟨b,off+5+1,none⟩=some (qi z.n)/\W.cell? ⟨b,off+5+2,none⟩=some (qi z.m)/\W.cell? ⟨b,off+5+3,none⟩=some (qi z.at_)/\W.cell? ⟨b,off+5+4,none⟩=some (.slice a2 z.args.length k2)) (first | with_reducible exact HS.out _ _ HW.out | with_reducible exact HS.out _ _ HD.out | with_reducible exact HS.out _ _ H1.out)
  (first
    | (go_at_call 272;refine HC.out.mono ?_;rintro e w1 ⟨rfl,h1⟩;have H1:=hid h1;clear h1))
 all_goals
  go_wp2_with fail;go_end0;exact ⟨rfl,H1.out.tail⟩
theorem z8m {w0 w:World} {R k:Nat} {K:List (Nat × Obj)} {s:Wrt} {A:Nat->Prop} {op n m at_:Int} {args:List Nd} {aa:OA} {cp:Nat} (hN:∀ y ∈ args,NdC w0 R k y) (hD:DAt w0 A aa args.length (zc2 args)) (h:Wri w0 w R K s) (h1:op≠1) (h2:op≠2) (h3:op≠16) (h4:op≠3) (h5:op≠4) (h6:op≠5) (h7:op≠6) (h8:op≠7) (h9:op≠8) (hr:(zbm 10 op 0 (zgh (ndW k) args s)).code.length<=1000000) :
 qc 216 #[pq R 0,.agg #[qi op,qi n,qi m,qi at_,.slice aa args.length cp]] w fun e w'=>e = .returned (.tuple #[])/\Wri w0 w' R K (zbm 10 op 0 (zgh (ndW k) args s)):=by
 have HW:Hid (Wri w0 (w.alloc (nC op n m at_ aa args cp)) R ((w.heap.size,(nC op n m at_ aa args cp)) :: K) s):=h.box (nC op n m at_ aa args cp)
 have BA:(zgh (ndW k) args s).code.length<=1000000:=by simp only [zac] at hr;omega
 have HC:=hid (zm1 (cap:=cp) hN hD HW.out BA);clear h hN hD;go_enter Tryz.func216,Tryz.ntmps216;go_wp2_with fail;refine (HC.out).mono ?_;rintro e wa ⟨rfl,ha⟩;have Ha:=hid ha;clear ha;obtain ⟨q0,q1,q2,q3,q4, -⟩:=zaa Ha.out.head;go_wp2_with fail;refine (zbr 10 op 0 Ha.out BA).mono ?_;rintro e wb ⟨rfl,hb⟩;have Hb:=hid hb;clear hb;go_wp2_with fail;go_end0;exact ⟨rfl,Hb.out.tail⟩
def ndStep (f:Nd->Wrt->Wrt) (op n m at_:Int) (args:List Nd) (s:Wrt):Wrt:=
 if op=1 then zbm 1 n 0 s
 else if op=2 then zbm 18 0 0 s
 else if op=16 then zbm 2 at_ 0 s
 else if op=3 then zsk 3 m ⟨4,at_,0⟩ s
 else if op=4 then zbm 7 0 0 (zlx (f (argN args 0)) n m at_ s)
 else if op=5 then zgi (zgh f args) m at_ s
 else if op=6 then zbm 9 0 0 (f (argN args 0) s)
 else if op=7 then zy3 (f (argN args 0)) (f (argN args 1)) s
 else if op=8 then orW (f (argN args 0)) (f (argN args 1)) s
 else zbm 10 op 0 (zgh f args s)
theorem ndW_succ (k:Nat) (op n m at_:Int) (args:List Nd) (s:Wrt):ndW (k+1) ⟨op,n,m,at_,args⟩ s=ndStep (ndW k) op n m at_ args s:=rfl
theorem zzb {c:Ck} {n m at_:Int} {args:List Nd} (h:zau c ⟨4,n,m,at_,args⟩=true):args.length=1:=by
 simp [zau,Nd.op,Nd.args] at h;exact of_decide_eq_true h.1
theorem zsl {c:Ck} {op n m at_:Int} {args:List Nd} (h:zau c ⟨op,n,m,at_,args⟩=true) (h1:op≠1) (h3:op≠16) (h4:op≠3) (h5:op≠4) (h6:op≠5):(args.length:Int)=argsOf op:=by
 simp [zau,Nd.op,Nd.args,h1,h3,h4,h5,h6] at h;exact of_decide_eq_true h.1
theorem zt9 {w0:World} {R k:Nat} {c:Ck} {x:Nd} (hx:zau c x=true) (hN:∀ y ∈ x.args,NdC w0 R k y):NdC w0 R (k+1) x:=by
 obtain ⟨op,n,m,at_,args⟩:=x;intro A aa cp K s w hD h hr;rw [ndW_succ] at hr ⊢;unfold ndStep at hr ⊢;simp only [Nd.op,Nd.n,Nd.m,Nd.at_,Nd.args] at hD hN ⊢
 by_cases e1:op=1
 . rw [if_pos e1] at hr ⊢;exact z8e hN hD h e1 hr
 rw [if_neg e1] at hr ⊢
 by_cases e2:op=2
 . rw [if_pos e2] at hr ⊢;exact z8f hN hD h e2 hr
 rw [if_neg e2] at hr ⊢
 by_cases e3:op=16
 . rw [if_pos e3] at hr ⊢;exact z6w hN hD h e3 hr
 rw [if_neg e3] at hr ⊢
 by_cases e4:op=3
 . rw [if_pos e4] at hr ⊢;exact z8g hN hD h e4 hr
 rw [if_neg e4] at hr ⊢
 by_cases e5:op=4
 . rw [if_pos e5] at hr ⊢
   subst e5;exact z8h hN hD h rfl (zzb hx) hr
 rw [if_neg e5] at hr ⊢
 by_cases e6:op=5
 . rw [if_pos e6] at hr ⊢;exact z8i hN hD h e6 hr
 rw [if_neg e6] at hr ⊢;have hl:=zsl hx e1 e3 e4 e5 e6;unfold argsOf at hl;rw [if_neg e2] at hl
 by_cases e7:op=6
 . rw [if_pos e7] at hr ⊢
   rw [if_pos e7] at hl;exact z8j hN hD h e7 (by omega) hr
 rw [if_neg e7] at hr hl ⊢
 by_cases e8:op=7
 . rw [if_pos e8] at hr ⊢
   rw [if_pos (by omega)] at hl;exact z8k hN hD h e8 (by omega) hr
 rw [if_neg e8] at hr ⊢
 by_cases e9:op=8
 . rw [if_pos e9] at hr ⊢
   rw [if_pos (by omega)] at hl;exact z8l hN hD h e9 (by omega) hr
 rw [if_neg e9] at hr ⊢;exact z8m hN hD h e1 e2 e3 e4 e5 e6 e7 e8 e9 hr
theorem zqi {w0:World} {R:Nat} {c:Ck}:∀ (k:Nat) (x:Nd),zau c x=true->zf2 c k x.args=true->NdC w0 R (k+1) x
 | 0,x,h1,h2=>zt9 h1 (fun y hy=>by
  simp only [zf2,decide_eq_true_eq] at h2;rw [vam h2] at hy
  simp at hy)
 | k + 1,x,h1,h2=>zt9 h1 (fun y hy=>by
     simp only [zf2,var,vab] at h2
     exact zqi k y (h2 y hy).1 (h2 y hy).2)
abbrev aC (a b c e:Int) (f:OA) (g:List Nd) (h:Nat) (i:OA) (j:List Ac) (k:Nat) (l:OA) (m:List Ac) (n:Nat):Obj:=kzA a b c e f g.length h i j.length k l m.length n
def AcC (w0:World) (R k:Nat) (y:Ac):Prop:=∀ (A:Nat->Prop) (a1:OA) (k1:Nat) (a2:OA) (k2:Nat) (a3:OA) (k3:Nat) (K:List (Nat × Obj)) (s:Wrt) (w:World),DAt w0 A a1 y.args.length (zc2 y.args)->DAt w0 A a2 y.body.length (zc7 y.body)->DAt w0 A a3 y.other.length (zc7 y.other)->Wri w0 w R K s->(acW k y s).code.length<=1000000->
 qc 172 #[pq R 0,.agg #[qi y.op,qi y.n,qi y.m,qi y.at_,.slice a1 y.args.length k1,.slice a2 y.body.length k2,.slice a3 y.other.length k3]] w fun e w'=>e = .returned (.tuple #[])/\Wri w0 w' R K (acW k y s)
theorem ze0 {w0 w:World} {R k:Nat} {K:List (Nat × Obj)} {s:Wrt} {A:Nat->Prop} {l:List Ac} {a:OA} {cap:Nat} (hN:∀ y ∈ l,AcC w0 R k y) (hD:DAt w0 A a l.length (zc7 l)) (h:Wri w0 w R K s) (hr:(zc3 (acW k) l s).code.length<=1000000) :
 qc 130 #[pq R 0,.slice a l.length cap] w fun e w'=>e = .returned (.tuple #[])/\Wri w0 w' R K (zc3 (acW k) l s):=by
 have Bt:=hD.bound;have HD:=hid hD;have HW:=hid h;have HN:=hid hN;have HR:=hid (fun j=>vbd (z40 (acW k) (zfc k) l s j) hr);clear hD h hN hr;go_enter Tryz.func130,Tryz.ntmps130;go_wp2_with fail
 go_loopw [8] (fun i wr=>∃ j:Nat,j<=l.length/\i=qi j/\Wri w0 wr R K (zc3 (acW k) (l.take j) s)) (fun i _=>l.length - (intOf i).toNat)
 case atStart=>exact ⟨0,vae _,rfl,HW.out⟩
 case round=>
  obtain ⟨j,hj,rfl,hw⟩:=hrel;have H1:=hid hw;clear hw
  by_cases A0:j<l.length
  . obtain ⟨b,off,a1,k1,a2,k2,a3,k3,rfl,hx⟩:=HD.out.ac j A0
    have Au:b<wr.heap.size:=vah hx.lt H1.out.below.size;have x0:=(H1.out.below.cell (p:=⟨b,off+j*7,none⟩) hx.lt).trans hx.c0;have x1:=(H1.out.below.cell (p:=⟨b,off+j*7+1,none⟩) hx.lt).trans hx.c1;have x2:=(H1.out.below.cell (p:=⟨b,off+j*7+2,none⟩) hx.lt).trans hx.c2;have x3:=(H1.out.below.cell (p:=⟨b,off+j*7+3,none⟩) hx.lt).trans hx.c3;have x4:=(H1.out.below.cell (p:=⟨b,off+j*7+4,none⟩) hx.lt).trans hx.c4;have x5:=(H1.out.below.cell (p:=⟨b,off+j*7+5,none⟩) hx.lt).trans hx.c5;have x6:=(H1.out.below.cell (p:=⟨b,off+j*7+6,none⟩) hx.lt).trans hx.c6;have HA:=hid (⟨hx.args',hx.body',hx.other'⟩:_/\_/\_);have HY:=hid (HN.out l[j] (vag A0));have HT:=hid (fun h=>zy7 (acW k) l s j A0 h);have HS:=hid (fun h=>zy8 (acW k) l s j h);have B4:=hid (HR.out (j+1))
    clear hx;generalize l[j]=x at *;have HB:=hid (H1.out.box (kzA x.op x.n x.m x.at_ a1 x.args.length k1 a2 x.body.length k2 a3 x.other.length k3));go_wp2_with fail;refine (zmz HB.out).mono ?_
    cases hf:zgz (zc3 (acW k) (l.take j) s) with
    | true=>
      rintro e w3 ⟨rfl,rfl⟩;have Hi:=hid (HS.out hf);clear hf;go_wp2_with fail
      go_returns
      exact ⟨rfl,by rw [Hi.out];exact HB.out.tail⟩
    | false=>
      rintro e w3 ⟨rfl,rfl⟩;have B8:=hid (HT.out hf);rw [B8.out] at B4;clear hf;go_wp2_with fail;refine (HY.out A a1 k1 a2 k2 a3 k3 K _ _ HA.out.1 HA.out.2.1 HA.out.2.2 HB.out.tail B4.out).mono ?_;rintro e w4 ⟨rfl,h4⟩;have H4:=hid h4;clear h4;go_wp2_with fail;go_roundw
      case rel=>exact ⟨j+1,by omega,by go_num,by rw [B8.out];exact H4.out⟩
      case measure=>simp [intOf];omega
  . obtain rfl:j=l.length:=by omega
    rw [vat] at H1;go_wp2_with fail;go_end0;exact ⟨rfl,H1.out⟩
theorem z8n {w0 w:World} {R k:Nat} {K:List (Nat × Obj)} {s:Wrt} {A:Nat->Prop} {op n m at_:Int} {args:List Nd} {body other:List Ac} {a1:OA} {k1:Nat} {a2:OA} {k2:Nat} {a3:OA} {k3:Nat} (hN:∀ y ∈ args,NdC w0 R 6 y) (hD:DAt w0 A a1 args.length (zc2 args)) (h:Wri w0 w R K s) (hl:args.length=1) (hm:m = -1) (hr:(zbm 3 at_ 0 (ndW 6 (argN args 0) s)).code.length<=1000000) :
 qc 214 #[pq R 0,.agg #[qi op,qi n,qi m,qi at_,.slice a1 args.length k1,.slice a2 body.length k2,.slice a3 other.length k3]] w fun e w'=>e = .returned (.tuple #[])/\Wri w0 w' R K (zbm 3 at_ 0 (ndW 6 (argN args 0) s)):=by
 subst hm;have HW:Hid (Wri w0 (w.alloc (kzA op n (-1) at_ a1 args.length k1 a2 body.length k2 a3 other.length k3)) R ((w.heap.size,(kzA op n (-1) at_ a1 args.length k1 a2 body.length k2 a3 other.length k3)) :: K) s):=h.box (kzA op n (-1) at_ a1 args.length k1 a2 body.length k2 a3 other.length k3)
 have BA:(ndW 6 (argN args 0) s).code.length<=1000000:=by simp only [zac,zay] at hr;omega
 obtain ⟨b,off,aa,ca,rfl,hA,hc⟩:=zd5 hD 0 (by omega);simp only [vbk,vbs] at hc;have hy:=zcl hN 0 (by omega);generalize argN args 0=y at *;obtain ⟨z0,z1,z2,z3,z4⟩:=hc _ h.below
 have hb:b<w.heap.size:=by
  rcases vbi b w.heap.size with h' | h'
  . exact h'
  . simp [World.cell?,vaz h'] at z0
 have Bn:0<args.length:=by omega
 have HC:=hid (hy A aa ca _ _ _ hA HW.out BA);clear h hN hD hA hy hc hl;go_enter Tryz.func214,Tryz.ntmps214;go_wp2_with fail;refine (HC.out).mono ?_;rintro e w1 ⟨rfl,h1⟩;have H1:=hid h1;clear h1;obtain ⟨q0,q1,q2,q3,q4,q5,q6, -⟩:=zaj H1.out.head;clear z0 z1 z2 z3 z4;go_wp2_with fail;refine (zbr 3 at_ 0 H1.out BA).mono ?_;rintro e w2 ⟨rfl,h2⟩;have H2:=hid h2;clear h2;go_wp2_with fail
 go_returns
 exact ⟨rfl,H2.out.tail⟩
theorem z8o {w0 w:World} {R k:Nat} {K:List (Nat × Obj)} {s:Wrt} {A:Nat->Prop} {op n m at_:Int} {args:List Nd} {body other:List Ac} {a1:OA} {k1:Nat} {a2:OA} {k2:Nat} {a3:OA} {k3:Nat} (hN:∀ y ∈ args,NdC w0 R 6 y) (hD:DAt w0 A a1 args.length (zc2 args)) (h:Wri w0 w R K s) (hl:args.length=1) (hm:m≠-1) (hr:(zsk 3 m ⟨5,at_,0⟩ (ndW 6 (argN args 0) s)).code.length<=1000000) :
 qc 214 #[pq R 0,.agg #[qi op,qi n,qi m,qi at_,.slice a1 args.length k1,.slice a2 body.length k2,.slice a3 other.length k3]] w fun e w'=>e = .returned (.tuple #[])/\Wri w0 w' R K (zsk 3 m ⟨5,at_,0⟩ (ndW 6 (argN args 0) s)):=by
 have HW:Hid (Wri w0 (w.alloc (aC op n m at_ a1 args k1 a2 body k2 a3 other k3)) R ((w.heap.size,(aC op n m at_ a1 args k1 a2 body k2 a3 other k3)) :: K) s):=h.box (aC op n m at_ a1 args k1 a2 body k2 a3 other k3)
 have BA:(ndW 6 (argN args 0) s).code.length<=1000000:=by simp only [zac,zay] at hr;omega
 obtain ⟨b,off,aa,ca,rfl,hA,hc⟩:=zd5 hD 0 (by omega);simp only [vbk,vbs] at hc;have hy:=zcl hN 0 (by omega);generalize argN args 0=y at *;obtain ⟨z0,z1,z2,z3,z4⟩:=hc _ h.below
 have hb:b<w.heap.size:=by
  rcases vbi b w.heap.size with h' | h'
  . exact h'
  . simp [World.cell?,vaz h'] at z0
 have Bn:0<args.length:=by omega
 have HC:=hid (hy A aa ca _ _ _ hA HW.out BA);clear h hN hD hA hy hc hl;go_enter Tryz.func214,Tryz.ntmps214;go_wp2_with fail;refine (HC.out).mono ?_;rintro e w1 ⟨rfl,h1⟩;have H1:=hid h1;clear h1;obtain ⟨q0,q1,q2,q3,q4,q5,q6, -⟩:=zaj H1.out.head;clear z0 z1 z2 z3 z4;go_wp2_with fail;refine (zdh 3 m 5 at_ 0 H1.out BA).mono ?_;rintro e w2 ⟨rfl,h2⟩;have H2:=hid h2;clear h2;go_wp2_with fail;go_end0;exact ⟨rfl,H2.out.tail⟩
theorem z9x {w0 w:World} {R k:Nat} {K:List (Nat × Obj)} {s:Wrt} {A:Nat->Prop} {op n m at_:Int} {args:List Nd} {body other:List Ac} {a1:OA} {k1:Nat} {a2:OA} {k2:Nat} {a3:OA} {k3:Nat} (hN:∀ y ∈ args,NdC w0 R 6 y) (hD:DAt w0 A a1 args.length (zc2 args)) (h:Wri w0 w R K s) (hl:args.length=1) (hB:∀ y ∈ body,AcC w0 R k y) (dB:DAt w0 A a2 body.length (zc7 body)) (hr:(zb8 (ndW 6 (argN args 0) s).code.length (zc3 (acW k) body (zck 12 0 (ndW 6 (argN args 0) s)))).code.length<=1000000) :
 qc 218 #[pq R 0,.agg #[qi op,qi n,qi m,qi at_,.slice a1 args.length k1,.slice a2 body.length k2,.slice a3 0 k3]] w fun e w'=>e = .returned (.tuple #[])/\Wri w0 w' R K (zb8 (ndW 6 (argN args 0) s).code.length (zc3 (acW k) body (zck 12 0 (ndW 6 (argN args 0) s)))):=by
 have HW:Hid (Wri w0 (w.alloc (kzA op n m at_ a1 args.length k1 a2 body.length k2 a3 0 k3)) R ((w.heap.size,(kzA op n m at_ a1 args.length k1 a2 body.length k2 a3 0 k3)) :: K) s):=h.box (kzA op n m at_ a1 args.length k1 a2 body.length k2 a3 0 k3);have m1:=zcb (zfc k) body (zck 12 0 (ndW 6 (argN args 0) s));rw [zai] at m1
 have r1:(zc3 (acW k) body (zck 12 0 (ndW 6 (argN args 0) s))).code.length<=1000000:=by simp only [zae] at hr;omega
 obtain ⟨b,off,aa,ca,rfl,hA,hc⟩:=zd5 hD 0 (by omega);simp only [vbk,vbs] at hc;have hy:=zcl hN 0 (by omega);generalize argN args 0=y at *;obtain ⟨z0,z1,z2,z3,z4⟩:=hc _ h.below
 have hb:b<w.heap.size:=by
  rcases vbi b w.heap.size with h' | h'
  . exact h'
  . simp [World.cell?,vaz h'] at z0
 have Bn:0<args.length:=by omega
 have HC:=hid (hy A aa ca _ _ _ hA HW.out (by omega));have HB:=hid (fun (K:List (Nat × Obj)) (s:Wrt) (w:World)=>ze0 (w:=w) (K:=K) (s:=s) (cap:=k2) hB dB);clear h hN hD hA hy hc hl hB dB;go_enter Tryz.func218,Tryz.ntmps218;go_wp2_with fail;refine (HC.out).mono ?_;rintro e w1 ⟨rfl,h1⟩;have H1:=hid h1;clear h1;clear z0 z1 z2 z3 z4;go_wp2_with fail;refine (zeh 12 H1.out (by omega)).mono ?_;rintro e w2 ⟨rfl,h2⟩;have H2:=hid h2;clear h2;obtain ⟨q0,q1,q2,q3,q4,q5,q6, -⟩:=zaj (H2.out.has (vaj _ (vaj _ (vap ..))));go_wp2_with fail;refine (HB.out _ _ _ H2.out r1).mono ?_;rintro e w3 ⟨rfl,h3⟩;have H3:=hid h3;clear h3;clear q0 q1 q2 q3 q4 q5 q6;obtain ⟨q0,q1,q2,q3,q4,q5,q6, -⟩:=zaj (H3.out.has (vaj _ (vaj _ (vap ..))))
 go_wp2_with (go_at_call 291;refine (zei (b:=w1.heap.size) (k:=(ndW 6 y s).code.length) H3.out (by simp) (by simp) (by omega) r1).mono ?_;rintro e w4 ⟨rfl,h4⟩;have H4:=hid h4;clear h4)
 go_returns
 exact ⟨rfl,H4.out.tail.tail.tail⟩
theorem z9y {w0 w:World} {R k:Nat} {K:List (Nat × Obj)} {s:Wrt} {A:Nat->Prop} {op n m at_:Int} {args:List Nd} {body other:List Ac} {a1:OA} {k1:Nat} {a2:OA} {k2:Nat} {a3:OA} {k3:Nat} (hN:∀ y ∈ args,NdC w0 R 6 y) (hD:DAt w0 A a1 args.length (zc2 args)) (h:Wri w0 w R K s) (hl:args.length=1) (hB:∀ y ∈ body,AcC w0 R k y) (dB:DAt w0 A a2 body.length (zc7 body)) (hO:∀ y ∈ other,AcC w0 R k y) (dO:DAt w0 A a3 other.length (zc7 other)) (Aj:other.length≠0) (hr:(zb8 (zc3 (acW k) body (zck 12 0 (ndW 6 (argN args 0) s))).code.length (zc3 (acW k) other (zb8 (ndW 6 (argN args 0) s).code.length (zck 11 0 (zc3 (acW k) body (zck 12 0 (ndW 6 (argN args 0) s))))))).code.length<=1000000) :
 qc 218 #[pq R 0,.agg #[qi op,qi n,qi m,qi at_,.slice a1 args.length k1,.slice a2 body.length k2,.slice a3 other.length k3]] w fun e w'=>e = .returned (.tuple #[])/\Wri w0 w' R K (zb8 (zc3 (acW k) body (zck 12 0 (ndW 6 (argN args 0) s))).code.length (zc3 (acW k) other (zb8 (ndW 6 (argN args 0) s).code.length (zck 11 0 (zc3 (acW k) body (zck 12 0 (ndW 6 (argN args 0) s))))))):=by
 have HW:Hid (Wri w0 (w.alloc (aC op n m at_ a1 args k1 a2 body k2 a3 other k3)) R ((w.heap.size,(aC op n m at_ a1 args k1 a2 body k2 a3 other k3)) :: K) s):=h.box (aC op n m at_ a1 args k1 a2 body k2 a3 other k3);have m1:=zcb (zfc k) body (zck 12 0 (ndW 6 (argN args 0) s));have m2:=zcb (zfc k) other (zb8 (ndW 6 (argN args 0) s).code.length (zck 11 0 (zc3 (acW k) body (zck 12 0 (ndW 6 (argN args 0) s)))));rw [zai] at m1;rw [zae,zai] at m2
 have r2:(zc3 (acW k) other (zb8 (ndW 6 (argN args 0) s).code.length (zck 11 0 (zc3 (acW k) body (zck 12 0 (ndW 6 (argN args 0) s)))))).code.length<=1000000:=by simp only [zae] at hr;omega
 have r1:(zc3 (acW k) body (zck 12 0 (ndW 6 (argN args 0) s))).code.length+1<=1000000:=by omega
 obtain ⟨b,off,aa,ca,rfl,hA,hc⟩:=zd5 hD 0 (by omega);simp only [vbk,vbs] at hc;have hy:=zcl hN 0 (by omega);generalize argN args 0=y at *;obtain ⟨z0,z1,z2,z3,z4⟩:=hc _ h.below
 have hb:b<w.heap.size:=by
  rcases vbi b w.heap.size with h' | h'
  . exact h'
  . simp [World.cell?,vaz h'] at z0
 have Bn:0<args.length:=by omega
 have Ch:=dO.bound;have HC:=hid (hy A aa ca _ _ _ hA HW.out (by omega));have HB:=hid (fun (K:List (Nat × Obj)) (s:Wrt) (w:World)=>ze0 (w:=w) (K:=K) (s:=s) (cap:=k2) hB dB);have HO:=hid (fun (K:List (Nat × Obj)) (s:Wrt) (w:World)=>ze0 (w:=w) (K:=K) (s:=s) (cap:=k3) hO dO);clear h hN hD hA hy hc hl hB dB hO dO;go_enter Tryz.func218,Tryz.ntmps218;go_wp2_with fail;refine (HC.out).mono ?_;rintro e w1 ⟨rfl,h1⟩;have H1:=hid h1;clear h1;clear z0 z1 z2 z3 z4;go_wp2_with fail;refine (zeh 12 H1.out (by omega)).mono ?_;rintro e w2 ⟨rfl,h2⟩;have H2:=hid h2;clear h2;obtain ⟨q0,q1,q2,q3,q4,q5,q6, -⟩:=zaj (H2.out.has (vaj _ (vaj _ (vap ..))));go_wp2_with fail;refine (HB.out _ _ _ H2.out (by omega)).mono ?_;rintro e w3 ⟨rfl,h3⟩;have H3:=hid h3;clear h3;clear q0 q1 q2 q3 q4 q5 q6
 obtain ⟨q0,q1,q2,q3,q4,q5,q6, -⟩:=zaj (H3.out.has (vaj _ (vaj _ (vap ..))));go_wp2_with fail;refine (zeh 11 H3.out (by omega)).mono ?_;rintro e w4 ⟨rfl,h4⟩;have H4:=hid h4;clear h4;clear q0 q1 q2 q3 q4 q5 q6
 go_wp2_with (go_at_call 291;refine (zei (b:=w1.heap.size) (k:=(ndW 6 y s).code.length) H4.out (by simp) (by simp) (by simp only [zae,zai,zac,zay];omega) (by simp only [zae,zai,zac,zay];omega)).mono ?_;rintro e w5 ⟨rfl,h5⟩;have H5:=hid h5;clear h5;obtain ⟨q0,q1,q2,q3,q4,q5,q6, -⟩:=zaj (H5.out.has (vaj _ (vaj _ (vaj _ (vaj _ (vap ..)))))))
 refine (HO.out _ _ _ H5.out r2).mono ?_;rintro e w6 ⟨rfl,h6⟩;have H6:=hid h6;clear h6;clear q0 q1 q2 q3 q4 q5 q6
 go_wp2_with (go_at_call 291;refine (zei (b:=w3.heap.size) (k:=(zc3 (acW k) body (zck 12 0 (ndW 6 y s))).code.length) H6.out (by simp) (by simp) (by omega) r2).mono ?_;rintro e w7 ⟨rfl,h7⟩;have H7:=hid h7;clear h7)
 go_end0;exact ⟨rfl,H7.out.tail.tail.tail.tail.tail⟩
theorem wwh {w0 w:World} {R k:Nat} {K:List (Nat × Obj)} {s:Wrt} {A:Nat->Prop} {op n m at_:Int} {args:List Nd} {body other:List Ac} {a1:OA} {k1:Nat} {a2:OA} {k2:Nat} {a3:OA} {k3:Nat} (hN:∀ y ∈ args,NdC w0 R 6 y) (hD:DAt w0 A a1 args.length (zc2 args)) (h:Wri w0 w R K s) (hl:args.length=1) (hB:∀ y ∈ body,AcC w0 R k y) (dB:DAt w0 A a2 body.length (zc7 body)) (hr:(zb8 (ndW 6 (argN args 0) s).code.length (zck 11 s.code.length (zc3 (acW k) body (zbm 16 0 0 (zck 12 0 (ndW 6 (argN args 0) s)))))).code.length<=1000000) :
 qc 219 #[pq R 0,.agg #[qi op,qi n,qi m,qi at_,.slice a1 args.length k1,.slice a2 body.length k2,.slice a3 other.length k3]] w fun e w'=>e = .returned (.tuple #[])/\Wri w0 w' R K (zb8 (ndW 6 (argN args 0) s).code.length (zck 11 s.code.length (zc3 (acW k) body (zbm 16 0 0 (zck 12 0 (ndW 6 (argN args 0) s)))))):=by
 have HW:Hid (Wri w0 (w.alloc (aC op n m at_ a1 args k1 a2 body k2 a3 other k3)) R ((w.heap.size,(aC op n m at_ a1 args k1 a2 body k2 a3 other k3)) :: K) s):=h.box (aC op n m at_ a1 args k1 a2 body k2 a3 other k3);have m0:=zc1 6 (argN args 0) s;have m1:=zcb (zfc k) body (zbm 16 0 0 (zck 12 0 (ndW 6 (argN args 0) s)));rw [zac,zai] at m1
 have r1:(zc3 (acW k) body (zbm 16 0 0 (zck 12 0 (ndW 6 (argN args 0) s)))).code.length+1<=1000000:=by simp only [zae,zai] at hr;omega
 obtain ⟨b,off,aa,ca,rfl,hA,hc⟩:=zd5 hD 0 (by omega);simp only [vbk,vbs] at hc;have hy:=zcl hN 0 (by omega);generalize argN args 0=y at *;obtain ⟨z0,z1,z2,z3,z4⟩:=hc _ h.below
 have hb:b<w.heap.size:=by
  rcases vbi b w.heap.size with h' | h'
  . exact h'
  . simp [World.cell?,vaz h'] at z0
 have Bn:0<args.length:=by omega
 have HE:=hid (zge HW.out);have HC:=hid (hy A aa ca _ _ _ hA HW.out (by omega));have HB:=hid (fun (K:List (Nat × Obj)) (s:Wrt) (w:World)=>ze0 (w:=w) (K:=K) (s:=s) (cap:=k2) hB dB);clear h hN hD hA hy hc hl hB dB;go_enter Tryz.func219,Tryz.ntmps219;go_wp2_with fail;refine HE.out.mono ?_;rintro e w9 ⟨rfl,rfl⟩;go_wp2_with fail;refine (HC.out).mono ?_;rintro e w1 ⟨rfl,h1⟩;have H1:=hid h1;clear h1;clear z0 z1 z2 z3 z4;go_wp2_with fail;refine (zeh 12 H1.out (by omega)).mono ?_;rintro e w2 ⟨rfl,h2⟩;have H2:=hid h2;clear h2;go_wp2_with fail;refine (zbr 16 0 0 H2.out (by simp only [zae,zai,zac,zay];omega)).mono ?_;rintro e w3 ⟨rfl,h3⟩;have H3:=hid h3;clear h3;obtain ⟨q0,q1,q2,q3,q4,q5,q6, -⟩:=zaj (H3.out.has (vaj _ (vaj _ (vap ..))));go_wp2_with fail
 refine (HB.out _ _ _ H3.out (by omega)).mono ?_;rintro e w4 ⟨rfl,h4⟩;have H4:=hid h4;clear h4;clear q0 q1 q2 q3 q4 q5 q6;go_wp2_with fail;refine (zm0 11 s.code.length H4.out (by omega)).mono ?_;rintro e w5 ⟨rfl,h5⟩;have H5:=hid h5;clear h5
 go_wp2_with (go_at_call 291;refine (zei (b:=w1.heap.size) (k:=(ndW 6 y s).code.length) H5.out (by simp) (by simp) (by simp only [zae,zai,zac,zay];omega) (by simp only [zae,zai,zac,zay];omega)).mono ?_;rintro e w6 ⟨rfl,h6⟩;have H6:=hid h6;clear h6)
 go_end0;exact ⟨rfl,H6.out.tail.tail.tail⟩
theorem z8p {w0 w:World} {R:Nat} {K:List (Nat × Obj)} {n m at_:Int} {args:List Nd} {body other:List Ac} {a1:OA} {k1:Nat} {a2:OA} {k2:Nat} {a3:OA} {k3:Nat} {s':Wrt} (HC:Hid (qc 214 #[pq R 0,.agg #[qi 1,qi n,qi m,qi at_,.slice a1 args.length k1,.slice a2 body.length k2,.slice a3 other.length k3]] (w.alloc (kzA 1 n m at_ a1 args.length k1 a2 body.length k2 a3 other.length k3)) fun e w'=>e = .returned (.tuple #[])/\Wri w0 w' R ((w.heap.size,(kzA 1 n m at_ a1 args.length k1 a2 body.length k2 a3 other.length k3)) :: K) s')) :
 qc 172 #[pq R 0,.agg #[qi 1,qi n,qi m,qi at_,.slice a1 args.length k1,.slice a2 body.length k2,.slice a3 other.length k3]] w fun e w'=>e = .returned (.tuple #[])/\Wri w0 w' R K s':=by
 go_enter Tryz.func172,Tryz.ntmps172;go_wp2_with fail;refine (HC.out).mono ?_;rintro e w1 ⟨rfl,h1⟩;have H1:=hid h1;clear h1;go_wp2_with fail;go_end0;exact ⟨rfl,H1.out.tail⟩
theorem z8q {w0 w:World} {R:Nat} {K:List (Nat × Obj)} {n m at_:Int} {args:List Nd} {body other:List Ac} {a1:OA} {k1:Nat} {a2:OA} {k2:Nat} {a3:OA} {k3:Nat} {s':Wrt} (HC:Hid (qc 218 #[pq R 0,.agg #[qi 4,qi n,qi m,qi at_,.slice a1 args.length k1,.slice a2 body.length k2,.slice a3 other.length k3]] (w.alloc (kzA 4 n m at_ a1 args.length k1 a2 body.length k2 a3 other.length k3)) fun e w'=>e = .returned (.tuple #[])/\Wri w0 w' R ((w.heap.size,(kzA 4 n m at_ a1 args.length k1 a2 body.length k2 a3 other.length k3)) :: K) s')) :
 qc 172 #[pq R 0,.agg #[qi 4,qi n,qi m,qi at_,.slice a1 args.length k1,.slice a2 body.length k2,.slice a3 other.length k3]] w fun e w'=>e = .returned (.tuple #[])/\Wri w0 w' R K s':=by
 go_enter Tryz.func172,Tryz.ntmps172;go_wp2_with fail;refine (HC.out).mono ?_;rintro e w1 ⟨rfl,h1⟩;have H1:=hid h1;clear h1;go_wp2_with fail;go_end0;exact ⟨rfl,H1.out.tail⟩
theorem z8r {w0 w:World} {R:Nat} {K:List (Nat × Obj)} {n m at_:Int} {args:List Nd} {body other:List Ac} {a1:OA} {k1:Nat} {a2:OA} {k2:Nat} {a3:OA} {k3:Nat} {s':Wrt} (HC:Hid (qc 219 #[pq R 0,.agg #[qi 5,qi n,qi m,qi at_,.slice a1 args.length k1,.slice a2 body.length k2,.slice a3 other.length k3]] (w.alloc (kzA 5 n m at_ a1 args.length k1 a2 body.length k2 a3 other.length k3)) fun e w'=>e = .returned (.tuple #[])/\Wri w0 w' R ((w.heap.size,(kzA 5 n m at_ a1 args.length k1 a2 body.length k2 a3 other.length k3)) :: K) s')) :
 qc 172 #[pq R 0,.agg #[qi 5,qi n,qi m,qi at_,.slice a1 args.length k1,.slice a2 body.length k2,.slice a3 other.length k3]] w fun e w'=>e = .returned (.tuple #[])/\Wri w0 w' R K s':=by
 go_enter Tryz.func172,Tryz.ntmps172;go_wp2_with fail;refine (HC.out).mono ?_;rintro e w1 ⟨rfl,h1⟩;have H1:=hid h1;clear h1;go_wp2_with fail;go_end0;exact ⟨rfl,H1.out.tail⟩
theorem z8s {w0 w:World} {R k:Nat} {K:List (Nat × Obj)} {s:Wrt} {A:Nat->Prop} {n m at_:Int} {args:List Nd} {body other:List Ac} {a1:OA} {k1:Nat} {a2:OA} {k2:Nat} {a3:OA} {k3:Nat} (hN:∀ y ∈ args,NdC w0 R 6 y) (hD:DAt w0 A a1 args.length (zc2 args)) (h:Wri w0 w R K s) (hl:args.length=1) (hr:(zbm 15 0 0 (ndW 6 (argN args 0) s)).code.length<=1000000) :
 qc 172 #[pq R 0,.agg #[qi 6,qi n,qi m,qi at_,.slice a1 args.length k1,.slice a2 body.length k2,.slice a3 other.length k3]] w fun e w'=>e = .returned (.tuple #[])/\Wri w0 w' R K (zbm 15 0 0 (ndW 6 (argN args 0) s)):=by
 have HW:Hid (Wri w0 (w.alloc (kzA 6 n m at_ a1 args.length k1 a2 body.length k2 a3 other.length k3)) R ((w.heap.size,(kzA 6 n m at_ a1 args.length k1 a2 body.length k2 a3 other.length k3)) :: K) s):=h.box (kzA 6 n m at_ a1 args.length k1 a2 body.length k2 a3 other.length k3)
 have BA:(ndW 6 (argN args 0) s).code.length<=1000000:=by simp only [zac] at hr;omega
 obtain ⟨b,off,aa,ca,rfl,hA,hc⟩:=zd5 hD 0 (by omega);simp only [vbk,vbs] at hc;have hy:=zcl hN 0 (by omega);generalize argN args 0=y at *;obtain ⟨z0,z1,z2,z3,z4⟩:=hc _ h.below
 have hb:b<w.heap.size:=by
  rcases vbi b w.heap.size with h' | h'
  . exact h'
  . simp [World.cell?,vaz h'] at z0
 have Bn:0<args.length:=by omega
 have HC:=hid (hy A aa ca _ _ _ hA HW.out BA);clear h hN hD hA hy hc hl;go_enter Tryz.func172,Tryz.ntmps172;go_wp2_with fail;refine (HC.out).mono ?_;rintro e w1 ⟨rfl,h1⟩;have H1:=hid h1;clear h1;clear z0 z1 z2 z3 z4;go_wp2_with fail;refine (zbr 15 0 0 H1.out BA).mono ?_;rintro e w2 ⟨rfl,h2⟩;have H2:=hid h2;clear h2;go_wp2_with fail;go_end0;exact ⟨rfl,H2.out.tail⟩
theorem z8t {w0 w:World} {R k:Nat} {K:List (Nat × Obj)} {s:Wrt} {A:Nat->Prop} {n m at_:Int} {args:List Nd} {body other:List Ac} {a1:OA} {k1:Nat} {a2:OA} {k2:Nat} {a3:OA} {k3:Nat} (hN:∀ y ∈ args,NdC w0 R 6 y) (hD:DAt w0 A a1 args.length (zc2 args)) (h:Wri w0 w R K s) (hl:args.length=1) (hr:(zbm 19 0 0 (ndW 6 (argN args 0) s)).code.length<=1000000) :
 qc 172 #[pq R 0,.agg #[qi 7,qi n,qi m,qi at_,.slice a1 args.length k1,.slice a2 body.length k2,.slice a3 other.length k3]] w fun e w'=>e = .returned (.tuple #[])/\Wri w0 w' R K (zbm 19 0 0 (ndW 6 (argN args 0) s)):=by
 have HW:Hid (Wri w0 (w.alloc (kzA 7 n m at_ a1 args.length k1 a2 body.length k2 a3 other.length k3)) R ((w.heap.size,(kzA 7 n m at_ a1 args.length k1 a2 body.length k2 a3 other.length k3)) :: K) s):=h.box (kzA 7 n m at_ a1 args.length k1 a2 body.length k2 a3 other.length k3)
 have BA:(ndW 6 (argN args 0) s).code.length<=1000000:=by simp only [zac] at hr;omega
 obtain ⟨b,off,aa,ca,rfl,hA,hc⟩:=zd5 hD 0 (by omega);simp only [vbk,vbs] at hc;have hy:=zcl hN 0 (by omega);generalize argN args 0=y at *;obtain ⟨z0,z1,z2,z3,z4⟩:=hc _ h.below
 have hb:b<w.heap.size:=by
  rcases vbi b w.heap.size with h' | h'
  . exact h'
  . simp [World.cell?,vaz h'] at z0
 have Bn:0<args.length:=by omega
 have HC:=hid (hy A aa ca _ _ _ hA HW.out BA);clear h hN hD hA hy hc hl;go_enter Tryz.func172,Tryz.ntmps172;go_wp2_with fail;refine (HC.out).mono ?_;rintro e w1 ⟨rfl,h1⟩;have H1:=hid h1;clear h1;clear z0 z1 z2 z3 z4;go_wp2_with fail;refine (zbr 19 0 0 H1.out BA).mono ?_;rintro e w2 ⟨rfl,h2⟩;have H2:=hid h2;clear h2;go_wp2_with fail;go_end0;exact ⟨rfl,H2.out.tail⟩
theorem z8u {w0 w:World} {R k:Nat} {K:List (Nat × Obj)} {s:Wrt} {A:Nat->Prop} {n m at_:Int} {args:List Nd} {body other:List Ac} {a1:OA} {k1:Nat} {a2:OA} {k2:Nat} {a3:OA} {k3:Nat} (hN:∀ y ∈ args,NdC w0 R 6 y) (hD:DAt w0 A a1 args.length (zc2 args)) (h:Wri w0 w R K s) (hr:(zbm 17 0 0 (zgi (zgh (ndW 6) args) m at_ s)).code.length<=1000000) :
 qc 172 #[pq R 0,.agg #[qi 3,qi n,qi m,qi at_,.slice a1 args.length k1,.slice a2 body.length k2,.slice a3 other.length k3]] w fun e w'=>e = .returned (.tuple #[])/\Wri w0 w' R K (zbm 17 0 0 (zgi (zgh (ndW 6) args) m at_ s)):=by
 have HW:Hid (Wri w0 (w.alloc (kzA 3 n m at_ a1 args.length k1 a2 body.length k2 a3 other.length k3)) R ((w.heap.size,(kzA 3 n m at_ a1 args.length k1 a2 body.length k2 a3 other.length k3)) :: K) s):=h.box (kzA 3 n m at_ a1 args.length k1 a2 body.length k2 a3 other.length k3)
 have BA:(zgh (ndW 6) args s).code.length+1<=1000000:=by simp only [zac,zgi,zay] at hr;omega
 have HC:=hid (zqh (cap:=k1) m at_ hN hD HW.out (by omega));clear h hN hD;go_enter Tryz.func172,Tryz.ntmps172;go_wp2_with fail;refine (HC.out).mono ?_;rintro e w1 ⟨rfl,h1⟩;have H1:=hid h1;clear h1;go_wp2_with fail;refine (zbr 17 0 0 H1.out (by simp only [zgi,zay];omega)).mono ?_;rintro e w2 ⟨rfl,h2⟩;have H2:=hid h2;clear h2;go_wp2_with fail;go_end0;exact ⟨rfl,H2.out.tail⟩
theorem z8v {w0 w:World} {R k:Nat} {K:List (Nat × Obj)} {s:Wrt} {A:Nat->Prop} {n m at_:Int} {args:List Nd} {body other:List Ac} {a1:OA} {k1:Nat} {a2:OA} {k2:Nat} {a3:OA} {k3:Nat} (hN:∀ y ∈ args,NdC w0 R 6 y) (hD:DAt w0 A a1 args.length (zc2 args)) (h:Wri w0 w R K s) (hl:args.length=2) (hr:(zbm 8 0 0 (ndW 6 (argN args 1) (zlx (ndW 6 (argN args 0)) n m at_ s))).code.length<=1000000) :
 qc 172 #[pq R 0,.agg #[qi 2,qi n,qi m,qi at_,.slice a1 args.length k1,.slice a2 body.length k2,.slice a3 other.length k3]] w fun e w'=>e = .returned (.tuple #[])/\Wri w0 w' R K (zbm 8 0 0 (ndW 6 (argN args 1) (zlx (ndW 6 (argN args 0)) n m at_ s))):=by
 have HW:Hid (Wri w0 (w.alloc (kzA 2 n m at_ a1 args.length k1 a2 body.length k2 a3 other.length k3)) R ((w.heap.size,(kzA 2 n m at_ a1 args.length k1 a2 body.length k2 a3 other.length k3)) :: K) s):=h.box (kzA 2 n m at_ a1 args.length k1 a2 body.length k2 a3 other.length k3);have m1:=zc1 6 (argN args 1) (zlx (ndW 6 (argN args 0)) n m at_ s)
 have r1:(ndW 6 (argN args 1) (zlx (ndW 6 (argN args 0)) n m at_ s)).code.length<=1000000:=by simp only [zac] at hr;omega
 have r0:(ndW 6 (argN args 0) s).code.length<=1000000:=by simp only [zlx,zay] at m1 r1;omega
 obtain ⟨b,off,aa,ca,rfl,hA,hc⟩:=zd5 hD 0 (by omega);obtain ⟨b',BG,ab,cb,Ip,hB,hd⟩:=zd5 hD 1 (by omega);cases Ip;simp only [vbk,vbs] at hc;simp only [vdr] at hd;have hy:=zcl hN 0 (by omega);have hz:=zcl hN 1 (by omega);generalize argN args 0=y at *;generalize argN args 1=z at *;have HC:=hid (zm2 (cp:=ca) n m at_ hy hA HW.out.drew r0);have HZ:=hid (fun (W:World) (h:Wri w0 W R ((w.heap.size,(kzA 2 n m at_ (some (qa b off)) args.length k1 a2 body.length k2 a3 other.length k3)) :: K) (zlx (ndW 6 y) n m at_ s))=>hz A ab cb _ _ W hB h r1)
 have HS:Hid (∀ W s',Wri w0 W R ((w.heap.size,(kzA 2 n m at_ (some (qa b off)) args.length k1 a2 body.length k2 a3 other.length k3)) :: K) s'->W.cell? (qa w.heap.size 1)=some (qi n)/\W.cell? (qa w.heap.size 2)=some (qi m)/\W.cell? (qa w.heap.size 3)=some (qi at_)/\W.cell? (qa w.heap.size 4)=some (.slice (some (qa b off)) args.length k1)/\W.cell? (qa b off)=some (qi y.op)/\W.cell? ⟨b,off+1,none⟩=some (qi y.n)/\W.cell? ⟨b,off+2,none⟩=some (qi y.m)/\W.cell? ⟨b,off+3,none⟩=some (qi y.at_)/\W.cell? ⟨b,off+4,none⟩=some (.slice aa y.args.length ca)):=fun W s' hW=>by
  obtain ⟨q0,q1,q2,q3,q4,q5,q6, -⟩:=zaj hW.head;obtain ⟨z0,z1,z2,z3,z4⟩:=hc W hW.below;exact ⟨q1,q2,q3,q4,z0,z1,z2,z3,z4⟩
 have DK:Hid (∀ W s',Wri w0 W R ((w.heap.size,(kzA 2 n m at_ (some (qa b off)) args.length k1 a2 body.length k2 a3 other.length k3)) :: K) s'->W.cell? (qa w.heap.size 4)=some (.slice (some (qa b off)) args.length k1)/\W.cell? ⟨b,off+5,none⟩=some (qi z.op)/\W.cell? ⟨b,off+5+1,none⟩=some (qi z.n)/\W.cell? ⟨b,off+5+2,none⟩=some (qi z.m)/\W.cell? ⟨b,off+5+3,none⟩=some (qi z.at_)/\W.cell? ⟨b,off+5+4,none⟩=some (.slice ab z.args.length cb)):=fun W s' hW=>by
  obtain ⟨q0,q1,q2,q3,q4,q5,q6, -⟩:=zaj hW.head;obtain ⟨z0,z1,z2,z3,z4⟩:=hd W hW.below;exact ⟨q4,z0,z1,z2,z3,z4⟩
 have HD:=hid HW.out.drew
 have Bn:1<args.length:=by omega
 clear h hN hD hA hB hy hz hc hd hl;go_enter Tryz.func172,Tryz.ntmps172;go_upto_region 5 with fail
 go_region_held (fun W=>W.cell? (qa w.heap.size 1)=some (qi n)/\W.cell? (qa w.heap.size 2)=some (qi m)/\W.cell? (qa w.heap.size 3)=some (qi at_)/\W.cell? (qa w.heap.size 4)=some (.slice (some (qa b off)) args.length k1)/\W.cell? (qa b off)=some (qi y.op)/\W.cell? ⟨b,off+1,none⟩=some (qi y.n)/\W.cell? ⟨b,off+2,none⟩=some (qi y.m)/\W.cell? ⟨b,off+3,none⟩=some (qi y.at_)/\W.cell? ⟨b,off+4,none⟩=some (.slice aa y.args.length ca)) (first | with_reducible exact HS.out _ _ HW.out | with_reducible exact HS.out _ _ HD.out | with_reducible exact HS.out _ _ H1.out)
  (first
    | (go_at_call 215;refine HC.out.mono ?_;rintro e w1 ⟨rfl,h1⟩;have H1:=hid h1;clear h1))
 all_goals
  obtain ⟨q4,z0,z1,z2,z3,z4⟩:=DK.out _ _ H1.out;go_wp2_with fail;refine (HZ.out _ H1.out).mono ?_;rintro e w2 ⟨rfl,h2⟩;have H2:=hid h2;clear h2 q4 z0 z1 z2 z3 z4;go_wp2_with fail;refine (zbr 8 0 0 H2.out r1).mono ?_;rintro e w3 ⟨rfl,h3⟩;have H3:=hid h3;clear h3;go_wp2_with fail;go_end0;exact ⟨rfl,H3.out.tail⟩
def zua (f:Ac->Wrt->Wrt) (op n m at_:Int) (args:List Nd) (body other:List Ac) (s:Wrt):Wrt:=
 if op=1 then z2w (ndW 6 (argN args 0)) m at_ s
 else if op=2 then zbm 8 0 0 (ndW 6 (argN args 1) (zlx (ndW 6 (argN args 0)) n m at_ s))
 else if op=3 then zbm 17 0 0 (zgi (zgh (ndW 6) args) m at_ s)
 else if op=4 then brW (ndW 6 (argN args 0)) (zc3 f body) (zc3 f other) other.isEmpty s
 else if op=5 then whW (ndW 6 (argN args 0)) (zc3 f body) s
 else if op=6 then zbm 15 0 0 (ndW 6 (argN args 0) s)
 else if op=7 then zbm 19 0 0 (ndW 6 (argN args 0) s)
 else s
theorem zom (k:Nat) (op n m at_:Int) (args:List Nd) (body other:List Ac) (s:Wrt):acW (k+1) ⟨op,n,m,at_,args,body,other⟩ s=zua (acW k) op n m at_ args body other s:=rfl
theorem zk3 {c:Ck} {op n m at_:Int} {args:List Nd} {body other:List Ac} (h:zb2 c ⟨op,n,m,at_,args,body,other⟩=true):(1<=op/\op<=7)/\(op=2->args.length=2)/\(op≠2->op≠3->args.length=1):=by
 unfold zb2 at h
 by_cases e1:op=1
 . subst e1
   simp [Ac.op,Ac.args] at h;exact ⟨by decide,fun h=>absurd h (by decide),fun _ _=>of_decide_eq_true h.1⟩
 by_cases e2:op=2
 . subst e2
   simp [Ac.op,Ac.args] at h;exact ⟨by decide,fun _=>of_decide_eq_true h.1,fun h=>absurd rfl h⟩
 by_cases e3:op=3
 . subst e3
   exact ⟨by decide,fun h=>absurd h (by decide),fun _ h=>absurd rfl h⟩
 by_cases e4:4<=op/\op<=7
 . simp [Ac.op,Ac.args,e1,e2,e3,e4] at h
   exact ⟨by omega,fun h=>absurd h e2,fun _ _=>of_decide_eq_true h.1⟩
 . simp [Ac.op,Ac.args,e1,e2,e3,e4] at h
theorem z42 {w0:World} {R k:Nat} {c:Ck} {x:Ac} (hx:zb2 c x=true) (hN:∀ y ∈ x.args,NdC w0 R 6 y) (hB:∀ y ∈ x.body,AcC w0 R k y) (hO:∀ y ∈ x.other,AcC w0 R k y):AcC w0 R (k+1) x:=by
 obtain ⟨op,n,m,at_,args,body,other⟩:=x;intro A a1 k1 a2 k2 a3 k3 K s w hD dB dO h hr;obtain ⟨⟨o1,o7⟩,l2,l1⟩:=zk3 hx;rw [zom] at hr ⊢;unfold zua at hr ⊢;simp only [Ac.op,Ac.n,Ac.m,Ac.at_,Ac.args,Ac.body,Ac.other] at hD dB dO hN hB hO ⊢
 by_cases e1:op=1
 . rw [if_pos e1] at hr ⊢
   subst e1;unfold z2w at hr ⊢;refine z8p ?_
   by_cases hm:m = -1
   . rw [if_pos hm] at hr ⊢;exact z8n (k:=0) hN hD (h.box _) (l1 (by decide) (by decide)) hm hr
   . rw [if_neg hm] at hr ⊢;exact z8o (k:=0) hN hD (h.box _) (l1 (by decide) (by decide)) hm hr
 rw [if_neg e1] at hr ⊢
 by_cases e2:op=2
 . rw [if_pos e2] at hr ⊢
   subst e2;exact z8v (k:=0) hN hD h (l2 rfl) hr
 rw [if_neg e2] at hr ⊢
 by_cases e3:op=3
 . rw [if_pos e3] at hr ⊢
   subst e3;exact z8u (k:=0) hN hD h hr
 rw [if_neg e3] at hr ⊢;have hl:=l1 e2 e3
 by_cases e4:op=4
 . rw [if_pos e4] at hr ⊢
   subst e4;refine z8q ?_;unfold brW at hr ⊢
   cases other with
   | nil=>exact z9x (other:=[]) hN hD (h.box _) hl hB dB hr
   | cons o r=>exact z9y hN hD (h.box _) hl hB dB hO dO (by simp) hr
 rw [if_neg e4] at hr ⊢
 by_cases e5:op=5
 . rw [if_pos e5] at hr ⊢
   subst e5;exact z8r (wwh hN hD (h.box _) hl hB dB hr)
 rw [if_neg e5] at hr ⊢
 by_cases e6:op=6
 . rw [if_pos e6] at hr ⊢
   subst e6;exact z8s (k:=0) hN hD h hl hr
 rw [if_neg e6] at hr ⊢
 by_cases e7:op=7
 . rw [if_pos e7] at hr ⊢
   subst e7;exact z8t (k:=0) hN hD h hl hr
 . omega
theorem zjk {w0:World} {R:Nat} {c:Ck}:∀ (k:Nat) (l:List Ac),zd9 c k l=true->∀ y ∈ l,AcC w0 R k y
 | 0,l,h=>by simp [zd9] at h
 | k + 1,l,h=>fun y hy=>by
   simp only [zd9,vab,var] at h;obtain ⟨h1,h2,h3⟩:=h.2 y hy
   have hN:∀ z ∈ y.args,NdC w0 R 6 z:=fun z hz=>by
    rw [show zf2 c 6 y.args=y.args.all (fun x=>zau c x&&zf2 c 5 x.args) from rfl,var] at h2;have h4:=h2 z hz;rw [vab] at h4;exact zqi 5 z h4.1 h4.2
   have nil:∀ (q:List Ac),q.length=0->∀ z ∈ q,AcC w0 R k z:=fun q hq z hz=>by
    rw [vam hq] at hz;simp at hz
   refine z42 h1 hN ?_ ?_
   . split at h3
     . exact zjk k _ (vab .. ▸ h3).1
     . split at h3
       . exact zjk k _ (vab .. ▸ h3).1
       . simp only [vab,decide_eq_true_eq] at h3
         exact nil _ h3.1
   . split at h3
     . exact zjk k _ (vab .. ▸ h3).2
     . split at h3
       . simp only [vab,decide_eq_true_eq] at h3
         exact nil _ h3.2
       . simp only [vab,decide_eq_true_eq] at h3
         exact nil _ h3.2
def grw:Nat->Nat
 | 0=>0
 | k+1=>3*grw k+4
theorem zk4 {f:Nd->Wrt->Wrt} {g:Nat}:∀ (l:List Nd),(∀ y ∈ l,∀ s,(f y s).code.length<=s.code.length+g)->∀ s,(zgh f l s).code.length<=s.code.length+l.length*g
 | [],_,s=>by simp [zgh]
 | x :: r,h,s=>by
   have h1:=h x (vap ..) s;have h2:=zk4 r (fun y hy=>h y (vaj _ hy)) (f x s);show (zgh f r (f x s)).code.length<=_;simp only [vaw,Nat.add_mul,vdr];omega
def Few (c:Ck):Prop:=∀ m at_ k:Int,zi1 c m at_ k=true->k<=3
theorem zzc {c:Ck} (hc:Few c) {x:Nd} (h:zau c x=true):x.args.length<=3:=by
 obtain ⟨op,n,m,at_,args⟩:=x;show args.length<=3
 by_cases e1:op=1
 . subst e1;simp [zau,Nd.op,Nd.args] at h;rw [h.1];simp
 by_cases e3:op=16
 . subst e3;simp [zau,Nd.op,Nd.args] at h;rw [h.1];simp
 by_cases e4:op=3
 . subst e4;simp [zau,Nd.op,Nd.args] at h;rw [h.1];simp
 by_cases e5:op=4
 . subst e5;have:=zzb h;omega
 by_cases e6:op=5
 . subst e6
   simp [zau,Nd.op,Nd.args,Nd.m,Nd.at_] at h;have:=hc _ _ _ h.2;omega
 have hl:=zsl h e1 e3 e4 e5 e6;unfold argsOf at hl
 split at hl
 . omega
 . split at hl
   . omega
   . split at hl<;>omega
theorem z17 {c:Ck} (hc:Few c):∀ (k:Nat) (x:Nd),zau c x=true->zf2 c k x.args=true->∀ s,(ndW (k+1) x s).code.length<=s.code.length+grw (k+1):=by
 have Ci:∀ (k:Nat) (x:Nd),zau c x=true->(∀ y ∈ x.args,∀ s,(ndW k y s).code.length<=s.code.length+grw k)->∀ s,(ndW (k+1) x s).code.length<=s.code.length+grw (k+1):=by
  intro k x hx hN s;have hl:=zzc hc hx;obtain ⟨op,n,m,at_,args⟩:=x
  have hA:∀ i s,(ndW k (argN args i) s).code.length<=s.code.length+grw k:=fun i s=>by
   by_cases hi:i<args.length
   . rw [zgd _ _ hi];exact hN _ (vag hi) s
   . have:argN args i=nd0:=by simp [argN,vav,vbv (Nat.le_of_not_lt hi)]
     rw [this]
     cases k with
     | zero=>exact Nat.le_add_right ..
     | succ k=>
       show (zbm 10 0 0 (zgh (ndW k) [] s)).code.length<=_;rw [zac];show s.code.length+1<=s.code.length+(3*grw k+4);omega
  have A6:=zk4 (f:=ndW k) (g:=grw k) args hN s;have hm:args.length*grw k<=3*grw k:=vdn _ hl;have h0:=hA 0 s;have h1:=hA 1 (zck 12 0 (ndW k (argN args 0) s));have h2:=hA 1 (zb8 (ndW k (argN args 0) s).code.length (zck 11 0 (zbm 1 1 0 (zck 12 0 (ndW k (argN args 0) s)))));rw [ndW_succ];unfold ndStep;simp only [grw];simp only [zae,zai,zac] at h1 h2
  repeat' split
  all_goals (simp only [zac,zay,zlx,zgi,zy3,orW,zae,zai];omega)
 intro k
 induction k with
 | zero=>intro x h1 h2;exact Ci 0 x h1 (fun y hy s=>Nat.le_add_right ..)
 | succ k ih=>
   intro x h1 h2;refine Ci (k+1) x h1 (fun y hy=>?_);rw [show zf2 c (k+1) x.args=x.args.all (fun x=>zau c x&&zf2 c k x.args) from rfl,var] at h2;have h4:=h2 y hy;rw [vab] at h4;exact ih y h4.1 h4.2
theorem zhs {f:Ac->Wrt->Wrt} {g:Nat}:∀ (l:List Ac),(∀ y ∈ l,∀ s,(f y s).code.length<=max s.code.length 2048+g)->∀ s,(zc3 f l s).code.length<=max s.code.length (2048+g)
 | [],_,s=>Nat.le_max_left ..
 | x :: r,h,s=>by
   have h1:=h x (vap ..) s;have h2:=zhs r (fun y hy=>h y (vaj _ hy));show (zc3 f r (if zgz s=true then s else f x s)).code.length<=_;split
   . exact h2 s
   . rename_i hf
     have:=h2 (f x s);unfold zgz at hf;simp only [decide_eq_true_eq] at hf;omega
theorem zzd {c:Ck} {k:Nat} {l:List Ac} (h:zd9 c (k+1) l=true) {y:Ac} (hy:y ∈ l):zb2 c y=true/\zf2 c 6 y.args=true/\(zd9 c k y.body=true\/y.body.length=0)/\(zd9 c k y.other=true\/y.other.length=0):=by
 simp only [zd9,vab,var] at h;obtain ⟨h1,h2,h3⟩:=h.2 y hy;refine ⟨h1,h2,?_⟩
 split at h3
 . rw [vab] at h3;exact ⟨Or.inl h3.1,Or.inl h3.2⟩
 . split at h3
   . rw [vab] at h3;exact ⟨Or.inl h3.1,Or.inr (of_decide_eq_true h3.2)⟩
   . rw [vab] at h3;exact ⟨Or.inr (of_decide_eq_true h3.1),Or.inr (of_decide_eq_true h3.2)⟩
theorem zon {c:Ck} (hc:Few c):∀ (k:Nat) (l:List Ac),zd9 c k l=true->∀ y ∈ l,∀ s,(acW k y s).code.length<=max s.code.length 2048+5000*k
 | 0,l,h=>by simp [zd9] at h
 | k + 1,l,h=>fun y hy s=>by
   obtain ⟨h1,h2,h3,h4⟩:=zzd h hy;obtain ⟨op,n,m,at_,args,body,other⟩:=y;obtain ⟨⟨o1,o7⟩,l2,l1⟩:=zk3 h1;simp only [Ac.args,Ac.body,Ac.other] at h2 h3 h4
   have hN:∀ z ∈ args,∀ s,(ndW 6 z s).code.length<=s.code.length+1456:=fun z hz s=>by
    rw [show zf2 c 6 args=args.all (fun x=>zau c x&&zf2 c 5 x.args) from rfl,var] at h2;have h5:=h2 z hz;rw [vab] at h5;exact z17 hc 5 z h5.1 h5.2 s
   have hA:∀ i,i<args.length->∀ s,(ndW 6 (argN args i) s).code.length<=s.code.length+1456:=fun i hi s=>by
    rw [zgd _ _ hi];exact hN _ (vag hi) s
   have nil:∀ (q:List Ac),q.length=0->∀ s,(zc3 (acW k) q s).code.length<=max s.code.length (2048+5000*k):=fun q hq s=>by
    rw [vam hq];exact Nat.le_max_left ..
   have hB:∀ s,(zc3 (acW k) body s).code.length<=max s.code.length (2048+5000*k):=by
    rcases h3 with h3 | h3
    . exact zhs _ (zon hc k _ h3)
    . exact nil _ h3
   have hO:∀ s,(zc3 (acW k) other s).code.length<=max s.code.length (2048+5000*k):=by
    rcases h4 with h4 | h4
    . exact zhs _ (zon hc k _ h4)
    . exact nil _ h4
   rw [zom];unfold zua
   by_cases e3:op=3
   . subst e3
     have hp:args.length<=3:=by
      simp [zb2,Ac.op,Ac.args,Ac.m,Ac.at_] at h1;have:=hc _ _ _ h1.2;omega
     have h5:=zk4 (f:=ndW 6) (g:=1456) args hN s;have h6:args.length*1456<=3*1456:=vdn _ hp;simp only [show ¬ ((3:Int)=1) from by decide,show ¬ ((3:Int)=2) from by decide,if_true,if_false,zac,zgi,zay];omega
   have Bn:0<args.length:=by
    by_cases e2:op=2
    . have:=l2 e2;omega
    . have:=l1 e2 e3;omega
   have h0:=hA 0 Bn s;have b1:=hB (zck 12 0 (ndW 6 (argN args 0) s));have b2:=hO (zb8 (ndW 6 (argN args 0) s).code.length (zck 11 0 (zc3 (acW k) body (zck 12 0 (ndW 6 (argN args 0) s)))));have b3:=hB (zbm 16 0 0 (zck 12 0 (ndW 6 (argN args 0) s)));simp only [zae,zai,zac] at b1 b2 b3
   by_cases e2:op=2
   . subst e2
     have h7:=hA 1 (by have:=l2 rfl;omega) (zlx (ndW 6 (argN args 0)) n m at_ s);simp only [show ¬ ((2:Int)=1) from by decide,if_true,if_false,zac];simp only [zlx,zay] at h7 ⊢;omega
   repeat' split
   all_goals first
    | omega
    | (simp only [zac,z2w,brW,whW];omega)
    | (unfold z2w;split<;>simp only [zac,zay]<;>omega)
    | (unfold brW;split<;>simp only [zae]<;>omega)
    | (unfold whW;simp only [zae,zai];omega)
theorem zm3 {c:Ck} (hc:Few c) (p:Pt) (h:zd9 c 6 p.body=true) (s:Wrt):(zok p s).code.length<=max s.code.length 32048+3:=by
 have:=zhs p.body (zon hc 6 p.body h) (zbm 14 p.params p.locals s);simp only [zac] at this;simp only [zok,zac];omega
theorem zqj {w0 w:World} {R:Nat} {K:List (Nat × Obj)} {s:Wrt} {A:Nat->Prop} {p:Pt} {a:OA} {cap:Nat} {c:Ck} (hp:zd9 c 6 p.body=true) (hD:DAt w0 A a p.body.length (zc7 p.body)) (h:Wri w0 w R K s) (hr:(zok p s).code.length<=1000000) :
 qc 79 #[pq R 0,.agg #[qi p.params,qi p.locals,.slice a p.body.length cap]] w fun e w'=>e = .returned (.tuple #[])/\Wri w0 w' R K (zok p s):=by
 have HW:Hid (Wri w0 (w.alloc (kzL p.params p.locals a p.body.length cap)) R ((w.heap.size,kzL p.params p.locals a p.body.length cap) :: K) s):=h.box _;have m1:=zcb (zfc 6) p.body (zbm 14 p.params p.locals s)
 have r1:(zc3 (acW 6) p.body (zbm 14 p.params p.locals s)).code.length+2<=1000000:=by simp only [zok,zac] at hr;omega
 rw [zac] at m1;have HB:=hid (fun (K:List (Nat × Obj)) (s:Wrt) (w:World)=>ze0 (w:=w) (K:=K) (s:=s) (cap:=cap) (zjk (w0:=w0) (R:=R) 6 p.body hp) hD);clear h hp hD;go_enter Tryz.func79,Tryz.ntmps79;go_wp2_with fail;refine (zbr 14 p.params p.locals HW.out (by omega)).mono ?_;rintro e w1 ⟨rfl,h1⟩;have H1:=hid h1;clear h1;obtain ⟨q0,q1,q2, -⟩:=zef H1.out.head;go_wp2_with fail;refine (HB.out _ _ _ H1.out (by omega)).mono ?_;rintro e w2 ⟨rfl,h2⟩;have H2:=hid h2;clear h2 q0 q1 q2;go_wp2_with fail;refine (zbr 1 0 0 H2.out (by omega)).mono ?_;rintro e w3 ⟨rfl,h3⟩;have H3:=hid h3;clear h3;go_wp2_with fail;refine (zbr 15 0 0 H3.out (by rw [zac];omega)).mono ?_;rintro e w4 ⟨rfl,h4⟩;have H4:=hid h4;clear h4;go_wp2_with fail;go_end0;exact ⟨rfl,H4.out.tail⟩
def zic (m at_ n:Int):Bool:=decide (n=1/\at_=512)||zzp 512 at_ n
def zhw (m at_ k:Int):Bool:=decide (0<=at_/\at_<6)&&decide (k<=3)
theorem zoo (m at_ n:Int) (w:World) (ha:(Lit.int .i64 at_).wf=true) (h1:1<=n) (h2:n<=32) :
 qc 327 #[.agg #[],qi m,qi at_,qi n] w fun e w'=>e = .returned (.bool (zic m at_ n))/\qb w w':=by
 by_cases t1:n=1
 . by_cases t2:at_=512
   . have HR:Hid (zic m at_ n=true):=by show _=_;unfold zic;rw [decide_eq_true ⟨t1,t2⟩];rfl
     subst t1;subst t2;clear ha h1 h2;go_enter Tryz.func327,Tryz.ntmps327;go_wp2_with fail;go_ret;exact ⟨ret_bool HR.out.symm,al1 _ _⟩
   . have HR:Hid (zic m at_ n=zzp 512 at_ n):=by show _=_;unfold zic;rw [decide_eq_false (fun h=>t2 h.2)];rfl
     have HL:=hid (zkl 512 at_ n (w.alloc (.cells #[] 133)) (by decide) (by decide) h1 h2 ha);subst t1;clear ha h1 h2;go_enter Tryz.func327,Tryz.ntmps327;go_wp2_with fail;refine HL.out.mono ?_;rintro e w1 ⟨rfl,rfl⟩;go_wp2_with fail;go_ret;exact ⟨ret_bool (by first | exact HR.out.symm | (rw [HR.out]<;>first | (simp;omega) | (simp [*];done))),al1 _ _⟩
 . have HR:Hid (zic m at_ n=zzp 512 at_ n):=by show _=_;unfold zic;rw [decide_eq_false (fun h=>t1 h.1)];rfl
   have HL:=hid (zkl 512 at_ n (w.alloc (.cells #[] 133)) (by decide) (by decide) h1 h2 ha);clear ha h1 h2;go_enter Tryz.func327,Tryz.ntmps327;go_wp2_with fail;refine HL.out.mono ?_;rintro e w1 ⟨rfl,rfl⟩;go_wp2_with fail;go_ret;exact ⟨ret_bool HR.out.symm,al1 _ _⟩
theorem zly (m at_:Int) (k:Nat) (w:World) :
 qc 328 #[.agg #[],qi m,qi at_,qi k] w fun e w'=>e = .returned (.bool (zhw m at_ k))/\qb w w':=by
 by_cases t1:0<=at_
 . by_cases t2:at_<6
   . have HR:Hid (zhw m at_ k=decide ((k:Int)<=3)):=by show _=_;unfold zhw;rw [decide_eq_true ⟨t1,t2⟩];rfl
     go_enter Tryz.func328,Tryz.ntmps328;go_wp2_with fail;go_ret;exact ⟨ret_bool HR.out.symm,al1 _ _⟩
   . have HR:Hid (zhw m at_ k=false):=by show _=_;unfold zhw;rw [decide_eq_false (fun h=>t2 h.2)];rfl
     have Dr:6<=at_:=by omega
     clear t2;go_enter Tryz.func328,Tryz.ntmps328;go_wp2_with fail;go_ret;exact ⟨ret_bool HR.out.symm,al1 _ _⟩
 . have HR:Hid (zhw m at_ k=false):=by show _=_;unfold zhw;rw [decide_eq_false (fun h=>t1 h.1)];rfl
   have CV:at_<0:=by omega
   clear t1;go_enter Tryz.func328,Tryz.ntmps328;go_wp2_with fail;go_ret;exact ⟨ret_bool HR.out.symm,al1 _ _⟩
theorem zsm (w:World) (u:Un) (lc:Int):UsAt w (zhv u zic zhw lc) 327 328 (.agg #[]):=
 ⟨fun W _ m at_ n _ ha h1 h2=>zoo m at_ n W ha h1 h2,fun W _ m at_ k _ _ _=>zly m at_ k W⟩
theorem zqk (u:Un) (x1:OA) (y1:Nat) (x2:OA) (y2:Nat) (x3:OA) (y3:Nat) (w:World) (hU:UvAt w u x1 y1 x2 y2 x3 y3) :
 qc 77 #[.agg #[.string u.name,.slice x1 u.uses.length y1,qi u.data,.slice x2 u.parts.length y2,.slice x3 u.main.length y3],.iface 133 (.agg #[])] w fun e w'=>e = .returned (.bool (zen u zic zhw))/\qb w w':=
 z1n u zic zhw x1 y1 x2 y2 x3 y3 133 (.agg #[]) w hU (fun hh lc W hW=>by
  have hd:=zh9 hh
  exact ckS (zhv u zic zhw lc) u.name x1 y1 x2 y2 x3 u.main.length y3 W hd.1 hd.2 (hU.later hW).uses.bound (hU.later hW).parts (zsm W u lc))
structure Ob where
 name:ByteArray
 uses:List ByteArray
 data:Int
 code:List Gi
 fixes:List Gf
 entries:List Int
 main:Int
def wr0:Wrt:=⟨[],[]⟩
def zbv (l:List Pt):Wrt:=l.foldl (fun s p=>zok p s) wr0
def entsW (l:List Pt):List Int:=(List.range l.length).map (fun i=>((zbv (l.take i)).code.length:Int))
def genS (u:Un):Wrt:=zok ⟨0,0,u.main⟩ (zbv u.parts)
def zop (u:Un):Ob:=⟨u.name,u.uses,u.data,(genS u).code,(genS u).fixes,entsW u.parts,(zbv u.parts).code.length⟩
def zvs (u:Un):Except Int Ob:=
 if (Go.Lib.containsS u.uses u.name || !zen u zic zhw)=true then .error 1
 else if zgz (genS u)=true then .error 2
 else .ok (zop u)
theorem zg0 (l:List Pt) (j:Nat) (h:j<l.length):zbv (l.take (j+1))=zok l[j] (zbv (l.take j)):=by
 rw [vaf h];unfold zbv;rw [vbn]
 rfl
def zis (l:List Pt) (j:Nat):List Int:=(List.range j).map (fun i=>((zbv (l.take i)).code.length:Int))
theorem zsn (l:List Pt) (j:Nat):zis l (j+1)=zis l j++[((zbv (l.take j)).code.length:Int)]:=by
 unfold zis;rw [vdc,vbw]
 rfl
theorem zdb (l:List Pt) (j:Nat):(zis l j).length=j:=by simp [zis]
theorem zbs {u:Un} {num prt:Int->Int->Int->Bool} (h:zen u num prt=true):(∀ p ∈ u.parts,zd9 (zhv u num prt (p.params+p.locals)) 6 p.body=true)/\zd9 (zhv u num prt 0) 6 u.main=true/\zda u=true:=by
 unfold zen at h;simp only [vab,var] at h;exact ⟨h.2.1,h.2.2,h.1⟩
theorem zub {u:Un} (h:zda u=true) (lc:Int):Few (zhv u zic zhw lc):=fun m at_ k hk=>by
 unfold zi1 at hk
 split at hk
 . unfold ztw at hk
   rw [vab] at hk;obtain ⟨_,h2⟩:=hk;unfold zda at h;simp only [vab,var] at h;simp only [zhv] at h2
   cases hq:u.parts[at_.toNat]? with
   | none=>rw [hq] at h2;cases h2
   | some p=>
     rw [hq] at h2;have h3:=of_decide_eq_true h2;have h4:=h.2.1 p (vdm hq);unfold ptB at h4;rw [vab] at h4;have h5:=of_decide_eq_true h4.1;omega
 . rw [vab] at hk
   simp only [zhv,zhw,vab] at hk;exact of_decide_eq_true hk.2.2
theorem zk5 {u:Un} (h:zen u zic zhw=true):∀ j,j<=u.parts.length->(zbv (u.parts.take j)).code.length<=32051+3*j
 | 0,_=>by simp [zbv,wr0]
 | j+1,hj=>by
   have h1:=zk5 h j (by omega);obtain ⟨hp,_,hh⟩:=zbs h;have h2:=zm3 (zub hh _) u.parts[j] (hp _ (vag (by omega))) (zbv (u.parts.take j));rw [zg0 _ _ (by omega)];omega
theorem zht {u:Un} (h:zda u=true):u.parts.length<=6:=by
 unfold zda at h;simp only [vab] at h;exact of_decide_eq_true h.2.2.2
theorem zso {u:Un} (h:zen u zic zhw=true):(genS u).code.length<=33000:=by
 obtain ⟨_,hm,hh⟩:=zbs h;have h1:=zk5 h u.parts.length (vaa _);rw [vat] at h1;have h2:=zht hh;have h3:=zm3 (zub hh 0) ⟨0,0,u.main⟩ hm (zbv u.parts);unfold genS;omega
def intV (l:List Int):List Value:=l.map (Value.int .i64 ·)
theorem zql (l:List Int) (x:Int):intV (l++[x])=intV l++[qi x]:=by simp [intV]
def Ent (B:Nat) (v:Value) (es:List Int) (E:List (Nat × Obj)):Prop:=
 (es=[]/\v=qs/\E=[])\/∃ g cap AC,v = .slice (some (qa g 0)) es.length cap/\E=[(g,.cells AC 3)]/\B<=g/\es.length<=cap/\cap<=maxLen/\AC.size=cap*1/\AC.toList.take (es.length*1)=intV es
def Wre (w0 w:World) (R:Nat) (K:List (Nat × Obj)) (s:Wrt) (v:Value) (es:List Int):Prop:=∃ E,Ent w0.heap.size v es E/\Wri w0 w R (E++K) s/\∀ x ∈ K,v.ownBlock≠some x.1
section
variable {w0 w w':World} {R:Nat} {K:List (Nat × Obj)} {s:Wrt} {v:Value} {es:List Int}
theorem Wre.start (h:Wri w0 w R K s):Wre w0 w R K s (qs) []:=⟨[],Or.inl ⟨rfl,rfl,rfl⟩,h,fun x _ e=>by simp [Value.ownBlock] at e⟩
theorem Wre.own (h:Wre w0 w R K s v es):w.ownsRow w0.heap.size 3 1 v es.length (intV es):=by
 obtain ⟨E,hE,hw,_⟩:=h;refine ⟨by simp [intV],?_⟩
 rcases hE with ⟨h1,h2,_⟩ | ⟨g,cap,AC,hv,hE,hB,h3,h4,h5,h6⟩
 . exact Or.inl ⟨h2,by rw [h1];rfl⟩
 . subst hE
   exact Or.inr ⟨g,cap,AC,hv,hB,hw.head,h3,h4,h5,h6⟩
theorem Wre.form (h:Wre w0 w R K s v es):∃ a cap,v = .slice a es.length cap/\es.length<=cap/\cap<=maxLen:=zag h.own
theorem Wre.wri (h:Wre w0 w R K s v es):Wri w0 w R K s:=by
 obtain ⟨E,_,hw,_⟩:=h;exact hw.sub (fun x hx=>vcb _ hx)
theorem Wre.later (h:Wre w0 w R K s v es) (hb:qb w w'):Wre w0 w' R K s v es:=by
 obtain ⟨E,hE,hw,hx⟩:=h;exact ⟨E,hE,hw.later hb,hx⟩
theorem Wre.alloc (h:Wre w0 w R K s v es) (o:Obj):Wre w0 (w.alloc o) R K s v es:=h.later ((Below.refl _ _).alloc (vaa _) o)
theorem Wre.box (h:Wre w0 w R K s v es) (o:Obj):Wre w0 (w.alloc o) R ((w.heap.size,o) :: K) s v es:=by
 have Ag:=h.own;obtain ⟨E,hE,hw,hx⟩:=h;refine ⟨E,hE,(hw.box o).sub (fun x hx=>?_),fun x hm=>?_⟩
 . rcases vcd.1 hx with h1 | h1
   . exact vaj _ (vdo _ h1)
   . rcases vby.1 h1 with rfl | h1
     . exact vap ..
     . exact vaj _ (vcb _ h1)
 . rcases vby.1 hm with rfl | hm
   . intro e
     have:=(Ag.lt _ e).2;simp only at this;omega
   . exact hx x hm
theorem Wre.tail {x:Nat × Obj} (h:Wre w0 w R (x :: K) s v es):Wre w0 w R K s v es:=by
 obtain ⟨E,hE,hw,hx⟩:=h;refine ⟨E,hE,hw.sub (fun y hy=>?_),fun y hy=>hx y (vaj _ hy)⟩
 rcases vcd.1 hy with h1 | h1
 . exact vdo _ h1
 . exact vcb _ (vaj _ h1)
theorem Wre.call {P:Program} {f:FuncId} {args:Array Value} {s':Wrt} (h:Wre w0 w R K s v es) (hc:∀ K',Wri w0 w R K' s->Calls P f args w fun e w'=>e = .returned (.tuple #[])/\Wri w0 w' R K' s') :
 Calls P f args w fun e w'=>e = .returned (.tuple #[])/\Wre w0 w' R K s' v es:=by
 obtain ⟨E,hE,hw,hx⟩:=h;exact (hc _ hw).mono (fun e w' h=>⟨h.1,E,hE,h.2,hx⟩)
theorem Wre.onto {x:Int} {g cap:Nat} (h:Wre w0 w R K s v es) (ho:Onto w w' w0.heap.size 3 1 v es.length g cap (intV es++[qi x])) :
 Wre w0 w' R K s (.slice (some (qa g 0)) (es.length+1) cap) (es++[x]):=by
 have Ag:=h.own;obtain ⟨E,hE,⟨hl,cv,fv,hw⟩,hx⟩:=h
 have hv:∀ k,v.ownBlock=some k->k≠R/\cv.ownBlock≠some k/\fv.ownBlock≠some k:=fun k hk=>by
  rcases hE with ⟨_,h2,_⟩ | ⟨g',cap',AC,hv,hE,_⟩
  . rw [h2] at hk;simp [Value.ownBlock] at hk
  . subst hE
    rw [hv] at hk;simp only [Value.ownBlock,vbf] at hk;subst hk;obtain ⟨_,h2,h3,h4⟩:=hw.kp (g',.cells AC 3) (vdo _ (vap ..));exact ⟨h2,h3,h4⟩
 have Fl:∀ k,k<w.heap.size->v.ownBlock≠some k->g≠k:=fun k hk Aj e=>by
  rcases ho.at_ with h1 | h1
  . exact Aj (by rw [h1,e])
  . omega
 rcases ho.own.2 with ⟨h1,_⟩ | ⟨g',cap',AC,DU,hB,hg,h3,h4,h5,h6⟩
 . cases h1
 cases DU
 have KP:∀ k,cv.ownBlock=some k->v.ownBlock≠some k:=fun k h1 h2=>(hv k h2).2.1 h1
 have Oo:∀ k,fv.ownBlock=some k->v.ownBlock≠some k:=fun k h1 h2=>(hv k h2).2.2 h1
 have keep:∀ k,k<w.heap.size->v.ownBlock≠some k->w'.heap[k]? = w.heap[k]?:=fun k hk Aj=>
  (ho.old k _ (vbq hk) Aj).trans (vbq hk).symm
 refine ⟨[(g,.cells AC 3)],Or.inr ⟨g,cap,AC,by rw [vak];rfl,rfl,hB,by rw [vak];exact h3,h4,h5,by rw [vak,zql];exact h6⟩,⟨hl,cv,fv,?_⟩,fun y hy e=>?_⟩
 . exact {
    blk:=(keep R hw.ltR (fun e=>(hv R e).1 rfl)).trans hw.blk
    hR:=hw.hR
    code:=zaf hw.code (fun k hk=>keep k (hw.code.lt k hk).2 (KP k hk))
    fix:=zaf hw.fix (fun k hk=>keep k (hw.fix.lt k hk).2 (Oo k hk))
    apt:=hw.apt
    nc:=hw.nc
    nf:=hw.nf
    below:=hw.below.trans ho.below
    kp :=fun y hy=>by
     rcases vcd.1 hy with h7 | h7
     . rw [vcc] at h7
       subst h7;refine ⟨hg,Fl R hw.ltR (fun e=>(hv R e).1 rfl),fun e=>?_,fun e=>?_⟩
       . exact Fl g (hw.code.lt g e).2 (KP g e) rfl
       . exact Fl g (hw.fix.lt g e).2 (Oo g e) rfl
     . obtain ⟨k1,k2,k3,k4⟩:=hw.kp y (vcb _ h7)
       exact ⟨ho.old _ _ k1 (hx y h7),k2,k3,k4⟩}
 . have k1:=(hw.kp y (vcb _ hy)).1
   simp only [Value.ownBlock,vbf] at e;exact Fl y.1 (lt_of_heap k1) (hx y hy) e
end
set_option maxHeartbeats 3200000
theorem zfe (l:List ByteArray) (x:ByteArray) (a:OA) (cap:Nat) (w:World) (h:DAt w Tt a l.length (zaw l)) :
 qc 76 #[.slice a l.length cap,.string x] w fun e w'=>e = .returned (.bool (Go.Lib.containsS l x))/\w'=w:=by
 have hb:=h.bound
 rcases (zc9 h).1 with rfl | ⟨b,off,rfl,_,hc⟩
 . have:Go.Lib.containsS [] x=false:=by
    cases hq:Go.Lib.containsS [] x with
    | false=>rfl
    | true=>have:=(Go.Lib.containsS_iff [] x).1 hq;simp at this
   rw [this];exact Tryz.slices_Contains_string_empty a cap x w
 . have:=Tryz.slices_Contains_string b off l.length cap l x w (vaa _) (by omega) (fun j hj=>by rw [hc j hj];simp [vav,hj])
   rw [vat] at this;exact this
def zit (w:World) (u:Un) (e:Ending) (w':World):Prop:=
 match zvs u with
 | .error c=>e = .returned (.tuple #[.agg #[.string ⟨#[]⟩,.slice none 0 0,.int .i64 0,.slice none 0 0,.slice none 0 0,.slice none 0 0,.int .i64 0],.int .i64 c])
 | .ok o=>∃ ua uc ca cc fa fc ea ec,e = .returned (.tuple #[.agg #[.string o.name,.slice ua o.uses.length uc,.int .i64 o.data,.slice ca o.code.length cc,.slice fa o.fixes.length fc,.slice ea o.entries.length ec,.int .i64 o.main],.int .i64 0])/\
  w'.ownsRow w.heap.size 9 1 (.slice ua o.uses.length uc) o.uses.length (strV o.uses)/\w'.ownsRow w.heap.size 69 3 (.slice ca o.code.length cc) o.code.length (zdl o.code)/\
  w'.ownsRow w.heap.size 67 3 (.slice fa o.fixes.length fc) o.fixes.length (z15 o.fixes)/\w'.ownsRow w.heap.size 3 1 (.slice ea o.entries.length ec) o.entries.length (intV o.entries)
theorem zze {B:Nat} {w w':World} {b:Nat} (h:Below B w w') (hb:B<=b) (v0 v1 v2 v3 v4 v5 v6:Value) :
 Below B w (((((((w'.setCell (qa b 0) v0).setCell (qa b 1) v1).setCell (qa b 2) v2).setCell (qa b 3) v3).setCell (qa b 4) v4).setCell (qa b 5) v5).setCell (qa b 6) v6):=
 (((((((h.setCell (p:=(qa b 0)) hb v0).setCell (p:=(qa b 1)) hb v1).setCell (p:=(qa b 2)) hb v2).setCell (p:=(qa b 3)) hb v3).setCell (p:=(qa b 4)) hb v4).setCell (p:=(qa b 5)) hb v5).setCell (p:=(qa b 6)) hb v6)
theorem z18 (u:Un) (x1:OA) (y1:Nat) (x2:OA) (y2:Nat) (x3:OA) (y3:Nat) (w:World) (hU:UvAt w u x1 y1 x2 y2 x3 y3) (hc:(Go.Lib.containsS u.uses u.name || !zen u zic zhw)=true) :
 qc 31 #[.agg #[.string u.name,.slice x1 u.uses.length y1,qi u.data,.slice x2 u.parts.length y2,.slice x3 u.main.length y3]] w fun e w'=>zit w u e w'/\qb w w':=by
 have HG:Hid (zvs u = .error 1):=if_pos hc;have Ad:Hid (qb w ((w.alloc (kzC u.name x1 u.uses.length y1 u.data x2 u.parts.length y2 x3 u.main.length y3)).alloc (kzD ⟨#[]⟩ none 0 0 0 none 0 0 none 0 0 none 0 0 0))):=((Below.refl _ _).alloc (vaa _) _).alloc (by simp) _;have HC:=hid (zfe u.uses u.name x1 y1 _ (hU.later Ad.out).uses);have HH:=hid (zqk u x1 y1 x2 y2 x3 y3 _ (hU.later Ad.out));have A5:=hU.uses.bound
 cases hq:Go.Lib.containsS u.uses u.name with
 | true=>
   rw [hq] at HC;clear hc hU HH hq;go_enter Tryz.func31,Tryz.ntmps31;go_wp2_with fail;refine HC.out.mono ?_;rintro e w' ⟨rfl,rfl⟩;go_wp2_with fail;refine bodyPost_ret (v:=.tuple #[.agg #[.string ⟨#[]⟩,qs,qi 0,qs,qs,qs,qi 0],qi 1]) (by simp [results,Tryz.results31,go_sem]) rfl ⟨by unfold zit;rw [HG.out],?_⟩;exact Ad.out
 | false=>
   rw [hq] at HC hc
   have hh:zen u zic zhw=false:=by simpa using hc
   rw [hh] at HH;clear hc hU hq hh;go_enter Tryz.func31,Tryz.ntmps31;go_wp2_with fail;refine HC.out.mono ?_;rintro e w' ⟨rfl,rfl⟩;go_wp2_with fail;refine HH.out.mono ?_;rintro e w3 ⟨rfl,A9⟩;have Af:=hid (thenB Ad.out A9)
   have hk:w3.heap[w.heap.size+1]? = some (kzD ⟨#[]⟩ none 0 0 0 none 0 0 none 0 0 none 0 0 0):=by
    have h1:=heap_newP (w.alloc (kzC u.name x1 u.uses.length y1 u.data x2 u.parts.length y2 x3 u.main.length y3)) (kzD ⟨#[]⟩ none 0 0 0 none 0 0 none 0 0 none 0 0 0);rw [vck] at h1;exact (A9.block (w.heap.size+1) (by simp)).trans h1
   obtain ⟨q0,q1,q2,q3,q4,q5,q6,qz⟩:=zaj hk;have A0:=lt_of_heap hk
   have hf:∀ j,w3.frozen? ⟨w.heap.size+1,j,none⟩=false:=fun j=>veq hk j
   clear A9 hk;go_wp2_with fail;refine bodyPost_ret (v:=.tuple #[.agg #[.string ⟨#[]⟩,qs,qi 0,qs,qs,qs,qi 0],qi 1]) (by simp [results,Tryz.results31,go_sem,q0,q1,q2,q3,q4,q5,q6,A0]) rfl ⟨by unfold zit;rw [HG.out],?_⟩;exact zze Af.out (by omega) _ _ _ _ _ _ _
set_option maxHeartbeats 6400000
theorem Tryz.infoInt:(Tryz.prog.info? 3).map (fun i=>(i.zero,i.size,i.bytes))=some (some (qi 0),1,8):=by kernel_rfl
theorem Wri.new {w0 w:World} {K:List (Nat × Obj)} (hb:qb w0 w) (hK:∀ x ∈ K,w.heap[x.1]? = some x.2):Wri w0 (w.alloc (.cells #[qs,qs] 136)) w.heap.size K wr0:=
 ⟨vaa _,_,_,{
  blk:=heap_newP _ _
  hR:=hb.size
  code:=ver _ _ _ _
  fix:=ver _ _ _ _
  apt:=Apt.nil _
  nc:=fun e=>by simp [Value.ownBlock] at e
  nf:=fun e=>by simp [Value.ownBlock] at e
  below:=hb.alloc hb.size _
  kp:=fun x hx=>⟨zab (hK x hx),fun e=>by have:=lt_of_heap (hK x hx);omega,fun e=>by simp [Value.ownBlock] at e,fun e=>by simp [Value.ownBlock] at e⟩}⟩
theorem zid {u:Un} (h:zda u=true):u.uses.length<=3:=by
 unfold zda at h;rw [vab] at h;exact (zex (zoa (of_decide_eq_true h.1))).1
theorem z69 {W:World} {B:Nat} {e:TypeId} {sz:Nat} {v:Value} {n:Nat} {xs:List Value} {b:Nat} (h:W.ownsRow B e sz v n xs) (hb:v.ownBlock≠some b) (v0 v1 v2 v3 v4 v5 v6:Value) :
 (((((((W.setCell (qa b 0) v0).setCell (qa b 1) v1).setCell (qa b 2) v2).setCell (qa b 3) v3).setCell (qa b 4) v4).setCell (qa b 5) v5).setCell (qa b 6) v6).ownsRow B e sz v n xs:=by
 refine zaf h (fun k hk=>?_)
 have Aj:k≠b:=fun e=>hb (by rw [hk,e])
 rw [heap_set_ne (p:=(qa b 6)) Aj,heap_set_ne (p:=(qa b 5)) Aj,heap_set_ne (p:=(qa b 4)) Aj,heap_set_ne (p:=(qa b 3)) Aj,heap_set_ne (p:=(qa b 2)) Aj,heap_set_ne (p:=(qa b 1)) Aj,heap_set_ne (p:=(qa b 0)) Aj]
theorem zoq {W:World} {B B':Nat} {e:TypeId} {sz:Nat} {v:Value} {n:Nat} {xs:List Value} (h:W.ownsRow B e sz v n xs) (hb:B'<=B):W.ownsRow B' e sz v n xs:=by
 refine ⟨h.1,?_⟩
 rcases h.2 with h1 | ⟨g,cap,AC,hv,hB,hr⟩
 . exact Or.inl h1
 . exact Or.inr ⟨g,cap,AC,hv,vbd hb hB,hr⟩
theorem Wre.has {w0 w:World} {R:Nat} {K:List (Nat × Obj)} {s:Wrt} {v:Value} {es:List Int} (h:Wre w0 w R K s v es) {b:Nat} {o:Obj} (hx:(b,o) ∈ K):w.heap[b]? = some o:=h.wri.has hx
theorem z6x (u:Un) (x1:OA) (y1:Nat) (x2:OA) (y2:Nat) (x3:OA) (y3:Nat) (w:World) (hU:UvAt w u x1 y1 x2 y2 x3 y3) (hc:Go.Lib.containsS u.uses u.name=false) (hh:zen u zic zhw=true) :
 qc 31 #[.agg #[.string u.name,.slice x1 u.uses.length y1,qi u.data,.slice x2 u.parts.length y2,.slice x3 u.main.length y3]] w fun e w'=>zit w u e w'/\qb w w':=by
 have Ad:Hid (qb w ((w.alloc (kzC u.name x1 u.uses.length y1 u.data x2 u.parts.length y2 x3 u.main.length y3)).alloc (kzD ⟨#[]⟩ none 0 0 0 none 0 0 none 0 0 none 0 0 0))):=((Below.refl _ _).alloc (vaa _) _).alloc (by simp) _;have HC:=hid (zfe u.uses u.name x1 y1 _ (hU.later Ad.out).uses);have HH:=hid (zqk u x1 y1 x2 y2 x3 y3 _ (hU.later Ad.out));have A5:=hU.uses.bound;have Tj:=hU.parts.bound;have HU:=hid hU;have HL:=hid (fun j hj=>zk5 hh j hj);have HP:=hid (zbs hh);have h6:=zht HP.out.2.2;have KB:u.uses.length<=3:=zid HP.out.2.2;have HE:=hid (zso hh)
 have FL:Hid (¬ (Go.Lib.containsS u.uses u.name || !zen u zic zhw)=true):=by show ¬ _;rw [hc,hh];decide
 rw [hc] at HC;rw [hh] at HH;clear hc hh hU;go_enter Tryz.func31,Tryz.ntmps31;go_wp2_with fail;refine HC.out.mono ?_;rintro e w' ⟨rfl,rfl⟩;go_wp2_with fail;refine HH.out.mono ?_;rintro e w3 ⟨rfl,A9⟩
 have HK:Hid (∀ x ∈ [(w.heap.size,(kzC u.name x1 u.uses.length y1 u.data x2 u.parts.length y2 x3 u.main.length y3)),(w.heap.size+1,(kzD ⟨#[]⟩ none 0 0 0 none 0 0 none 0 0 none 0 0 0))],w3.heap[x.1]? = some x.2):=fun x hx=>by
  have h1:=heap_newP (w.alloc (kzC u.name x1 u.uses.length y1 u.data x2 u.parts.length y2 x3 u.main.length y3)) (kzD ⟨#[]⟩ none 0 0 0 none 0 0 none 0 0 none 0 0 0);rw [vck] at h1;have h2:((w.alloc (kzC u.name x1 u.uses.length y1 u.data x2 u.parts.length y2 x3 u.main.length y3)).alloc (kzD ⟨#[]⟩ none 0 0 0 none 0 0 none 0 0 none 0 0 0)).heap[w.heap.size]? = some (kzC u.name x1 u.uses.length y1 u.data x2 u.parts.length y2 x3 u.main.length y3):=zab (heap_newP w (kzC u.name x1 u.uses.length y1 u.data x2 u.parts.length y2 x3 u.main.length y3))
  rcases vby.1 hx with rfl | hx
  . exact (A9.block w.heap.size (by simp;omega)).trans h2
  . rw [vcc] at hx
    subst hx;exact (A9.block (w.heap.size+1) (by simp)).trans h1
 have HW:=hid (Wri.new (thenB Ad.out A9) HK.out);obtain ⟨u0,u1,u2,u3,u4,uf⟩:=zaa (HK.out (w.heap.size,(kzC u.name x1 u.uses.length y1 u.data x2 u.parts.length y2 x3 u.main.length y3)) (vap ..));have Qf:=lt_of_heap (HK.out (w.heap.size,(kzC u.name x1 u.uses.length y1 u.data x2 u.parts.length y2 x3 u.main.length y3)) (vap ..));clear A9;go_wp2_with fail;clear u0 u1 u2 u3 u4 uf Qf;generalize hR:w3.heap.size=R at *;generalize PU:w3.alloc (.cells #[qs,qs] 136)=w4 at *
 go_loopw [5,28] (fun v i wr=>∃ j:Nat,j<=u.parts.length/\i=qi j/\Wre w wr R [(w.heap.size,(kzC u.name x1 u.uses.length y1 u.data x2 u.parts.length y2 x3 u.main.length y3)),(w.heap.size+1,(kzD ⟨#[]⟩ none 0 0 0 none 0 0 none 0 0 none 0 0 0))] (zbv (u.parts.take j)) v (zis u.parts j)) (fun _ i _=>u.parts.length - (intOf i).toNat)
 case atStart=>exact ⟨0,vae _,rfl,Wre.start HW.out⟩
 case round=>
  obtain ⟨j,hj,rfl,hw⟩:=hrel;have H1:=hid hw;obtain ⟨ea,ec,rfl, -, -⟩:=hw.form;rw [zdb] at *;clear hw
  by_cases A0:j<u.parts.length
  . obtain ⟨b,off,pa,pc,rfl,hx⟩:=HU.out.parts.pt j A0
    have hB:=H1.out.wri.below;have Au:b<wr.heap.size:=vah hx.lt hB.size;have z0:=(hB.cell (p:=⟨b,off+j*3,none⟩) hx.lt).trans hx.c0;have z1:=(hB.cell (p:=⟨b,off+j*3+1,none⟩) hx.lt).trans hx.c1;have z2:=(hB.cell (p:=⟨b,off+j*3+2,none⟩) hx.lt).trans hx.c2;have HA:=hid hx.body';have HT:=hid (zg0 u.parts j A0);have HQ:=hid (HP.out.1 _ (vag A0));have HS:=hid (HL.out (j+1) (by omega));have TU:=hid (HL.out j hj);rw [HT.out] at HS;clear hx hB;generalize u.parts[j]=p at *;have HB:=hid (H1.out.box (kzL p.params p.locals pa p.body.length pc));have Gp:=hid HB.out.own;rw [zdb] at Gp;go_wp2_with fail;refine (zge HB.out.wri).mono ?_;rintro e w5 ⟨rfl,rfl⟩
    go_wp2_with (at_builtin;refine zeg rfl (.tmp 32) (.tmp 35) 49 rfl w.heap.size 3 _ 1 8 Tryz.underlying49 Tryz.infoInt rfl (by decide) (wr.alloc (kzL p.params p.locals pa p.body.length pc)) (.slice ea j ec) j (intV (zis u.parts j)) rfl Gp.out #[qi (zbv (u.parts.take j)).code.length] (wr.heap.size+1) (by simp) rfl rfl (by simp;rfl) (by omega) (by decide) HB.out.wri.below.size _ rfl ?_;intro g5 c5 w5 ho;have HO:=hid (HB.out.onto (x:=((zbv (u.parts.take j)).code.length:Int)) (by rw [zdb];exact ho));rw [zdb,← zsn] at HO;obtain ⟨q0,q1,q2, -⟩:=zef (HO.out.has (vap ..));clear ho)
    refine (HO.out.call (fun K' h=>zqj (cap:=pc) HQ.out HA.out h (by have:=HS.out;omega))).mono ?_;rintro e w6 ⟨rfl,h6'⟩;have H6:=hid h6';clear h6' q0 q1 q2;go_wp2_with fail;go_roundw
    case rel=>exact ⟨j+1,by omega,by go_num,by rw [HT.out];exact H6.out.tail⟩
    case measure=>simp [intOf];omega
  . obtain rfl:j=u.parts.length:=by omega
    rw [vat] at H1;have BN:=hid (HL.out _ (vaa _));rw [vat] at BN;obtain ⟨u0,u1,u2,u3,u4,uf⟩:=zaa (H1.out.has (vap ..));go_wp2_with fail;refine (zge H1.out.wri).mono ?_;rintro e w5 ⟨rfl,rfl⟩;go_wp2_with fail;refine (H1.out.call (fun K' h=>zqj (p:=⟨0,0,u.main⟩) (cap:=y3) HP.out.2.1 HU.out.main h (by have:=HE.out;unfold genS at this;omega))).mono ?_;rintro e w6 ⟨rfl,h6'⟩;have H6:Hid (Wre w w6 R [(w.heap.size,(kzC u.name x1 u.uses.length y1 u.data x2 u.parts.length y2 x3 u.main.length y3)),(w.heap.size+1,(kzD ⟨#[]⟩ none 0 0 0 none 0 0 none 0 0 none 0 0 0))] (genS u) (.slice ea u.parts.length ec) (zis u.parts u.parts.length)):=h6';clear h6' u0 u1 u2 u3 u4 uf;go_wp2_with fail;refine (zmz H6.out.wri).mono ?_
    cases hf:zgz (genS u) with
    | true=>
      rintro e w7 ⟨rfl,rfl⟩
      have HG:Hid (zvs u = .error 2):=by show _=_;unfold zvs;rw [if_neg FL.out,if_pos hf]
      have hk:=H6.out.has (b:=w.heap.size+1) (vaj _ (vap ..));obtain ⟨q0,q1,q2,q3,q4,q5,q6,qz⟩:=zaj hk;have CM:=lt_of_heap hk
      have CS:∀ j,w7.frozen? ⟨w.heap.size+1,j,none⟩=false:=fun j=>veq hk j
      have Cb:=hid H6.out.wri.below;clear hk hf;go_wp2_with fail;refine bodyPost_ret (v:=.tuple #[.agg #[.string ⟨#[]⟩,qs,qi 0,qs,qs,qs,qi 0],qi 2]) (by simp [results,Tryz.results31,go_sem,q0,q1,q2,q3,q4,q5,q6,CM]) rfl ⟨by unfold zit;rw [HG.out],?_⟩;exact zze Cb.out (by omega) _ _ _ _ _ _ _
    | false=>
      rintro e w7 ⟨rfl,rfl⟩
      have HG:Hid (zvs u = .ok (zop u)):=by show _=_;unfold zvs;rw [if_neg FL.out,if_neg (by rw [hf];decide)]
      obtain ⟨u0,u1,u2,u3,u4,uf⟩:=zaa (H6.out.has (vap ..));have EV:=lt_of_heap (H6.out.has (vap ..));have Id:=H6.out.has (b:=w.heap.size+1) (vaj _ (vap ..));obtain ⟨v',w8,hr8,ho8,hg8⟩:=zb3 w7.heap.size 22 (qs) 0 [] (ver _ _ _ _) u.uses x1 y1 (zc9 (HU.out.later H6.out.wri.below).uses).1 (by omega) (vaa _);rw [vax,veg] at ho8;have AR:qb w7 w8:=(Below.refl _ w7).grown hg8 (vaa _) (fun k hk=>by simp [Value.ownBlock] at hk);have Iv:=hid ho8;have Cu:=hid hr8;have QZ:=H6.out.later AR;obtain ⟨E,hE,⟨Eg,cv,fv,hA⟩,hxx⟩:=QZ;have MA:=(H6.out.later AR).own;rw [zdb] at MA
      have EC:=(hA.kp (w.heap.size+1,(kzD ⟨#[]⟩ none 0 0 0 none 0 0 none 0 0 none 0 0 0)) (vcb _ (vaj _ (vap ..))))
      have Gu:=(hA.kp (w.heap.size,(kzC u.name x1 u.uses.length y1 u.data x2 u.parts.length y2 x3 u.main.length y3)) (vcb _ (vap ..))).1;have Na:=hid (hxx (w.heap.size+1,(kzD ⟨#[]⟩ none 0 0 0 none 0 0 none 0 0 none 0 0 0)) (vaj _ (vap ..)))
      have FK:Hid (v'.ownBlock≠some (w.heap.size+1)):=fun e=>by
       have h1:=(Iv.out.lt _ e).1;have h2:=lt_of_heap Id;omega
      have FR:=hid hA;have ID:=hid MA;have P5:=hid EC;obtain ⟨ua,uc,rfl, -⟩:=zhm ho8;obtain ⟨ca,cc,rfl, -, -⟩:=zag hA.code;obtain ⟨fa,fc,rfl, -, -⟩:=zag hA.fix;obtain ⟨c0,c1, -⟩:=FR.out.cells;have Bk:=FR.out.ltR;obtain ⟨q0,q1,q2,q3,q4,q5,q6,qz⟩:=zaj EC.1
      have CS:∀ j,w8.frozen? ⟨w.heap.size+1,j,none⟩=false:=fun j=>veq EC.1 j
      have CN:=lt_of_heap EC.1;clear AR ho8 hg8 hr8 hf hE Eg hA hxx MA Id EC
      go_wp2_with (at_builtin;refine Lib.wpList_append_run _ rfl _ _ _ _ rfl _ _ rfl rfl _ w8 Cu.out ?_)
      clear u0 u1 u2 u3 u4 uf EV;obtain ⟨u0,u1,u2,u3,u4,uf⟩:=zaa Gu;have EV:=lt_of_heap Gu;clear Gu;have RV:Hid (w.heap.size<=w7.heap.size):=H6.out.wri.below.size
      go_region
      go_wp2_with fail;refine bodyPost_ret (v:=.tuple #[.agg #[.string u.name,.slice ua u.uses.length uc,qi u.data,.slice ca (genS u).code.length cc,.slice fa (genS u).fixes.length fc,.slice ea u.parts.length ec,qi (zbv u.parts).code.length],qi 0]) (by simp [results,Tryz.results31,go_sem,q0,q1,q2,q3,q4,q5,q6,CN]) rfl ⟨?_,?_⟩
      . unfold zit
        rw [HG.out];have Ei:(zop u).entries.length=u.parts.length:=zdb ..;refine ⟨ua,uc,ca,cc,fa,fc,ea,ec,by rw [Ei];rfl,?_,?_,?_,?_⟩
        . exact (zoq (z69 Iv.out FK.out _ _ _ _ _ _ _) RV.out).drew
        . exact (z69 FR.out.code P5.out.2.2.1 _ _ _ _ _ _ _).drew
        . exact (z69 FR.out.fix P5.out.2.2.2 _ _ _ _ _ _ _).drew
        . rw [Ei]
          exact (z69 ID.out Na.out _ _ _ _ _ _ _).drew
      . exact (zze FR.out.below (by omega) _ _ _ _ _ _ _).drew
theorem z43 (u:Un) (x1:OA) (y1:Nat) (x2:OA) (y2:Nat) (x3:OA) (y3:Nat) (w:World) (hU:UvAt w u x1 y1 x2 y2 x3 y3) :
 qc 31 #[.agg #[.string u.name,.slice x1 u.uses.length y1,qi u.data,.slice x2 u.parts.length y2,.slice x3 u.main.length y3]] w fun e w'=>zit w u e w'/\qb w w':=by
 by_cases hc:(Go.Lib.containsS u.uses u.name || !zen u zic zhw)=true
 . exact z18 u x1 y1 x2 y2 x3 y3 w hU hc
 . simp only [vcs,vas] at hc
   exact z6x u x1 y1 x2 y2 x3 y3 w hU hc.1 (by simpa using hc.2)
def Gi.ds (i:Gi):List D:=[.int i.op,.int i.a,.int i.b]
def zvt (l:List Gi):List D:=l.flatMap Gi.ds
def Gf.ds (f:Gf):List D:=[.int f.at_,.int f.kind,.int f.m]
def z19 (l:List Gf):List D:=l.flatMap Gf.ds
def zfm (l:List Int):List D:=l.map D.int
def Ob.ds (o:Ob):List D:=[.str o.name,.list o.uses.length (zaw o.uses),.int o.data,.list o.code.length (zvt o.code),.list o.fixes.length (z19 o.fixes),.list o.entries.length (zfm o.entries),.int o.main]
structure OvAt (w:World) (o:Ob) (x1:OA) (x3:OA) (x4:OA) (x5:OA):Prop where
 wn:o.name.size<=maxLen
 uses:DAt w Tt x1 o.uses.length (zaw o.uses)
 wd:(Lit.int .i64 o.data).wf=true
 code:DAt w Tt x3 o.code.length (zvt o.code)
 fixes:DAt w Tt x4 o.fixes.length (z19 o.fixes)
 entries:DAt w Tt x5 o.entries.length (zfm o.entries)
 wm:(Lit.int .i64 o.main).wf=true
theorem OvAt.later {w w':World} {o:Ob} {x1 x3 x4 x5:OA} (h:OvAt w o x1 x3 x4 x5) (hb:qb w w'):OvAt w' o x1 x3 x4 x5:=
 ⟨h.wn,h.uses.later hb,h.wd,h.code.later hb,h.fixes.later hb,h.entries.later hb,h.wm⟩
def zfn (o:Ob):Bool:=decide (3<o.uses.length)||(decide (6<o.entries.length)||(decide (o.code.length<1)||decide (2048<o.code.length)))
def zbk (o:Ob) (x:Int):Bool:=decide (0<=x/\x<o.code.length)
theorem zqm (s:ByteArray) (w:World) (hs:s.size<=maxLen) :
 qc 131 #[.string s] w fun e w'=>e = .returned (.bool (Lx.zbt s.data.toList))/\qb w w':=by
 have HK:Hid ((zcs [⟨1,0,s⟩] == 0)=Lx.zbt s.data.toList):=by rw [← ztm];exact zml ⟨1,0,s⟩ rfl
 have HC:Hid (∀ (w1:World) (n:Nat),n=w1.heap.size->qc 116 #[.slice (some (qa n 0)) 1 1] (w1.alloc (.cells #[qi 1,qi 0,.string s] 184)) fun e w'=>e = .returned (qi (zcs [⟨1,0,s⟩]))/\qb w1 w'):=
  fun w1 n hn=>by
   subst hn;refine (Check_any _ 1 [⟨1,0,s⟩] _ (zx7 ⟨1,0,s⟩ w1 hs) (by simp)).mono ?_;rintro e w' ⟨rfl,hb⟩;exact ⟨rfl,((Below.refl _ _).alloc (vaa _) _).trans (hb.mono (by simp))⟩
 go_enter Tryz.func131,Tryz.ntmps131
 go_wp2_with (go_at_call 116;refine (HC.out _ _ (by simp)).mono ?_;rintro e w' ⟨rfl,hb⟩)
 go_ret;exact ⟨ret_bool HK.out,hb⟩
theorem zm4 (o:Ob) (s:ByteArray) (x1:OA) (n1 y1:Nat) (d:Int) (x3:OA) (y3:Nat) (x4:OA) (n4 y4:Nat) (x5:OA) (n5 y5:Nat) (m x:Int) (w:World) (hb:o.code.length<=17592186044416) :
 qc 132 #[.agg #[.string s,.slice x1 n1 y1,qi d,.slice x3 o.code.length y3,.slice x4 n4 y4,.slice x5 n5 y5,qi m],qi x] w fun e w'=>e = .returned (.bool (zbk o x))/\qb w w':=by
 by_cases t:0<=x
 . have HR:Hid (zbk o x=decide (x<o.code.length)):=by show _=_;unfold zbk;exact decide_eq_decide.2 ⟨fun h=>h.2,fun h=>⟨t,h⟩⟩
   go_enter Tryz.func132,Tryz.ntmps132;go_wp2_with fail;go_ret;exact ⟨ret_bool (by first | exact HR.out.symm | (rw [HR.out]<;>first | (simp;omega) | (simp [*];done))),al1 _ _⟩
 . have HR:Hid (zbk o x=false):=by show _=_;unfold zbk;exact decide_eq_false (fun h=>t h.1)
   have t':x<0:=by omega
   clear t;go_enter Tryz.func132,Tryz.ntmps132;go_wp2_with fail;go_ret;exact ⟨ret_bool (by first | exact HR.out.symm | (rw [HR.out]<;>first | (simp;omega) | (simp [*];done))),al1 _ _⟩
theorem zzf (o:Ob) (s:ByteArray) (x1:OA) (y1:Nat) (d:Int) (x3:OA) (y3:Nat) (x4:OA) (n4 y4:Nat) (x5:OA) (y5:Nat) (m:Int) (w:World) (h1:o.uses.length<=17592186044416) (h3:o.code.length<=17592186044416) (h5:o.entries.length<=17592186044416) :
 qc 81 #[.agg #[.string s,.slice x1 o.uses.length y1,qi d,.slice x3 o.code.length y3,.slice x4 n4 y4,.slice x5 o.entries.length y5,qi m]] w fun e w'=>e = .returned (.bool (zfn o))/\qb w w':=by
 have HR:Hid (zfn o=(decide (3<o.uses.length)||(decide (6<o.entries.length)||(decide (o.code.length<1)||decide (2048<o.code.length))))):=rfl
 by_cases t1:3<o.uses.length
 . have HT:Hid (zfn o=true):=by show _=_;rw [HR.out,decide_eq_true t1];rfl
   have CV:(3:Int)<o.uses.length:=by omega
   go_enter Tryz.func81,Tryz.ntmps81;go_wp2_with fail;go_ret;exact ⟨ret_bool (by first | exact HT.out.symm | (rw [HT.out]<;>first | (simp;omega) | (simp [*];done))),al1 _ _⟩
 by_cases t2:6<o.entries.length
 . have HT:Hid (zfn o=true):=by show _=_;rw [HR.out,decide_eq_true t2,decide_eq_false t1];rfl
   have CV:¬ (3:Int)<o.uses.length:=by omega
   have Dr:(6:Int)<o.entries.length:=by omega
   go_enter Tryz.func81,Tryz.ntmps81;go_wp2_with fail;go_ret;exact ⟨ret_bool (by first | exact HT.out.symm | (rw [HT.out]<;>first | (simp;omega) | (simp [*];done))),al1 _ _⟩
 have CV:¬ (3:Int)<o.uses.length:=by omega
 have Dr:¬ (6:Int)<o.entries.length:=by omega
 by_cases t3:o.code.length<1
 . have HT:Hid (zfn o=true):=by show _=_;rw [HR.out,decide_eq_true t3,decide_eq_false t1,decide_eq_false t2];rfl
   have Kz:(o.code.length:Int)<1:=by omega
   clear t3;go_enter Tryz.func81,Tryz.ntmps81;go_wp2_with fail;go_ret;exact ⟨ret_bool (by first | exact HT.out.symm | (rw [HT.out]<;>first | (simp;omega) | (simp [*];done))),al1 _ _⟩
 . have HT:Hid (zfn o=decide (2048<o.code.length)):=by show _=_;rw [HR.out,decide_eq_false t3,decide_eq_false t1,decide_eq_false t2];rfl
   have Kz:¬ (o.code.length:Int)<1:=by omega
   clear t3;go_enter Tryz.func81,Tryz.ntmps81;go_wp2_with fail;go_ret;exact ⟨ret_bool (by first | exact HT.out.symm | (rw [HT.out]<;>first | (simp;omega) | (simp [*];done))),al1 _ _⟩
abbrev oC (o:Ob) (a:OA) (b:Nat) (c:OA) (e:Nat) (f:OA) (g:Nat) (h:OA) (i:Nat):Obj:=kzD o.name a o.uses.length b o.data c o.code.length e f o.fixes.length g h o.entries.length i o.main
structure GiAt (w:World) (b o:Nat) (x:Gi):Prop where
 lt:b<w.heap.size
 c0:w.cell? (qa b o)=some (qi x.op)
 c1:w.cell? ⟨b,o+1,none⟩=some (qi x.a)
 c2:w.cell? ⟨b,o+2,none⟩=some (qi x.b)
 w0:(Lit.int .i64 x.op).wf=true
 w1:(Lit.int .i64 x.a).wf=true
 w2:(Lit.int .i64 x.b).wf=true
theorem DAt.gi {w:World} {A:Nat->Prop} {a:OA} {l:List Gi} (h:DAt w A a l.length (zvt l)) (i:Nat) (hi:i<l.length):∃ b off,a=some (qa b off)/\GiAt w b (off+i*3) l[i]:=by
 obtain ⟨b,off,ha,hb,hc⟩:=h.cell (by omega);generalize hx:l[i]=x;obtain ⟨op,a',b'⟩:=x
 have g:∀ j d,j<3->(Gi.mk op a' b').ds[j]? = some d->∃ v,w.cell? ⟨b,off+i*3+j,none⟩=some v/\zcv w A d v:=fun j d hj hd=>by
  rw [vbm];exact hc (i*3+j) d ((zcc Gi.ds 3 (fun _=>rfl) l i hi j hj).trans (by rw [hx];exact hd))
 obtain ⟨v0,q0,d0⟩:=g 0 (.int op) (by omega) (by simp [Gi.ds]);obtain ⟨v1,q1,d1⟩:=g 1 (.int a') (by omega) (by simp [Gi.ds]);obtain ⟨v2,q2,d2⟩:=g 2 (.int b') (by omega) (by simp [Gi.ds]);obtain ⟨rfl,w0⟩:=zaz d0;obtain ⟨rfl,w1⟩:=zaz d1;obtain ⟨rfl,w2⟩:=zaz d2;exact ⟨b,off,ha,hb,q0,q1,q2,w0,w1,w2⟩
structure GfAt (w:World) (b o:Nat) (x:Gf):Prop where
 lt:b<w.heap.size
 c0:w.cell? (qa b o)=some (qi x.at_)
 c1:w.cell? ⟨b,o+1,none⟩=some (qi x.kind)
 c2:w.cell? ⟨b,o+2,none⟩=some (qi x.m)
 w0:(Lit.int .i64 x.at_).wf=true
 w1:(Lit.int .i64 x.kind).wf=true
 w2:(Lit.int .i64 x.m).wf=true
theorem DAt.gf {w:World} {A:Nat->Prop} {a:OA} {l:List Gf} (h:DAt w A a l.length (z19 l)) (i:Nat) (hi:i<l.length):∃ b off,a=some (qa b off)/\GfAt w b (off+i*3) l[i]:=by
 obtain ⟨b,off,ha,hb,hc⟩:=h.cell (by omega);generalize hx:l[i]=x;obtain ⟨op,a',b'⟩:=x
 have g:∀ j d,j<3->(Gf.mk op a' b').ds[j]? = some d->∃ v,w.cell? ⟨b,off+i*3+j,none⟩=some v/\zcv w A d v:=fun j d hj hd=>by
  rw [vbm];exact hc (i*3+j) d ((zcc Gf.ds 3 (fun _=>rfl) l i hi j hj).trans (by rw [hx];exact hd))
 obtain ⟨v0,q0,d0⟩:=g 0 (.int op) (by omega) (by simp [Gf.ds]);obtain ⟨v1,q1,d1⟩:=g 1 (.int a') (by omega) (by simp [Gf.ds]);obtain ⟨v2,q2,d2⟩:=g 2 (.int b') (by omega) (by simp [Gf.ds]);obtain ⟨rfl,w0⟩:=zaz d0;obtain ⟨rfl,w1⟩:=zaz d1;obtain ⟨rfl,w2⟩:=zaz d2;exact ⟨b,off,ha,hb,q0,q1,q2,w0,w1,w2⟩
theorem DAt.num {w:World} {A:Nat->Prop} {a:OA} {l:List Int} (h:DAt w A a l.length (zfm l)) (i:Nat) (hi:i<l.length):∃ b off,a=some (qa b off)/\b<w.heap.size/\w.cell? ⟨b,off+i,none⟩=some (qi l[i])/\(Lit.int .i64 l[i]).wf=true:=by
 obtain ⟨b,off,ha,hb,hc⟩:=h.cell (by omega);obtain ⟨v0,q0,d0⟩:=hc i (.int l[i]) (by simp [zfm,hi]);obtain ⟨rfl,w0⟩:=zaz d0;exact ⟨b,off,ha,hb,q0,w0⟩
def okF (a far m uses:Int):Bool:=decide (0<=a)&&(decide (a<=far)&&(decide (0<=m)&&decide (m<=uses)))
def aAt (o:Ob) (x:Int):Int:=match o.code[x.toNat]? with | some i=>i.a | none=>0
def zv0 (o:Ob) (f:Gf):Bool:=
 if f.kind=1 then okF (aAt o f.at_) o.code.length f.m 0
 else if f.kind=2\/f.kind=3 then okF (aAt o f.at_) 2048 f.m o.uses.length
 else false
def ze1 (n:Nat) (q:Nat->Bool):Bool:=(List.range n).all q
theorem zak {n:Nat} {q:Nat->Bool}:ze1 n q=true↔∀ i,i<n->q i=true:=by simp [ze1]
theorem za1 {n:Nat} {q:Nat->Bool} {i:Nat} (h:i<n) (hq:q i=false):ze1 n q=false:=by
 cases e:ze1 n q with
 | false=>rfl
 | true=>rw [zak.1 e i h] at hq;cases hq
theorem zbj {q:Nat->Bool} {j:Nat} (h:∀ k,k<j->q k=true) (hq:q j=true):∀ k,k<j+1->q k=true:=fun k hk=>by
 rcases vbi k j with h1 | h1
 . exact h k h1
 . obtain rfl:k=j:=by omega
   exact hq
theorem zor (a b:ByteArray):(a.toList == b.toList)=decide (a=b):=by
 rw [vcj];simp only [beq_iff_eq,decide_eq_true_eq]
 constructor
 . intro h
   rw [vbb,vbb] at h;exact zhn h
 . rintro rfl;rfl
def opB (i:Gi):Bool:=decide (1<=i.op/\i.op<=22)
def z2x (o:Ob) (j:Nat):Bool:=match o.code[j]? with | some i=>opB i | none=>true
def zk6 (o:Ob) (j:Nat):Bool:=match o.entries[j]? with | some x=>zbk o x | none=>true
def zos (o:Ob):Bool:=zbk o o.main&&decide (0<=o.data/\o.data<=512)
def zcp (o:Ob):Bool:=ze1 o.code.length (z2x o)&&(ze1 o.entries.length (zk6 o)&&zos o)
def zk7 (o:Ob) (i:Nat):Bool:=match o.uses[i]? with | some x=>Lx.zbt x.data.toList&&(!decide (x=o.name) && !Go.Lib.containsS (o.uses.take i) x) | none=>true
def zdi (o:Ob):Bool:=Lx.zbt o.name.data.toList&&ze1 o.uses.length (zk7 o)
def lastAt (o:Ob):Nat->Int
 | 0=>-1
 | j+1=>match o.fixes[j]? with | some f=>f.at_ | none=>-1
def zf3 (o:Ob) (j:Nat):Bool:=match o.fixes[j]? with | some f=>decide (lastAt o j<f.at_)&&(zbk o f.at_&&zv0 o f) | none=>true
def zdj (o:Ob):Bool:=ze1 o.fixes.length (zf3 o)
def oChk (o:Ob):Int:=if zfn o=true then 2 else if (zdi o&&(zcp o&&zdj o))=true then 0 else 1
set_option maxHeartbeats 3200000
theorem zuc (o:Ob):zcp o=(ze1 o.code.length (z2x o)&&(ze1 o.entries.length (zk6 o)&&zos o)):=rfl
theorem zot (o:Ob) (x1:OA) (y1:Nat) (x3:OA) (y3:Nat) (x4:OA) (y4:Nat) (x5:OA) (y5:Nat) (w:World) (hO:OvAt w o x1 x3 x4 x5) :
 qc 83 #[.agg #[.string o.name,.slice x1 o.uses.length y1,qi o.data,.slice x3 o.code.length y3,.slice x4 o.fixes.length y4,.slice x5 o.entries.length y5,qi o.main]] w fun e w'=>e = .returned (.bool (zcp o))/\qb w w':=by
 have A9:=hO.code.bound;have Aq:=hO.entries.bound;have HO:=hid hO;have HP:=hid (fun (x:Int) (W:World)=>zm4 o o.name x1 o.uses.length y1 o.data x3 y3 x4 o.fixes.length y4 x5 o.entries.length y5 o.main x W A9);clear hO;go_enter Tryz.func83,Tryz.ntmps83;go_wp2_with fail
 go_loopw [10] (fun i wr=>∃ j:Nat,j<=o.code.length/\i=qi j/\(∀ k,k<j->z2x o k=true)/\qb w wr/\wr.heap[w.heap.size]? = some (oC o x1 y1 x3 y3 x4 y4 x5 y5)) (fun i _=>o.code.length - (intOf i).toNat)
 case atStart=>exact ⟨0,vae _,rfl,fun k hk=>absurd hk (vbe k),al1 _ _,heap_newP w (oC o x1 y1 x3 y3 x4 y4 x5 y5)⟩
 case round=>
  obtain ⟨j,hj,rfl,A6,hb,hB⟩:=hrel;obtain ⟨q0,q1,q2,q3,q4,q5,q6,_⟩:=zaj hB;have qz:=lt_of_heap hB;have HB:=hid hb;have HX:=hid hB;have HL:=hid A6;clear A6 hB hb
  by_cases A0:j<o.code.length
  . obtain ⟨b,off,rfl,hx⟩:=(HO.out.later HB.out).code.gi j A0
    have HE:Hid (z2x o j=opB o.code[j]):=by show _=_;unfold z2x;rw [vac A0]
    have HF:=hid (fun (h:opB o.code[j]=false)=>(by rw [zuc,za1 A0 (HE.out.trans h)];rfl:zcp o=false));have HT:=hid (fun (h:opB o.code[j]=true)=>zbj HL.out (HE.out.trans h));obtain ⟨Au,p0,p1,p2,_,_,_⟩:=hx;generalize o.code[j]=p at *
    by_cases t1:p.op<1
    . have Be:=hid (HF.out (by unfold opB;exact decide_eq_false (by omega)))
      go_wp2_with fail;go_ret;exact ⟨ret_bool (by first | exact Be.out.symm | (rw [Be.out]<;>first | (simp;omega) | (simp [*];done))),thenB HB.out (al1 _ _)⟩
    by_cases t2:22<p.op
    . have Be:=hid (HF.out (by unfold opB;exact decide_eq_false (by omega)))
      have CV:1<=p.op:=by omega
      clear t1;go_wp2_with fail;go_ret;exact ⟨ret_bool (by first | exact Be.out.symm | (rw [Be.out]<;>first | (simp;omega) | (simp [*];done))),thenB HB.out (al1 _ _)⟩
    have B8:=hid (HT.out (by unfold opB;exact decide_eq_true (by omega)))
    have CV:1<=p.op:=by omega
    have Dr:p.op<=22:=by omega
    clear t1 t2;go_wp2_with fail;go_roundw
    case rel=>exact ⟨j+1,by omega,by go_num,B8.out,thenB HB.out (al1 _ _),zab HX.out⟩
    case measure=>simp [intOf];omega
  . obtain rfl:j=o.code.length:=by omega
    have HC:Hid (zcp o=(ze1 o.entries.length (zk6 o)&&zos o)):=by show _=_;rw [zuc,zak.2 HL.out];rfl
    go_wp2_with fail
    go_loopw [26] (fun i wr=>∃ j:Nat,j<=o.entries.length/\i=qi j/\(∀ k,k<j->zk6 o k=true)/\qb w wr/\wr.heap[w.heap.size]? = some (oC o x1 y1 x3 y3 x4 y4 x5 y5)) (fun i _=>o.entries.length - (intOf i).toNat)
    case atStart=>exact ⟨0,vae _,rfl,fun k hk=>absurd hk (vbe k),HB.out,HX.out⟩
    case round=>
     clear q0 q1 q2 q3 q4 q5 q6 qz;obtain ⟨j,hj,rfl,A6,hb,hB⟩:=hrel;obtain ⟨q0,q1,q2,q3,q4,q5,q6,_⟩:=zaj hB;have qz:=lt_of_heap hB;have HB:=hid hb;have HX:=hid hB;have HL:=hid A6;clear A6 hB hb
     by_cases A0:j<o.entries.length
     . obtain ⟨b,off,rfl,Au,p0,_⟩:=(HO.out.later HB.out).entries.num j A0
       have HE:Hid (zk6 o j=zbk o o.entries[j]):=by show _=_;unfold zk6;rw [vac A0]
       have HF:=hid (fun (h:zbk o o.entries[j]=false)=>(by rw [HC.out,za1 A0 (HE.out.trans h)];rfl:zcp o=false));have HT:=hid (fun (h:zbk o o.entries[j]=true)=>zbj HL.out (HE.out.trans h));generalize o.entries[j]=p at *;go_wp2_with fail;refine (HP.out p _).mono ?_;rintro e w1 ⟨rfl,A5⟩;have A8:=hid (thenB HB.out A5);have AE:=hid ((A5.block _ qz).trans HX.out);clear q0 q1 q2 q3 q4 q5 q6 qz A5
       cases hp:zbk o p with
       | false=>
         have Be:=hid (HF.out hp);go_wp2_with fail;go_ret;exact ⟨ret_bool (by first | exact Be.out.symm | (rw [Be.out]<;>first | (simp;omega) | (simp [*];done))),A8.out⟩
       | true=>
         have B8:=hid (HT.out hp);go_wp2_with fail;go_roundw
         case rel=>exact ⟨j+1,by omega,by go_num,B8.out,A8.out,AE.out⟩
         case measure=>simp [intOf];omega
     . obtain rfl:j=o.entries.length:=by omega
       have HD:Hid (zcp o=(zbk o o.main&&decide (0<=o.data/\o.data<=512))):=by show _=_;rw [HC.out,zak.2 HL.out];rfl
       go_wp2_with fail;refine (HP.out o.main _).mono ?_;rintro e w1 ⟨rfl,A5⟩;have A8:=hid (thenB HB.out A5);have AE:=hid ((A5.block _ qz).trans HX.out);clear q0 q1 q2 q3 q4 q5 q6 qz A5;obtain ⟨q0,q1,q2,q3,q4,q5,q6,_⟩:=zaj AE.out;have qz:=lt_of_heap AE.out
       cases hp:zbk o o.main with
       | false=>
         have HR:Hid (zcp o=false):=by show _=_;rw [HD.out,hp];rfl
         go_wp2_with fail;go_ret;exact ⟨ret_bool HR.out.symm,A8.out⟩
       | true=>
         by_cases t1:0<=o.data
         . have HR:Hid (zcp o=decide (o.data<=512)):=by show _=_;rw [HD.out,hp,vec];exact decide_eq_decide.2 ⟨fun h=>h.2,fun h=>⟨t1,h⟩⟩
           go_wp2_with fail;go_ret;exact ⟨ret_bool HR.out.symm,A8.out⟩
         . have HR:Hid (zcp o=false):=by show _=_;rw [HD.out,hp,vec];exact decide_eq_false (fun h=>t1 h.1)
           have CV:o.data<0:=by omega
           clear t1;go_wp2_with fail;go_ret;exact ⟨ret_bool HR.out.symm,A8.out⟩
theorem zqn (o:Ob):zdi o=(Lx.zbt o.name.data.toList&&ze1 o.uses.length (zk7 o)):=rfl
theorem zan.take {w:World} {lo:Nat->Prop}:∀ {l:List D} {cs:List Value},zan w lo l cs->∀ j,zan w lo (l.take j) (cs.take j)
 | [],cs,h,j=>by unfold zan at h;subst h;simp only [List.take_nil];exact zan.nil
 | d :: ds,cs,h,0=>by simp only [vek];exact zan.nil
 | d :: ds,cs,h,j+1=>by
   unfold zan at h;obtain ⟨v,r,rfl,h1,h2⟩:=h;exact zan.cons h1 (zan.take h2 j)
theorem zzg {w:World} {A:Nat->Prop} {a:OA} {l:List ByteArray} (h:DAt w A a l.length (zaw l)) (j:Nat):DAt w A a (l.take j).length (zaw (l.take j)):=by
 obtain ⟨h1,h2,h3⟩:=h
 have e:zaw (l.take j)=(zaw l).take j:=by simp [zaw,List.map_take]
 have hn:(zaw l).length=l.length:=by simp [zaw]
 refine ⟨by rw [e,vbg,vbg,hn];exact vaa _,by rw [e,vbg];omega,?_⟩
 rcases h3 with h4 | ⟨b,off,cs,ha,hl,hb,hc,hx⟩
 . exact Or.inl (by rw [vbg];omega)
 . exact Or.inr ⟨b,off,cs.take j,ha,hl,hb,fun k u hk=>hc k u (by rw [vdw] at hk;split at hk;exact hk;cases hk),by rw [e];exact hx.take j⟩
theorem zou (o:Ob) (x1:OA) (y1:Nat) (x3:OA) (y3:Nat) (x4:OA) (y4:Nat) (x5:OA) (y5:Nat) (w:World) (hO:OvAt w o x1 x3 x4 x5) (h3:o.uses.length<=3) (DE:o.uses.length<=y1) :
 qc 82 #[.agg #[.string o.name,.slice x1 o.uses.length y1,qi o.data,.slice x3 o.code.length y3,.slice x4 o.fixes.length y4,.slice x5 o.entries.length y5,qi o.main]] w fun e w'=>e = .returned (.bool (zdi o))/\qb w w':=by
 have HO:=hid hO;have HN:=hid (zqm o.name (w.alloc (oC o x1 y1 x3 y3 x4 y4 x5 y5)) hO.wn);clear hO;go_enter Tryz.func82,Tryz.ntmps82;go_wp2_with fail;refine HN.out.mono ?_;rintro e w1 ⟨rfl,A5⟩;have A8:=hid (thenB (al1 w _) A5);have AE:=hid ((A5.block _ (by simp)).trans (heap_newP w (oC o x1 y1 x3 y3 x4 y4 x5 y5)));clear A5
 cases hn:Lx.zbt o.name.data.toList with
 | false=>
   have HR:Hid (zdi o=false):=by show _=_;rw [zqn,hn];rfl
   go_wp2_with fail;go_ret;exact ⟨ret_bool HR.out.symm,A8.out⟩
 | true=>
 have HC:Hid (zdi o=ze1 o.uses.length (zk7 o)):=by show _=_;rw [zqn,hn];rfl
 clear hn;obtain ⟨q0,q1,q2,q3,q4,q5,q6,_⟩:=zaj AE.out;have qz:=lt_of_heap AE.out;go_wp2_with fail
 go_loopw [12] (fun i wr=>∃ j:Nat,j<=o.uses.length/\i=qi j/\(∀ k,k<j->zk7 o k=true)/\qb w wr/\wr.heap[w.heap.size]? = some (oC o x1 y1 x3 y3 x4 y4 x5 y5)) (fun i _=>o.uses.length - (intOf i).toNat)
 case atStart=>exact ⟨0,vae _,rfl,fun k hk=>absurd hk (vbe k),A8.out,AE.out⟩
 case round=>
  clear q0 q1 q2 q3 q4 q5 q6 qz;obtain ⟨j,hj,rfl,A6,hb,hB⟩:=hrel;obtain ⟨q0,q1,q2,q3,q4,q5,q6,_⟩:=zaj hB;have qz:=lt_of_heap hB;have HB:=hid hb;have HX:=hid hB;have HL:=hid A6;clear A6 hB hb
  by_cases A0:j<o.uses.length
  . obtain ⟨b,off,rfl,Au,p0,hw⟩:=(HO.out.later HB.out).uses.str j A0
    have HE:Hid (zk7 o j=(Lx.zbt o.uses[j].data.toList&&(!decide (o.uses[j]=o.name) && !Go.Lib.containsS (o.uses.take j) o.uses[j]))):=by show _=_;unfold zk7;rw [vac A0]
    have HF:=hid (fun (h:zk7 o j=false)=>(by rw [HC.out,za1 A0 h]:zdi o=false));have HT:=hid (fun (h:zk7 o j=true)=>zbj HL.out (h));have HU:=hid (fun (W:World) (hW:qb wr W) (y:Nat)=>(by have h:=zfe (o.uses.take j) o.uses[j] (some (qa b off)) y W (zzg ((HO.out.later HB.out).later hW).uses j);rw [vbg,vdt hj] at h;exact h:qc 76 #[.slice (some (qa b off)) j y,.string o.uses[j]] W fun e w'=>e = .returned (.bool (Go.Lib.containsS (o.uses.take j) o.uses[j]))/\w'=W))
    have Qt:j<=y1:=by omega
    generalize o.uses[j]=x at *;go_wp2_with fail;refine (zqm x _ hw).mono ?_;rintro e w1 ⟨rfl,A5⟩;have A8:=hid (thenB HB.out A5);have AE:=hid ((A5.block _ qz).trans HX.out);have HV:=hid (HU.out w1 A5);clear q0 q1 q2 q3 q4 q5 q6 qz A5 p0 Au;obtain ⟨q0,q1,q2,q3,q4,q5,q6,_⟩:=zaj AE.out;have qz:=lt_of_heap AE.out
    cases hn:Lx.zbt x.data.toList with
    | false=>
      have HR:=hid (HF.out (by rw [HE.out,hn];rfl));go_wp2_with fail;go_ret;exact ⟨ret_bool HR.out.symm,A8.out⟩
    | true=>
      by_cases hx:x=o.name
      . have HR:=hid (HF.out (by rw [HE.out,hn,decide_eq_true hx];rfl))
        have Bz:(x.toList == o.name.toList)=true:=(zor _ _).trans (decide_eq_true hx);clear hx;go_wp2_with fail;go_ret;exact ⟨ret_bool HR.out.symm,A8.out⟩
      . have Bz:(x.toList == o.name.toList)=false:=(zor _ _).trans (decide_eq_false hx)
        have Pz:Hid (zk7 o j = !Go.Lib.containsS (o.uses.take j) x):=by show _=_;rw [HE.out,hn,decide_eq_false hx];simp
        clear hx;go_wp2_with fail;refine (HV.out _).mono ?_;rintro e w2 ⟨rfl,rfl⟩
        cases hc:Go.Lib.containsS (o.uses.take j) x with
        | true=>
          have HR:=hid (HF.out (by rw [Pz.out,hc];rfl));go_wp2_with fail;go_ret;exact ⟨ret_bool HR.out.symm,A8.out⟩
        | false=>
          have B8:=hid (HT.out (by rw [Pz.out,hc];rfl));go_wp2_with fail;go_roundw
          case rel=>exact ⟨j+1,by omega,by go_num,B8.out,A8.out,AE.out⟩
          case measure=>simp [intOf];omega
  . obtain rfl:j=o.uses.length:=by omega
    have HR:Hid (zdi o=true):=by show _=_;rw [HC.out,zak.2 HL.out]
    go_wp2_with fail;go_ret;exact ⟨ret_bool HR.out.symm,HB.out⟩
theorem z8w (o:Ob) (x1:OA) (y1:Nat) (x3:OA) (y3:Nat) (x4:OA) (y4:Nat) (x5:OA) (y5:Nat) (j:Nat) (m:Int) (w:World) (hj:j<o.code.length) (hC:DAt w Tt x3 o.code.length (zvt o.code)) (hu:o.uses.length<=17592186044416) :
 qc 133 #[.agg #[.string o.name,.slice x1 o.uses.length y1,qi o.data,.slice x3 o.code.length y3,.slice x4 o.fixes.length y4,.slice x5 o.entries.length y5,qi o.main],.agg #[qi (j:Int),qi 1,qi m]] w fun e w'=>e = .returned (.bool (okF o.code[j].a (o.code.length:Int) m 0))/\qb w w':=by
 have Bt:=hC.bound;obtain ⟨b,off,rfl,hx⟩:=hC.gi j hj;obtain ⟨Au,_,z1,_,_,_,_⟩:=hx;generalize o.code[j].a=a at *;clear hC
 by_cases t0:0<=a
 case neg=>
  have HR:Hid (okF a (o.code.length:Int) m 0=false):=by show _=_;simp [okF,t0]
  have n0:a<0:=by omega
  clear t0;go_enter Tryz.func133,Tryz.ntmps133;go_wp2_with fail
  go_region
  go_wp2_with fail;go_ret;exact ⟨ret_bool HR.out.symm,(by first | exact bl2 _ _ _ | exact (bl2 _ _ _).drew | exact thenB (zbd _ _) (al1 _ _) | exact thenB (al1 _ _) (zbd _ _))⟩
 by_cases t1:a<=(o.code.length:Int)
 case neg=>
  have HR:Hid (okF a (o.code.length:Int) m 0=false):=by show _=_;simp [okF,t1]
  have n1:(o.code.length:Int)<a:=by omega
  clear t1;go_enter Tryz.func133,Tryz.ntmps133;go_wp2_with fail
  go_region
  go_wp2_with fail;go_ret;exact ⟨ret_bool HR.out.symm,(by first | exact bl2 _ _ _ | exact (bl2 _ _ _).drew | exact thenB (zbd _ _) (al1 _ _) | exact thenB (al1 _ _) (zbd _ _))⟩
 by_cases t2:0<=m
 case neg=>
  have HR:Hid (okF a (o.code.length:Int) m 0=false):=by show _=_;simp [okF,t2]
  have n2:m<0:=by omega
  clear t2;go_enter Tryz.func133,Tryz.ntmps133;go_wp2_with fail
  go_region
  go_wp2_with fail;go_ret;exact ⟨ret_bool HR.out.symm,(by first | exact bl2 _ _ _ | exact (bl2 _ _ _).drew | exact thenB (zbd _ _) (al1 _ _) | exact thenB (al1 _ _) (zbd _ _))⟩
 have HR:Hid (okF a (o.code.length:Int) m 0=decide (m<=0)):=by show _=_;simp [okF,t0,t1,t2]
 go_enter Tryz.func133,Tryz.ntmps133;go_wp2_with fail
 go_region
 go_wp2_with fail;go_ret;exact ⟨ret_bool HR.out.symm,(by first | exact bl2 _ _ _ | exact (bl2 _ _ _).drew | exact thenB (zbd _ _) (al1 _ _) | exact thenB (al1 _ _) (zbd _ _))⟩
theorem z8x (o:Ob) (x1:OA) (y1:Nat) (x3:OA) (y3:Nat) (x4:OA) (y4:Nat) (x5:OA) (y5:Nat) (j:Nat) (m:Int) (w:World) (hj:j<o.code.length) (hC:DAt w Tt x3 o.code.length (zvt o.code)) (hu:o.uses.length<=17592186044416) :
 qc 133 #[.agg #[.string o.name,.slice x1 o.uses.length y1,qi o.data,.slice x3 o.code.length y3,.slice x4 o.fixes.length y4,.slice x5 o.entries.length y5,qi o.main],.agg #[qi (j:Int),qi 2,qi m]] w fun e w'=>e = .returned (.bool (okF o.code[j].a 2048 m (o.uses.length:Int)))/\qb w w':=by
 have Bt:=hC.bound;obtain ⟨b,off,rfl,hx⟩:=hC.gi j hj;obtain ⟨Au,_,z1,_,_,_,_⟩:=hx;generalize o.code[j].a=a at *;clear hC
 by_cases t0:0<=a
 case neg=>
  have HR:Hid (okF a 2048 m (o.uses.length:Int)=false):=by show _=_;simp [okF,t0]
  have n0:a<0:=by omega
  clear t0;go_enter Tryz.func133,Tryz.ntmps133;go_wp2_with fail
  go_region
  go_wp2_with fail;go_ret;exact ⟨ret_bool HR.out.symm,(by first | exact bl2 _ _ _ | exact (bl2 _ _ _).drew | exact thenB (zbd _ _) (al1 _ _) | exact thenB (al1 _ _) (zbd _ _))⟩
 by_cases t1:a<=2048
 case neg=>
  have HR:Hid (okF a 2048 m (o.uses.length:Int)=false):=by show _=_;simp [okF,t1]
  have n1:2048<a:=by omega
  clear t1;go_enter Tryz.func133,Tryz.ntmps133;go_wp2_with fail
  go_region
  go_wp2_with fail;go_ret;exact ⟨ret_bool HR.out.symm,(by first | exact bl2 _ _ _ | exact (bl2 _ _ _).drew | exact thenB (zbd _ _) (al1 _ _) | exact thenB (al1 _ _) (zbd _ _))⟩
 by_cases t2:0<=m
 case neg=>
  have HR:Hid (okF a 2048 m (o.uses.length:Int)=false):=by show _=_;simp [okF,t2]
  have n2:m<0:=by omega
  clear t2;go_enter Tryz.func133,Tryz.ntmps133;go_wp2_with fail
  go_region
  go_wp2_with fail;go_ret;exact ⟨ret_bool HR.out.symm,(by first | exact bl2 _ _ _ | exact (bl2 _ _ _).drew | exact thenB (zbd _ _) (al1 _ _) | exact thenB (al1 _ _) (zbd _ _))⟩
 have HR:Hid (okF a 2048 m (o.uses.length:Int)=decide (m<=(o.uses.length:Int))):=by show _=_;simp [okF,t0,t1,t2]
 go_enter Tryz.func133,Tryz.ntmps133;go_wp2_with fail
 go_region
 go_wp2_with fail;go_ret;exact ⟨ret_bool HR.out.symm,(by first | exact bl2 _ _ _ | exact (bl2 _ _ _).drew | exact thenB (zbd _ _) (al1 _ _) | exact thenB (al1 _ _) (zbd _ _))⟩
theorem z8y (o:Ob) (x1:OA) (y1:Nat) (x3:OA) (y3:Nat) (x4:OA) (y4:Nat) (x5:OA) (y5:Nat) (j:Nat) (m:Int) (w:World) (hj:j<o.code.length) (hC:DAt w Tt x3 o.code.length (zvt o.code)) (hu:o.uses.length<=17592186044416) :
 qc 133 #[.agg #[.string o.name,.slice x1 o.uses.length y1,qi o.data,.slice x3 o.code.length y3,.slice x4 o.fixes.length y4,.slice x5 o.entries.length y5,qi o.main],.agg #[qi (j:Int),qi 3,qi m]] w fun e w'=>e = .returned (.bool (okF o.code[j].a 2048 m (o.uses.length:Int)))/\qb w w':=by
 have Bt:=hC.bound;obtain ⟨b,off,rfl,hx⟩:=hC.gi j hj;obtain ⟨Au,_,z1,_,_,_,_⟩:=hx;generalize o.code[j].a=a at *;clear hC
 by_cases t0:0<=a
 case neg=>
  have HR:Hid (okF a 2048 m (o.uses.length:Int)=false):=by show _=_;simp [okF,t0]
  have n0:a<0:=by omega
  clear t0;go_enter Tryz.func133,Tryz.ntmps133;go_wp2_with fail
  go_region
  go_wp2_with fail;go_ret;exact ⟨ret_bool HR.out.symm,(by first | exact bl2 _ _ _ | exact (bl2 _ _ _).drew | exact thenB (zbd _ _) (al1 _ _) | exact thenB (al1 _ _) (zbd _ _))⟩
 by_cases t1:a<=2048
 case neg=>
  have HR:Hid (okF a 2048 m (o.uses.length:Int)=false):=by show _=_;simp [okF,t1]
  have n1:2048<a:=by omega
  clear t1;go_enter Tryz.func133,Tryz.ntmps133;go_wp2_with fail
  go_region
  go_wp2_with fail;go_ret;exact ⟨ret_bool HR.out.symm,(by first | exact bl2 _ _ _ | exact (bl2 _ _ _).drew | exact thenB (zbd _ _) (al1 _ _) | exact thenB (al1 _ _) (zbd _ _))⟩
 by_cases t2:0<=m
 case neg=>
  have HR:Hid (okF a 2048 m (o.uses.length:Int)=false):=by show _=_;simp [okF,t2]
  have n2:m<0:=by omega
  clear t2;go_enter Tryz.func133,Tryz.ntmps133;go_wp2_with fail
  go_region
  go_wp2_with fail;go_ret;exact ⟨ret_bool HR.out.symm,(by first | exact bl2 _ _ _ | exact (bl2 _ _ _).drew | exact thenB (zbd _ _) (al1 _ _) | exact thenB (al1 _ _) (zbd _ _))⟩
 have HR:Hid (okF a 2048 m (o.uses.length:Int)=decide (m<=(o.uses.length:Int))):=by show _=_;simp [okF,t0,t1,t2]
 go_enter Tryz.func133,Tryz.ntmps133;go_wp2_with fail
 go_region
 go_wp2_with fail;go_ret;exact ⟨ret_bool HR.out.symm,(by first | exact bl2 _ _ _ | exact (bl2 _ _ _).drew | exact thenB (zbd _ _) (al1 _ _) | exact thenB (al1 _ _) (zbd _ _))⟩
theorem z8z (o:Ob) (x1:OA) (y1:Nat) (x3:OA) (y3:Nat) (x4:OA) (y4:Nat) (x5:OA) (y5:Nat) (at_ kind m:Int) (w:World) (h1:kind≠1) (h2:kind≠2) (h3:kind≠3) (hu:o.uses.length<=17592186044416) :
 qc 133 #[.agg #[.string o.name,.slice x1 o.uses.length y1,qi o.data,.slice x3 o.code.length y3,.slice x4 o.fixes.length y4,.slice x5 o.entries.length y5,qi o.main],.agg #[qi at_,qi kind,qi m]] w fun e w'=>e = .returned (.bool false)/\qb w w':=by
 go_enter Tryz.func133,Tryz.ntmps133;go_wp2_with fail
 go_region
 go_wp2_with fail;go_ret;exact ⟨rfl,(by first | exact bl2 _ _ _ | exact (bl2 _ _ _).drew | exact thenB (zbd _ _) (al1 _ _) | exact thenB (al1 _ _) (zbd _ _))⟩
theorem zqo (o:Ob) (x1:OA) (y1:Nat) (x3:OA) (y3:Nat) (x4:OA) (y4:Nat) (x5:OA) (y5:Nat) (f:Gf) (w:World) (hp:zbk o f.at_=true) (hC:DAt w Tt x3 o.code.length (zvt o.code)) (hu:o.uses.length<=17592186044416) :
 qc 133 #[.agg #[.string o.name,.slice x1 o.uses.length y1,qi o.data,.slice x3 o.code.length y3,.slice x4 o.fixes.length y4,.slice x5 o.entries.length y5,qi o.main],.agg #[qi f.at_,qi f.kind,qi f.m]] w fun e w'=>e = .returned (.bool (zv0 o f))/\qb w w':=by
 obtain ⟨at_,kind,m⟩:=f;have Gy:=of_decide_eq_true hp;simp only at Gy
 obtain ⟨j,rfl⟩:∃ j:Nat,at_=j:=⟨at_.toNat,by omega⟩
 have hj:j<o.code.length:=by omega
 have ha:aAt o (j:Int)=o.code[j].a:=by unfold aAt;rw [vbp,vac hj]
 unfold zv0;simp only [ha]
 by_cases e1:kind=1
 . subst e1;exact z8w o x1 y1 x3 y3 x4 y4 x5 y5 j m w hj hC hu
 by_cases e2:kind=2
 . subst e2;exact z8x o x1 y1 x3 y3 x4 y4 x5 y5 j m w hj hC hu
 by_cases e3:kind=3
 . subst e3;exact z8y o x1 y1 x3 y3 x4 y4 x5 y5 j m w hj hC hu
 . rw [if_neg e1,if_neg (by omega)]
   exact z8z o x1 y1 x3 y3 x4 y4 x5 y5 j kind m w e1 e2 e3 hu
end Go.Proofs.YtndkhgakfodldaaGreatDoor
