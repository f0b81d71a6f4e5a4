import Derived.Test.YtndkhgakfodldaaGreatDoorLeafc
import Derived.Deep.AppendLies
namespace Go.Proofs.YtndkhgakfodldaaGreatDoor
open Go.RowKit
inductive D where
 | int (n:Int)
 | str (s:ByteArray)
 | bool (b:Bool)
 | list (n:Nat) (ds:List D)
def zfn (w:World) (b off:Nat) (l:List Value):Prop:=∀ j u,l[j]? = some u->w.cell? ⟨b,off+j,none⟩=some u
mutual
def zde (w:World) (A:Nat->Prop):D->Value->Prop
 | .int n,v=>v = .int .i64 n/\(Lit.int .i64 n).wf=true
 | .str s,v=>v = .string s/\s.size<=maxLen
 | .bool b,v=>v = .bool b
 | .list n ds,v=>∃ a cap,v = .slice a n cap/\n<=ds.length/\ds.length<=17592186044416/\(n=0\/∃ b off cs,a=some ⟨b,off,none⟩/\A b/\b<w.heap.size/\zfn w b off cs/\zbe w A ds cs)
def zbe (w:World) (A:Nat->Prop):List D->List Value->Prop
 | [],cs=>cs=[]
 | d :: ds,cs=>∃ v r,cs=v :: r/\zde w A d v/\zbe w A ds r
end
def zfo (lo:Nat) (w w':World):Prop:=w.heap.size<=w'.heap.size/\∀ k,lo<=k->k<w.heap.size->w'.heap[k]? = w.heap[k]?
theorem zfo.refl (lo:Nat) (w:World):zfo lo w w:=⟨vaa _,fun _ _ _=>rfl⟩
theorem zfo.trans {lo:Nat} {a b c:World} (h:zfo lo a b) (k:zfo lo b c):zfo lo a c:=
 ⟨vbe h.1 k.1,fun i h1 h2=>(k.2 i h1 (vai h2 h.1)).trans (h.2 i h1 h2)⟩
theorem zfo.mono {lo lo':Nat} {w w':World} (h:zfo lo w w') (hl:lo<=lo'):zfo lo' w w':=⟨h.1,fun k h1 h2=>h.2 k (vbe hl h1) h2⟩
theorem zfo.of_below {w w':World} (h:Below w.heap.size w w') (lo:Nat):zfo lo w w':=⟨h.size,fun k _ h2=>h.block k h2⟩
theorem zfo.cell {lo:Nat} {w w':World} (h:zfo lo w w') {b off:Nat} (h1:lo<=b) (h2:b<w.heap.size):w'.cell? ⟨b,off,none⟩=w.cell? ⟨b,off,none⟩:=
 vee (w:=w) (h.2 b h1 h2)
theorem zfo.alloc {lo:Nat} {w w':World} (h:zfo lo w w') (o:Obj):zfo lo w (w'.alloc o):=
 h.trans (zfo.of_below ((Below.refl w'.heap.size w').alloc (vaa _) o) lo)
def zae (w:World) (A:Nat->Prop) (w':World) (A':Nat->Prop):Prop:=w.heap.size<=w'.heap.size/\∀ b,b<w.heap.size->A b->A' b/\w'.heap[b]? = w.heap[b]?
theorem zae.refl (w:World) (A:Nat->Prop):zae w A w A:=⟨vaa _,fun _ _ h=>⟨h,rfl⟩⟩
theorem zae.trans {w1 w2 w3:World} {A1 A2 A3:Nat->Prop} (h:zae w1 A1 w2 A2) (k:zae w2 A2 w3 A3):zae w1 A1 w3 A3:=
 ⟨vbe h.1 k.1,fun b hb ha=>⟨(k.2 b (vai hb h.1) (h.2 b hb ha).1).1,(k.2 b (vai hb h.1) (h.2 b hb ha).1).2.trans (h.2 b hb ha).2⟩⟩
theorem zae.of_below {w w':World} (h:Below w.heap.size w w') (A:Nat->Prop):zae w A w' A:=⟨h.size,fun b hb ha=>⟨ha,h.block b hb⟩⟩
theorem zae.alloc {w w':World} {A A':Nat->Prop} (h:zae w A w' A') (o:Obj):zae w A (w'.alloc o) A':=h.trans (zae.of_below ((Below.refl w'.heap.size w').alloc (vaa _) o) A')
theorem zae.lower {w:World} {lo lo':Nat} (h:lo'<=lo):zae w (lo<=·) w (lo'<=·):=⟨vaa _,fun _ _ ha=>⟨vbe h ha,rfl⟩⟩
theorem zfn.moves {A A':Nat->Prop} {w w':World} {b off:Nat} {l:List Value} (h:zfn w b off l) (hs:zae w A w' A') (h1:A b) (h2:b<w.heap.size):zfn w' b off l:=
 fun j u hj=>(vee (w:=w) (hs.2 b h2 h1).2).trans (h j u hj)
mutual
theorem zde.moves {A A':Nat->Prop} {w w':World} (hs:zae w A w' A'):∀ (d:D) (v:Value),zde w A d v->zde w' A' d v
 | .int _,_,h=>h
 | .str _,_,h=>h
 | .bool _,_,h=>h
 | .list n ds,v,h=>by
   unfold zde at h ⊢;obtain ⟨a,cap,h1,h2,h3,h4⟩:=h;refine ⟨a,cap,h1,h2,h3,?_⟩
   rcases h4 with h4 | ⟨b,off,cs,ha,hl,hb,hc,hx⟩
   . exact Or.inl h4
   . exact Or.inr ⟨b,off,cs,ha,(hs.2 b hb hl).1,vai hb hs.1,hc.moves hs hl hb,zbe.moves hs ds cs hx⟩
theorem zbe.moves {A A':Nat->Prop} {w w':World} (hs:zae w A w' A'):∀ (l:List D) (cs:List Value),zbe w A l cs->zbe w' A' l cs
 | [],_,h=>h
 | d :: ds,cs,h=>by
   unfold zbe at h ⊢;obtain ⟨v,r,h1,h2,h3⟩:=h;exact ⟨v,r,h1,zde.moves hs d v h2,zbe.moves hs ds r h3⟩
end
theorem zde.one {w:World} {lo:Nat->Prop}:∀ {d:D} {v:Value},zde w lo d v->v.oneCell'=true
 | .int _,_,h=>by unfold zde at h;rw [h.1];rfl
 | .str _,_,h=>by unfold zde at h;rw [h.1];rfl
 | .bool _,_,h=>by unfold zde at h;rw [h];rfl
 | .list _ _,_,h=>by unfold zde at h;obtain ⟨a,cap,h,_⟩:=h;rw [h];rfl
theorem zbe.one {w:World} {lo:Nat->Prop}:∀ {l:List D} {cs:List Value},zbe w lo l cs->∀ u ∈ cs,u.oneCell'=true
 | [],_,h=>by unfold zbe at h;rw [h];intro u hu;cases hu
 | d :: ds,cs,h=>by
   unfold zbe at h;obtain ⟨v,r,rfl,h2,h3⟩:=h;intro u hu
   rcases vbo.1 hu with rfl | hu
   . exact h2.one
   . exact zbe.one h3 u hu
theorem zbe.len {w:World} {lo:Nat->Prop}:∀ {l:List D} {cs:List Value},zbe w lo l cs->cs.length=l.length
 | [],_,h=>by unfold zbe at h;rw [h];rfl
 | d :: ds,cs,h=>by
   unfold zbe at h;obtain ⟨v,r,rfl,h2,h3⟩:=h;simp [zbe.len h3]
theorem zbe.nil {w:World} {lo:Nat->Prop}:zbe w lo [] []:=by unfold zbe;rfl
theorem zbe.cons {w:World} {lo:Nat->Prop} {d:D} {ds:List D} {v:Value} {cs:List Value} (h:zde w lo d v) (k:zbe w lo ds cs):zbe w lo (d :: ds) (v :: cs):=by
 unfold zbe;exact ⟨v,cs,rfl,h,k⟩
theorem zbe.append {w:World} {lo:Nat->Prop}:∀ {l m:List D} {cs es:List Value},zbe w lo l cs->zbe w lo m es->zbe w lo (l++m) (cs++es)
 | [],m,cs,es,h,k=>by unfold zbe at h;subst h;exact k
 | d :: ds,m,cs,es,h,k=>by
   unfold zbe at h;obtain ⟨v,r,rfl,h2,h3⟩:=h;exact zbe.cons h2 (zbe.append h3 k)
theorem zbe.get {w:World} {lo:Nat->Prop}:∀ {l:List D} {cs:List Value},zbe w lo l cs->∀ (j:Nat) (d:D),l[j]? = some d->∃ v,cs[j]? = some v/\zde w lo d v
 | [],_,_,j,d,hj=>by simp at hj
 | e :: ds,cs,h,j,d,hj=>by
   unfold zbe at h;obtain ⟨v,r,rfl,h2,h3⟩:=h
   cases j with
   | zero=>simp at hj;subst hj;exact ⟨v,rfl,h2⟩
   | succ j=>simpa using zbe.get h3 j d (by simpa using hj)
theorem zd7 {w:World} {lo:Nat->Prop} {n:Int} (h:(Lit.int .i64 n).wf=true):zde w lo (.int n) (.int .i64 n):=by unfold zde;exact ⟨rfl,h⟩
theorem zd1 {w:World} {lo:Nat->Prop} {s:ByteArray} (h:s.size<=maxLen):zde w lo (.str s) (.string s):=by unfold zde;exact ⟨rfl,h⟩
theorem zs4 {w:World} {lo:Nat->Prop} {b:Bool}:zde w lo (.bool b) (.bool b):=by unfold zde;rfl
theorem zly {w:World} {lo:Nat->Prop} {a:OA} {cap:Nat}:zde w lo (.list 0 []) (.slice a 0 cap):=by unfold zde;exact ⟨a,cap,rfl,vaa _,by simp,Or.inl rfl⟩
theorem z1n {w:World} {lo:Nat->Prop} {n b off cap:Nat} {ds:List D} {cs:List Value} (h1:n<=ds.length) (h2:ds.length<=17592186044416) (hl:lo b) (hb:b<w.heap.size) (hc:zfn w b off cs) (hx:zbe w lo ds cs):zde w lo (.list n ds) (.slice (some ⟨b,off,none⟩) n cap):=by
 unfold zde;exact ⟨_,cap,rfl,h1,h2,Or.inr ⟨b,off,cs,rfl,hl,hb,hc,hx⟩⟩
theorem zb9 {w:World} {lo:Nat->Prop} {n:Int} {v:Value} (h:zde w lo (.int n) v):v = .int .i64 n/\(Lit.int .i64 n).wf=true:=by unfold zde at h;exact h
theorem zdm {w:World} {lo:Nat->Prop} {s:ByteArray} {v:Value} (h:zde w lo (.str s) v):v = .string s/\s.size<=maxLen:=by unfold zde at h;exact h
theorem zrg {w:World} {lo:Nat->Prop} {b:Bool} {v:Value} (h:zde w lo (.bool b) v):v = .bool b:=by unfold zde at h;exact h
def DAt (w:World) (lo:Nat->Prop) (a:OA) (n:Nat) (ds:List D):Prop:=n<=ds.length/\ds.length<=17592186044416/\(n=0\/∃ b off cs,a=some ⟨b,off,none⟩/\lo b/\b<w.heap.size/\zfn w b off cs/\zbe w lo ds cs)
theorem zbg {w:World} {lo:Nat->Prop} {n:Nat} {ds:List D} {v:Value} (h:zde w lo (.list n ds) v):∃ a cap,v = .slice a n cap/\DAt w lo a n ds:=by unfold zde at h;exact h
theorem DAt.val {w:World} {lo:Nat->Prop} {n cap:Nat} {a:OA} {ds:List D} (h:DAt w lo a n ds):zde w lo (.list n ds) (.slice a n cap):=by unfold zde;exact ⟨a,cap,rfl,h⟩
theorem DAt.moves {A A':Nat->Prop} {w w':World} {n:Nat} {a:OA} {ds:List D} (h:DAt w A a n ds) (hs:zae w A w' A'):DAt w' A' a n ds:=by
 obtain ⟨h1,h2,h3⟩:=h;refine ⟨h1,h2,?_⟩
 rcases h3 with h4 | ⟨b,off,cs,ha,hl,hb,hc,hx⟩
 . exact Or.inl h4
 . exact Or.inr ⟨b,off,cs,ha,(hs.2 b hb hl).1,vai hb hs.1,hc.moves hs hl hb,zbe.moves hs ds cs hx⟩
theorem DAt.later {A:Nat->Prop} {w w':World} {n:Nat} {a:OA} {ds:List D} (h:DAt w A a n ds) (hb:Below w.heap.size w w'):DAt w' A a n ds:=h.moves (zae.of_below hb A)
theorem DAt.bound {A:Nat->Prop} {w:World} {n:Nat} {a:OA} {ds:List D} (h:DAt w A a n ds):n<=17592186044416:=vbe h.1 h.2.1
theorem DAt.cell {A:Nat->Prop} {w:World} {n:Nat} {a:OA} {ds:List D} (h:DAt w A a n ds) (hn:0<n):∃ b off,a=some ⟨b,off,none⟩/\b<w.heap.size/\∀ (j:Nat) (d:D),ds[j]? = some d->∃ v,w.cell? ⟨b,off+j,none⟩=some v/\zde w A d v:=by
 rcases h.2.2 with h0 | ⟨b,off,cs,ha,_,hb,hc,hx⟩
 . omega
 . refine ⟨b,off,ha,hb,fun j d hj=>?_⟩
   obtain ⟨v,hv,hd⟩:=hx.get j d hj;exact ⟨v,hc j v hv,hd⟩
inductive Ex where
 | mk (op n:Int) (mod name:ByteArray) (args:List Ex)
def Ex.op:Ex->Int | .mk op _ _ _ _=>op
def Ex.n:Ex->Int | .mk _ n _ _ _=>n
def Ex.mod:Ex->ByteArray | .mk _ _ m _ _=>m
def Ex.name:Ex->ByteArray | .mk _ _ _ m _=>m
def Ex.args:Ex->List Ex | .mk _ _ _ _ l=>l
inductive St where
 | mk (op:Int) (mod name:ByteArray) (args:List Ex) (body other:List St)
def St.op:St->Int | .mk op _ _ _ _ _=>op
def St.mod:St->ByteArray | .mk _ m _ _ _ _=>m
def St.name:St->ByteArray | .mk _ _ m _ _ _=>m
def St.args:St->List Ex | .mk _ _ _ l _ _=>l
def St.body:St->List St | .mk _ _ _ _ l _=>l
def St.other:St->List St | .mk _ _ _ _ _ l=>l
mutual
def Ex.ds:Ex->List D
 | .mk op n mod name args=>[.int op,.int n,.str mod,.str name,.list args.length (za9 args)]
def za9:List Ex->List D
 | []=>[]
 | x :: r=>x.ds++za9 r
end
mutual
def St.ds:St->List D
 | .mk op mod name args body other=>[.int op,.str mod,.str name,.list args.length (za9 args),.list body.length (za2 body),.list other.length (za2 other)]
def za2:List St->List D
 | []=>[]
 | x :: r=>x.ds++za2 r
end
theorem Ex.ds_len (x:Ex):x.ds.length=5:=by cases x;unfold Ex.ds;rfl
theorem St.ds_len (x:St):x.ds.length=6:=by cases x;unfold St.ds;rfl
theorem zgp:∀ (l m:List Ex),za9 (l++m)=za9 l++za9 m
 | [],m=>by simp [za9]
 | x :: r,m=>by simp [za9,zgp r m]
theorem zgq:∀ (l m:List St),za2 (l++m)=za2 l++za2 m
 | [],m=>by simp [za2]
 | x :: r,m=>by simp [za2,zgq r m]
theorem zi3 (x:Ex):za9 [x]=x.ds:=by simp [za9]
theorem zrh (x:St):za2 [x]=x.ds:=by simp [za2]
theorem zri:∀ (l:List Ex) (i:Nat) (h:i<l.length) (j:Nat),j<5->(za9 l)[i*5+j]? = (l[i].ds)[j]?
 | [],i,h,_,_=>by simp at h
 | x :: r,0,_,j,hj=>by
   have:=x.ds_len;simp only [za9,vcc];rw [vbf (by omega),vdn,vbc]
 | x :: r,i+1,h,j,hj=>by
   have:=x.ds_len;simp only [za9,vbv];rw [vbb (by omega),show (i+1)*5+j - x.ds.length=i*5+j from by omega];exact zri r i (by simpa using h) j hj
theorem zrj:∀ (l:List St) (i:Nat) (h:i<l.length) (j:Nat),j<6->(za2 l)[i*6+j]? = (l[i].ds)[j]?
 | [],i,h,_,_=>by simp at h
 | x :: r,0,_,j,hj=>by
   have:=x.ds_len;simp only [za2,vcc];rw [vbf (by omega),vdn,vbc]
 | x :: r,i+1,h,j,hj=>by
   have:=x.ds_len;simp only [za2,vbv];rw [vbb (by omega),show (i+1)*6+j - x.ds.length=i*6+j from by omega];exact zrj r i (by simpa using h) j hj
structure ExAt (w:World) (A:Nat->Prop) (b o:Nat) (x:Ex) (aa:OA) (cap:Nat):Prop where
 lt:b<w.heap.size
 c0:w.cell? ⟨b,o,none⟩=some (.int .i64 x.op)
 c1:w.cell? ⟨b,o+1,none⟩=some (.int .i64 x.n)
 c2:w.cell? ⟨b,o+2,none⟩=some (.string x.mod)
 c3:w.cell? ⟨b,o+3,none⟩=some (.string x.name)
 c4:w.cell? ⟨b,o+4,none⟩=some (.slice aa x.args.length cap)
 args:DAt w A aa x.args.length (za9 x.args)
 wop:(Lit.int .i64 x.op).wf=true
 wn:(Lit.int .i64 x.n).wf=true
 wm:x.mod.size<=maxLen
 wna:x.name.size<=maxLen
structure StAt (w:World) (A:Nat->Prop) (b o:Nat) (x:St) (a1:OA) (c1':Nat) (a2:OA) (c2':Nat) (a3:OA) (c3':Nat):Prop where
 lt:b<w.heap.size
 c0:w.cell? ⟨b,o,none⟩=some (.int .i64 x.op)
 c1:w.cell? ⟨b,o+1,none⟩=some (.string x.mod)
 c2:w.cell? ⟨b,o+2,none⟩=some (.string x.name)
 c3:w.cell? ⟨b,o+3,none⟩=some (.slice a1 x.args.length c1')
 c4:w.cell? ⟨b,o+4,none⟩=some (.slice a2 x.body.length c2')
 c5:w.cell? ⟨b,o+5,none⟩=some (.slice a3 x.other.length c3')
 args:DAt w A a1 x.args.length (za9 x.args)
 body:DAt w A a2 x.body.length (za2 x.body)
 other:DAt w A a3 x.other.length (za2 x.other)
 wop:(Lit.int .i64 x.op).wf=true
 wm:x.mod.size<=maxLen
 wna:x.name.size<=maxLen
theorem DAt.ex {w:World} {A:Nat->Prop} {a:OA} {l:List Ex} (h:DAt w A a l.length (za9 l)) (i:Nat) (hi:i<l.length):∃ b off aa cap,a=some ⟨b,off,none⟩/\ExAt w A b (off+i*5) l[i] aa cap:=by
 obtain ⟨b,off,ha,hb,hc⟩:=h.cell (by omega);generalize hx:l[i]=x;obtain ⟨op,n,mod,name,args⟩:=x
 have g:∀ j d,j<5->(Ex.mk op n mod name args).ds[j]? = some d->∃ v,w.cell? ⟨b,off+i*5+j,none⟩=some v/\zde w A d v:=fun j d hj hd=>by
  rw [vbj];exact hc (i*5+j) d ((zri l i hi j hj).trans (by rw [hx];exact hd))
 obtain ⟨v0,k0,d0⟩:=g 0 (.int op) (by omega) (by simp [Ex.ds]);obtain ⟨v1,k1,d1⟩:=g 1 (.int n) (by omega) (by simp [Ex.ds]);obtain ⟨v2,k2,d2⟩:=g 2 (.str mod) (by omega) (by simp [Ex.ds]);obtain ⟨v3,k3,d3⟩:=g 3 (.str name) (by omega) (by simp [Ex.ds]);obtain ⟨v4,k4,d4⟩:=g 4 (.list args.length (za9 args)) (by omega) (by simp [Ex.ds]);obtain ⟨rfl,w0⟩:=zb9 d0;obtain ⟨rfl,w1⟩:=zb9 d1;obtain ⟨rfl,w2⟩:=zdm d2;obtain ⟨rfl,w3⟩:=zdm d3;obtain ⟨aa,cap,rfl,hA⟩:=zbg d4;exact ⟨b,off,aa,cap,ha,hb,k0,k1,k2,k3,k4,hA,w0,w1,w2,w3⟩
theorem DAt.st {w:World} {A:Nat->Prop} {a:OA} {l:List St} (h:DAt w A a l.length (za2 l)) (i:Nat) (hi:i<l.length):∃ b off a1 c1 a2 c2 a3 c3,a=some ⟨b,off,none⟩/\StAt w A b (off+i*6) l[i] a1 c1 a2 c2 a3 c3:=by
 obtain ⟨b,off,ha,hb,hc⟩:=h.cell (by omega);generalize hx:l[i]=x;obtain ⟨op,mod,name,args,body,other⟩:=x
 have g:∀ j d,j<6->(St.mk op mod name args body other).ds[j]? = some d->∃ v,w.cell? ⟨b,off+i*6+j,none⟩=some v/\zde w A d v:=fun j d hj hd=>by
  rw [vbj];exact hc (i*6+j) d ((zrj l i hi j hj).trans (by rw [hx];exact hd))
 obtain ⟨v0,k0,d0⟩:=g 0 (.int op) (by omega) (by simp [St.ds]);obtain ⟨v1,k1,d1⟩:=g 1 (.str mod) (by omega) (by simp [St.ds]);obtain ⟨v2,k2,d2⟩:=g 2 (.str name) (by omega) (by simp [St.ds]);obtain ⟨v3,k3,d3⟩:=g 3 (.list args.length (za9 args)) (by omega) (by simp [St.ds]);obtain ⟨v4,k4,d4⟩:=g 4 (.list body.length (za2 body)) (by omega) (by simp [St.ds]);obtain ⟨v5,k5,d5⟩:=g 5 (.list other.length (za2 other)) (by omega) (by simp [St.ds]);obtain ⟨rfl,w0⟩:=zb9 d0;obtain ⟨rfl,w1⟩:=zdm d1;obtain ⟨rfl,w2⟩:=zdm d2;obtain ⟨a1,c1,rfl,h1⟩:=zbg d3;obtain ⟨a2,c2,rfl,h2⟩:=zbg d4;obtain ⟨a3,c3,rfl,h3⟩:=zbg d5;exact ⟨b,off,a1,c1,a2,c2,a3,c3,ha,hb,k0,k1,k2,k3,k4,k5,h1,h2,h3,w0,w1,w2⟩
structure De where
 kind:Int
 name:ByteArray
 pub:Bool
 n:Int
structure Pr where
 name:ByteArray
 pub:Bool
 params:List ByteArray
 locals:List ByteArray
 body:List St
structure Mo where
 name:ByteArray
 uses:List ByteArray
 decls:List De
 procs:List Pr
 main:List St
def De.ds (d:De):List D:=[.int d.kind,.str d.name,.bool d.pub,.int d.n]
def zan (l:List ByteArray):List D:=l.map .str
def Pr.ds (p:Pr):List D:=[.str p.name,.bool p.pub,.list p.params.length (zan p.params),.list p.locals.length (zan p.locals),.list p.body.length (za2 p.body)]
def Mo.ds (m:Mo):List D:=[.str m.name,.list m.uses.length (zan m.uses),.list m.decls.length (m.decls.flatMap De.ds),.list m.procs.length (m.procs.flatMap Pr.ds),.list m.main.length (za2 m.main)]
def zhj (l:List Pr):List D:=l.flatMap Pr.ds
def zi4 (l:List De):List D:=l.flatMap De.ds
def z2s (l:List Mo):List D:=l.flatMap Mo.ds
theorem zd8 {α:Type} (f:α->List D) (k:Nat) (hf:∀ x,(f x).length=k):∀ (l:List α) (i:Nat) (h:i<l.length) (j:Nat),j<k->(l.flatMap f)[i*k+j]? = (f l[i])[j]?
 | [],i,h,_,_=>by simp at h
 | x :: r,0,_,j,hj=>by
   have:=hf x;simp only [vcw,vcc];rw [vbf (by omega),vdn,vbc]
 | x :: r,i+1,h,j,hj=>by
   have:=hf x;have e:(i+1)*k=i*k+k:=vea i k;simp only [vcw,vbv];rw [vbb (by omega),show (i+1)*k+j - (f x).length=i*k+j from by omega];exact zd8 f k hf r i (by simpa using h) j hj
structure DeAt (w:World) (b o:Nat) (x:De):Prop where
 lt:b<w.heap.size
 c0:w.cell? ⟨b,o,none⟩=some (.int .i64 x.kind)
 c1:w.cell? ⟨b,o+1,none⟩=some (.string x.name)
 c2:w.cell? ⟨b,o+2,none⟩=some (.bool x.pub)
 c3:w.cell? ⟨b,o+3,none⟩=some (.int .i64 x.n)
 wk:(Lit.int .i64 x.kind).wf=true
 wn:(Lit.int .i64 x.n).wf=true
 wna:x.name.size<=maxLen
structure PrAt (w:World) (A:Nat->Prop) (b o:Nat) (x:Pr) (a1:OA) (c1':Nat) (a2:OA) (c2':Nat) (a3:OA) (c3':Nat):Prop where
 lt:b<w.heap.size
 c0:w.cell? ⟨b,o,none⟩=some (.string x.name)
 c1:w.cell? ⟨b,o+1,none⟩=some (.bool x.pub)
 c2:w.cell? ⟨b,o+2,none⟩=some (.slice a1 x.params.length c1')
 c3:w.cell? ⟨b,o+3,none⟩=some (.slice a2 x.locals.length c2')
 c4:w.cell? ⟨b,o+4,none⟩=some (.slice a3 x.body.length c3')
 params:DAt w A a1 x.params.length (zan x.params)
 locals:DAt w A a2 x.locals.length (zan x.locals)
 body:DAt w A a3 x.body.length (za2 x.body)
 wna:x.name.size<=maxLen
structure MoAt (w:World) (A:Nat->Prop) (m:Mo) (v:Value) (a1:OA) (c1:Nat) (a2:OA) (c2:Nat) (a3:OA) (c3:Nat) (a4:OA) (c4:Nat):Prop where
 val:v = .agg #[.string m.name,.slice a1 m.uses.length c1,.slice a2 m.decls.length c2,.slice a3 m.procs.length c3,.slice a4 m.main.length c4]
 wna:m.name.size<=maxLen
 uses:DAt w A a1 m.uses.length (zan m.uses)
 decls:DAt w A a2 m.decls.length (zi4 m.decls)
 procs:DAt w A a3 m.procs.length (zhj m.procs)
 main:DAt w A a4 m.main.length (za2 m.main)
theorem MoAt.later {w w':World} {A:Nat->Prop} {m:Mo} {v:Value} {a1 a2 a3 a4:OA} {c1 c2 c3 c4:Nat} (h:MoAt w A m v a1 c1 a2 c2 a3 c3 a4 c4) (hb:Below w.heap.size w w'):MoAt w' A m v a1 c1 a2 c2 a3 c3 a4 c4:=
 ⟨h.val,h.wna,h.uses.later hb,h.decls.later hb,h.procs.later hb,h.main.later hb⟩
theorem DAt.str {w:World} {A:Nat->Prop} {a:OA} {l:List ByteArray} (h:DAt w A a l.length (zan l)) (i:Nat) (hi:i<l.length):∃ b off,a=some ⟨b,off,none⟩/\b<w.heap.size/\w.cell? ⟨b,off+i,none⟩=some (.string l[i])/\l[i].size<=maxLen:=by
 obtain ⟨b,off,ha,hb,hc⟩:=h.cell (by omega);obtain ⟨v,hv,hd⟩:=hc i (.str l[i]) (by simp [zan,hi]);obtain ⟨rfl,h2⟩:=zdm hd;exact ⟨b,off,ha,hb,hv,h2⟩
theorem DAt.de {w:World} {A:Nat->Prop} {a:OA} {l:List De} (h:DAt w A a l.length (zi4 l)) (i:Nat) (hi:i<l.length):∃ b off,a=some ⟨b,off,none⟩/\DeAt w b (off+i*4) l[i]:=by
 obtain ⟨b,off,ha,hb,hc⟩:=h.cell (by omega);generalize hx:l[i]=x;obtain ⟨kind,name,pub,n⟩:=x
 have g:∀ j d,j<4->(De.mk kind name pub n).ds[j]? = some d->∃ v,w.cell? ⟨b,off+i*4+j,none⟩=some v/\zde w A d v:=fun j d hj hd=>by
  rw [vbj];exact hc (i*4+j) d ((zd8 De.ds 4 (fun _=>rfl) l i hi j hj).trans (by rw [hx];exact hd))
 obtain ⟨v0,k0,d0⟩:=g 0 (.int kind) (by omega) (by simp [De.ds]);obtain ⟨v1,k1,d1⟩:=g 1 (.str name) (by omega) (by simp [De.ds]);obtain ⟨v2,k2,d2⟩:=g 2 (.bool pub) (by omega) (by simp [De.ds]);obtain ⟨v3,k3,d3⟩:=g 3 (.int n) (by omega) (by simp [De.ds]);obtain ⟨rfl,w0⟩:=zb9 d0;obtain ⟨rfl,w1⟩:=zdm d1;obtain rfl:=zrg d2;obtain ⟨rfl,w3⟩:=zb9 d3;exact ⟨b,off,ha,hb,k0,k1,k2,k3,w0,w3,w1⟩
theorem DAt.pr {w:World} {A:Nat->Prop} {a:OA} {l:List Pr} (h:DAt w A a l.length (zhj l)) (i:Nat) (hi:i<l.length):∃ b off a1 c1 a2 c2 a3 c3,a=some ⟨b,off,none⟩/\PrAt w A b (off+i*5) l[i] a1 c1 a2 c2 a3 c3:=by
 obtain ⟨b,off,ha,hb,hc⟩:=h.cell (by omega);generalize hx:l[i]=x;obtain ⟨name,pub,params,locals,body⟩:=x
 have g:∀ j d,j<5->(Pr.mk name pub params locals body).ds[j]? = some d->∃ v,w.cell? ⟨b,off+i*5+j,none⟩=some v/\zde w A d v:=fun j d hj hd=>by
  rw [vbj];exact hc (i*5+j) d ((zd8 Pr.ds 5 (fun _=>rfl) l i hi j hj).trans (by rw [hx];exact hd))
 obtain ⟨v0,k0,d0⟩:=g 0 (.str name) (by omega) (by simp [Pr.ds]);obtain ⟨v1,k1,d1⟩:=g 1 (.bool pub) (by omega) (by simp [Pr.ds]);obtain ⟨v2,k2,d2⟩:=g 2 (.list params.length (zan params)) (by omega) (by simp [Pr.ds]);obtain ⟨v3,k3,d3⟩:=g 3 (.list locals.length (zan locals)) (by omega) (by simp [Pr.ds]);obtain ⟨v4,k4,d4⟩:=g 4 (.list body.length (za2 body)) (by omega) (by simp [Pr.ds]);obtain ⟨rfl,w0⟩:=zdm d0;obtain rfl:=zrg d1;obtain ⟨a1,c1,rfl,h1⟩:=zbg d2;obtain ⟨a2,c2,rfl,h2⟩:=zbg d3;obtain ⟨a3,c3,rfl,h3⟩:=zbg d4;exact ⟨b,off,a1,c1,a2,c2,a3,c3,ha,hb,k0,k1,k2,k3,k4,h1,h2,h3,w0⟩
theorem DAt.mo {w:World} {A:Nat->Prop} {a:OA} {l:List Mo} (h:DAt w A a l.length (z2s l)) (i:Nat) (hi:i<l.length):∃ b off v a1 c1 a2 c2 a3 c3 a4 c4,a=some ⟨b,off,none⟩/\b<w.heap.size/\MoAt w A l[i] v a1 c1 a2 c2 a3 c3 a4 c4/\
 w.cell? ⟨b,off+i*5,none⟩=some (.string l[i].name)/\w.cell? ⟨b,off+i*5+1,none⟩=some (.slice a1 l[i].uses.length c1)/\w.cell? ⟨b,off+i*5+2,none⟩=some (.slice a2 l[i].decls.length c2)/\
 w.cell? ⟨b,off+i*5+3,none⟩=some (.slice a3 l[i].procs.length c3)/\w.cell? ⟨b,off+i*5+4,none⟩=some (.slice a4 l[i].main.length c4):=by
 obtain ⟨b,off,ha,hb,hc⟩:=h.cell (by omega);generalize hx:l[i]=x;obtain ⟨name,uses,decls,procs,main⟩:=x
 have g:∀ j d,j<5->(Mo.mk name uses decls procs main).ds[j]? = some d->∃ v,w.cell? ⟨b,off+i*5+j,none⟩=some v/\zde w A d v:=fun j d hj hd=>by
  rw [vbj];exact hc (i*5+j) d ((zd8 Mo.ds 5 (fun _=>rfl) l i hi j hj).trans (by rw [hx];exact hd))
 obtain ⟨v0,k0,d0⟩:=g 0 (.str name) (by omega) (by simp [Mo.ds]);obtain ⟨v1,k1,d1⟩:=g 1 (.list uses.length (zan uses)) (by omega) (by simp [Mo.ds]);obtain ⟨v2,k2,d2⟩:=g 2 (.list decls.length (zi4 decls)) (by omega) (by simp [Mo.ds,zi4]);obtain ⟨v3,k3,d3⟩:=g 3 (.list procs.length (zhj procs)) (by omega) (by simp [Mo.ds,zhj]);obtain ⟨v4,k4,d4⟩:=g 4 (.list main.length (za2 main)) (by omega) (by simp [Mo.ds]);obtain ⟨rfl,w0⟩:=zdm d0;obtain ⟨a1,c1,rfl,h1⟩:=zbg d1;obtain ⟨a2,c2,rfl,h2⟩:=zbg d2;obtain ⟨a3,c3,rfl,h3⟩:=zbg d3;obtain ⟨a4,c4,rfl,h4⟩:=zbg d4;exact ⟨b,off,_,a1,c1,a2,c2,a3,c3,a4,c4,ha,hb,⟨rfl,w0,h1,h2,h3,h4⟩,k0,k1,k2,k3,k4⟩
mutual
def zez (w:World) (A:Nat->Prop):D->Value->Prop
 | .int n,v=>v = .int .i64 n
 | .str s,v=>v = .string s/\s.size<=maxLen
 | .bool b,v=>v = .bool b
 | .list n ds,v=>∃ a cap,v = .slice a n cap/\(n=0\/∃ b off cs,a=some ⟨b,off,none⟩/\A b/\b<w.heap.size/\zfn w b off cs/\zap w A ds cs)
def zap (w:World) (A:Nat->Prop):List D->List Value->Prop
 | [],cs=>cs=[]
 | d :: ds,cs=>∃ v r,cs=v :: r/\zez w A d v/\zap w A ds r
end
mutual
theorem zez.moves {A A':Nat->Prop} {w w':World} (hs:zae w A w' A'):∀ (d:D) (v:Value),zez w A d v->zez w' A' d v
 | .int _,_,h=>h
 | .str _,_,h=>h
 | .bool _,_,h=>h
 | .list n ds,v,h=>by
   unfold zez at h ⊢;obtain ⟨a,cap,h1,h4⟩:=h;refine ⟨a,cap,h1,?_⟩
   rcases h4 with h4 | ⟨b,off,cs,ha,hl,hb,hc,hx⟩
   . exact Or.inl h4
   . exact Or.inr ⟨b,off,cs,ha,(hs.2 b hb hl).1,vai hb hs.1,hc.moves hs hl hb,zap.moves hs ds cs hx⟩
theorem zap.moves {A A':Nat->Prop} {w w':World} (hs:zae w A w' A'):∀ (l:List D) (cs:List Value),zap w A l cs->zap w' A' l cs
 | [],_,h=>h
 | d :: ds,cs,h=>by
   unfold zap at h ⊢;obtain ⟨v,r,h1,h2,h3⟩:=h;exact ⟨v,r,h1,zez.moves hs d v h2,zap.moves hs ds r h3⟩
end
theorem zez.one {w:World} {lo:Nat->Prop}:∀ {d:D} {v:Value},zez w lo d v->v.oneCell'=true
 | .int _,_,h=>by unfold zez at h;rw [h];rfl
 | .str _,_,h=>by unfold zez at h;rw [h.1];rfl
 | .bool _,_,h=>by unfold zez at h;rw [h];rfl
 | .list _ _,_,h=>by unfold zez at h;obtain ⟨a,cap,h,_⟩:=h;rw [h];rfl
theorem zap.one {w:World} {lo:Nat->Prop}:∀ {l:List D} {cs:List Value},zap w lo l cs->∀ u ∈ cs,u.oneCell'=true
 | [],_,h=>by unfold zap at h;rw [h];intro u hu;cases hu
 | d :: ds,cs,h=>by
   unfold zap at h;obtain ⟨v,r,rfl,h2,h3⟩:=h;intro u hu
   rcases vbo.1 hu with rfl | hu
   . exact h2.one
   . exact zap.one h3 u hu
theorem zap.len {w:World} {lo:Nat->Prop}:∀ {l:List D} {cs:List Value},zap w lo l cs->cs.length=l.length
 | [],_,h=>by unfold zap at h;rw [h];rfl
 | d :: ds,cs,h=>by
   unfold zap at h;obtain ⟨v,r,rfl,h2,h3⟩:=h;simp [zap.len h3]
theorem zap.nil {w:World} {lo:Nat->Prop}:zap w lo [] []:=by unfold zap;rfl
theorem zap.cons {w:World} {lo:Nat->Prop} {d:D} {ds:List D} {v:Value} {cs:List Value} (h:zez w lo d v) (k:zap w lo ds cs):zap w lo (d :: ds) (v :: cs):=by
 unfold zap;exact ⟨v,cs,rfl,h,k⟩
theorem zap.append {w:World} {lo:Nat->Prop}:∀ {l m:List D} {cs es:List Value},zap w lo l cs->zap w lo m es->zap w lo (l++m) (cs++es)
 | [],m,cs,es,h,k=>by unfold zap at h;subst h;exact k
 | d :: ds,m,cs,es,h,k=>by
   unfold zap at h;obtain ⟨v,r,rfl,h2,h3⟩:=h;exact zap.cons h2 (zap.append h3 k)
theorem zap.get {w:World} {lo:Nat->Prop}:∀ {l:List D} {cs:List Value},zap w lo l cs->∀ (j:Nat) (d:D),l[j]? = some d->∃ v,cs[j]? = some v/\zez w lo d v
 | [],_,_,j,d,hj=>by simp at hj
 | e :: ds,cs,h,j,d,hj=>by
   unfold zap at h;obtain ⟨v,r,rfl,h2,h3⟩:=h
   cases j with
   | zero=>simp at hj;subst hj;exact ⟨v,rfl,h2⟩
   | succ j=>simpa using zap.get h3 j d (by simpa using hj)
theorem zni {w:World} {lo:Nat->Prop} {n:Int}:zez w lo (.int n) (.int .i64 n):=by unfold zez;rfl
theorem zs5 {w:World} {lo:Nat->Prop} {s:ByteArray} (h:s.size<=maxLen):zez w lo (.str s) (.string s):=by unfold zez;exact ⟨rfl,h⟩
theorem z1o {w:World} {lo:Nat->Prop} {b:Bool}:zez w lo (.bool b) (.bool b):=by unfold zez;rfl
theorem zdf {w:World} {lo:Nat->Prop} {n:Int} {v:Value} (h:zez w lo (.int n) v):v = .int .i64 n:=by unfold zez at h;exact h
theorem zp6 {w:World} {lo:Nat->Prop} {s:ByteArray} {v:Value} (h:zez w lo (.str s) v):v = .string s/\s.size<=maxLen:=by unfold zez at h;exact h
def EAt (w:World) (lo:Nat->Prop) (a:OA) (n:Nat) (ds:List D):Prop:=n=0\/∃ b off cs,a=some ⟨b,off,none⟩/\lo b/\b<w.heap.size/\zfn w b off cs/\zap w lo ds cs
theorem zhk {w:World} {lo:Nat->Prop} {n:Nat} {ds:List D} {v:Value} (h:zez w lo (.list n ds) v):∃ a cap,v = .slice a n cap/\EAt w lo a n ds:=by unfold zez at h;exact h
theorem EAt.val {w:World} {lo:Nat->Prop} {n cap:Nat} {a:OA} {ds:List D} (h:EAt w lo a n ds):zez w lo (.list n ds) (.slice a n cap):=by unfold zez;exact ⟨a,cap,rfl,h⟩
theorem EAt.moves {A A':Nat->Prop} {w w':World} {n:Nat} {a:OA} {ds:List D} (h:EAt w A a n ds) (hs:zae w A w' A'):EAt w' A' a n ds:=by
 rcases h with h4 | ⟨b,off,cs,ha,hl,hb,hc,hx⟩
 . exact Or.inl h4
 . exact Or.inr ⟨b,off,cs,ha,(hs.2 b hb hl).1,vai hb hs.1,hc.moves hs hl hb,zap.moves hs ds cs hx⟩
theorem EAt.of_own {w:World} {A:Nat->Prop} {base n cap:Nat} {a:OA} {e:TypeId} {size:Nat} {ds:List D} {xs:List Value} (h:w.ownsRow base e size (.slice a n cap) n xs) (hl:∀ b,base<=b->A b) (hx:zap w A ds xs):EAt w A a n ds:=by
 rcases h.2 with ⟨h1,h2⟩ | ⟨g,cap',cur,h1,hb,hg,hn,hc,hs,ht⟩
 . exact Or.inl h2
 . injection h1 with h1 _ _
   refine Or.inr ⟨g,0,xs,h1,hl g hb,zaa hg,fun j u hj=>?_,hx⟩;have:=h.cells (g:=g) (by rw [h1];rfl) j u hj;rw [vbc]
   have e:(⟨g,0,none⟩:Addr).add j=⟨g,j,none⟩:=by unfold Addr.add;split<;>simp_all
   rwa [e] at this
mutual
def D.fine:D->Prop
 | .int n=>(Lit.int .i64 n).wf=true
 | .str _=>True
 | .bool _=>True
 | .list n ds=>n<=ds.length/\ds.length<=17592186044416/\D.fines ds
def D.fines:List D->Prop
 | []=>True
 | d :: ds=>d.fine/\D.fines ds
end
mutual
theorem zez.toD {A:Nat->Prop} {w:World}:∀ (d:D) (v:Value),zez w A d v->d.fine->zde w A d v
 | .int _,_,h,k=>by unfold zez at h;unfold D.fine at k;unfold zde;exact ⟨h,k⟩
 | .str _,_,h,_=>by unfold zez at h;unfold zde;exact h
 | .bool _,_,h,_=>by unfold zez at h;unfold zde;exact h
 | .list n ds,v,h,k=>by
   unfold zez at h;unfold D.fine at k;unfold zde;obtain ⟨a,cap,h1,h4⟩:=h;refine ⟨a,cap,h1,k.1,k.2.1,?_⟩
   rcases h4 with h4 | ⟨b,off,cs,ha,hl,hb,hc,hx⟩
   . exact Or.inl h4
   . exact Or.inr ⟨b,off,cs,ha,hl,hb,hc,zap.toD ds cs hx k.2.2⟩
theorem zap.toD {A:Nat->Prop} {w:World}:∀ (l:List D) (cs:List Value),zap w A l cs->D.fines l->zbe w A l cs
 | [],_,h,_=>by unfold zap at h;unfold zbe;exact h
 | d :: ds,cs,h,k=>by
   unfold zap at h;unfold D.fines at k;unfold zbe;obtain ⟨v,r,h1,h2,h3⟩:=h;exact ⟨v,r,h1,zez.toD d v h2 k.1,zap.toD ds r h3 k.2⟩
end
theorem EAt.toD {A:Nat->Prop} {w:World} {a:OA} {n:Nat} {ds:List D} (h:EAt w A a n ds) (h1:n<=ds.length) (h2:ds.length<=17592186044416) (k:D.fines ds):DAt w A a n ds:=by
 refine ⟨h1,h2,?_⟩
 rcases h with h | ⟨b,off,cs,ha,hl,hb,hc,hx⟩
 . exact Or.inl h
 . exact Or.inr ⟨b,off,cs,ha,hl,hb,hc,hx.toD _ _ k⟩
theorem D.fines_append:∀ {l m:List D},D.fines l->D.fines m->D.fines (l++m)
 | [],_,_,k=>k
 | d :: ds,m,h,k=>by
   unfold D.fines at h;show D.fines (d :: (ds++m));unfold D.fines;exact ⟨h.1,D.fines_append h.2 k⟩
inductive Nd where
 | mk (op n m at_:Int) (args:List Nd)
def Nd.op:Nd->Int | .mk op _ _ _ _=>op
def Nd.n:Nd->Int | .mk _ n _ _ _=>n
def Nd.m:Nd->Int | .mk _ _ m _ _=>m
def Nd.at_:Nd->Int | .mk _ _ _ a _=>a
def Nd.args:Nd->List Nd | .mk _ _ _ _ l=>l
inductive Ac where
 | mk (op n m at_:Int) (args:List Nd) (body other:List Ac)
def Ac.op:Ac->Int | .mk op _ _ _ _ _ _=>op
def Ac.n:Ac->Int | .mk _ n _ _ _ _ _=>n
def Ac.m:Ac->Int | .mk _ _ m _ _ _ _=>m
def Ac.at_:Ac->Int | .mk _ _ _ a _ _ _=>a
def Ac.args:Ac->List Nd | .mk _ _ _ _ l _ _=>l
def Ac.body:Ac->List Ac | .mk _ _ _ _ _ l _=>l
def Ac.other:Ac->List Ac | .mk _ _ _ _ _ _ l=>l
mutual
def Nd.ds:Nd->List D
 | .mk op n m a args=>[.int op,.int n,.int m,.int a,.list args.length (ze0 args)]
def ze0:List Nd->List D
 | []=>[]
 | x :: r=>x.ds++ze0 r
end
mutual
def Ac.ds:Ac->List D
 | .mk op n m a args body other=>[.int op,.int n,.int m,.int a,.list args.length (ze0 args),.list body.length (zc2 body),.list other.length (zc2 other)]
def zc2:List Ac->List D
 | []=>[]
 | x :: r=>x.ds++zc2 r
end
theorem Nd.ds_len (x:Nd):x.ds.length=5:=by cases x;unfold Nd.ds;rfl
theorem Ac.ds_len (x:Ac):x.ds.length=7:=by cases x;unfold Ac.ds;rfl
theorem zgr:∀ (l m:List Nd),ze0 (l++m)=ze0 l++ze0 m
 | [],m=>by simp [ze0]
 | x :: r,m=>by simp [ze0,zgr r m]
theorem zgs:∀ (l m:List Ac),zc2 (l++m)=zc2 l++zc2 m
 | [],m=>by simp [zc2]
 | x :: r,m=>by simp [zc2,zgs r m]
theorem zrk (x:Nd):ze0 [x]=x.ds:=by simp [ze0]
theorem zrl (x:Ac):zc2 [x]=x.ds:=by simp [zc2]
structure Pt where
 params:Int
 locals:Int
 body:List Ac
def Pt.ds (p:Pt):List D:=[.int p.params,.int p.locals,.list p.body.length (zc2 p.body)]
def ptsD (l:List Pt):List D:=l.flatMap Pt.ds
structure Un where
 name:ByteArray
 uses:List ByteArray
 data:Int
 parts:List Pt
 main:List Ac
structure Mg where
 kind:Int
 n:Int
 m:Int
 at_:Int
def mg0:Mg:=⟨0,0,0,0⟩
abbrev Kn:=ByteArray->ByteArray->Option Mg
abbrev Lc:=ByteArray->Option Int
def zhl (K:Kn) (L:Lc) (mod name:ByteArray):Option Mg:=
 if mod.size=0 then (match L name with | some a=>some ⟨0,0,0,a⟩ | none=>K mod name) else K mod name
def findM (K:Kn) (L:Lc) (mod name:ByteArray) (ks:List Int):Mg × Int:=
 match zhl K L mod name with
 | none=>(mg0,5)
 | some x=>if ks.contains x.kind then (x,0) else (mg0,7)
def zdn (K:Kn) (L:Lc) (mod name:ByteArray) (handed:Int):Mg × Int:=
 if (findM K L mod name [4]).2=0/\(findM K L mod name [4]).1.n≠handed then (mg0,8) else findM K L mod name [4]
structure Al where
 op:Int
 n:Int
 m:Int
 at_:Int
 err:Int
def ztr (K:Kn) (L:Lc) (mod name:ByteArray):Al:=
 if (findM K L mod name [0,1,2]).2≠0 then ⟨0,0,0,0,(findM K L mod name [0,1,2]).2⟩
 else if (findM K L mod name [0,1,2]).1.kind=1 then ⟨1,(findM K L mod name [0,1,2]).1.n,0,0,0⟩
 else if (findM K L mod name [0,1,2]).1.kind=2 then ⟨3,0,(findM K L mod name [0,1,2]).1.m,(findM K L mod name [0,1,2]).1.at_,0⟩
 else ⟨16,0,0,(findM K L mod name [0,1,2]).1.at_,0⟩
def ndM (K:Kn) (L:Lc) (x:Ex):Al:=
 if x.op=3 then ztr K L x.mod x.name
 else if x.op=4 then ⟨4,(findM K L x.mod x.name [3]).1.n,(findM K L x.mod x.name [3]).1.m,(findM K L x.mod x.name [3]).1.at_,(findM K L x.mod x.name [3]).2⟩
 else if x.op=5 then ⟨5,0,(zdn K L x.mod x.name x.args.length).1.m,(zdn K L x.mod x.name x.args.length).1.at_,(zdn K L x.mod x.name x.args.length).2⟩
 else ⟨x.op,x.n,0,0,0⟩
def acM (K:Kn) (L:Lc) (s:St):Al:=
 if s.op=1 then ⟨1,0,if (findM K L s.mod s.name [0,2]).1.kind=0 then -1 else (findM K L s.mod s.name [0,2]).1.m,(findM K L s.mod s.name [0,2]).1.at_,(findM K L s.mod s.name [0,2]).2⟩
 else if s.op=2 then ⟨2,(findM K L s.mod s.name [3]).1.n,(findM K L s.mod s.name [3]).1.m,(findM K L s.mod s.name [3]).1.at_,(findM K L s.mod s.name [3]).2⟩
 else if s.op=3 then ⟨3,0,(zdn K L s.mod s.name s.args.length).1.m,(zdn K L s.mod s.name s.args.length).1.at_,(zdn K L s.mod s.name s.args.length).2⟩
 else ⟨s.op,0,0,0,0⟩
def zce {α β:Type}:Except Int α->(α->Except Int β)->Except Int β
 | .error e,_=>.error e
 | .ok a,f=>f a
def alE (a:Al):Except Int Al:=if a.err=0 then .ok a else .error a.err
mutual
def rsE (K:Kn) (L:Lc):Ex->Except Int Nd
 | .mk op n mod name args=>zce (alE (ndM K L (.mk op n mod name args))) fun h=>zce (zei K L args) fun l=>.ok (.mk h.op h.n h.m h.at_ l)
def zei (K:Kn) (L:Lc):List Ex->Except Int (List Nd)
 | []=>.ok []
 | x :: r=>zce (rsE K L x) fun y=>zce (zei K L r) fun l=>.ok (y :: l)
end
mutual
def rsS (K:Kn) (L:Lc):St->Except Int Ac
 | .mk op mod name args body other=>zce (alE (acM K L (.mk op mod name args body other))) fun h=>zce (zei K L args) fun l=>zce (zdv K L body) fun b=>zce (zdv K L other) fun o=>.ok (.mk h.op h.n h.m h.at_ l b o)
def zdv (K:Kn) (L:Lc):List St->Except Int (List Ac)
 | []=>.ok []
 | x :: r=>zce (rsS K L x) fun y=>zce (zdv K L r) fun l=>.ok (y :: l)
end
theorem zmy {α:Type} (x:Except Int α):zce x .ok=x:=by cases x<;>rfl
theorem zmz (K:Kn) (L:Lc):∀ (a b:List Ex) (acc:List Nd),zei K L a = .ok acc->zei K L (a++b)=zce (zei K L b) fun l=>.ok (acc++l)
 | [],b,acc,h=>by
   rw [zei] at h;obtain rfl:=vcv h;show zei K L b=_;exact (zmy _).symm
 | x :: a,b,acc,h=>by
   rw [zei] at h;show zei K L (x :: (a++b))=_;rw [zei]
   cases hx:rsE K L x with
   | error e=>rw [hx] at h;cases h
   | ok y=>
     rw [hx] at h;simp only [zce] at h ⊢
     cases ha:zei K L a with
     | error e=>rw [ha] at h;cases h
     | ok l=>
       rw [ha] at h;obtain rfl:=vcv h;rw [zmz K L a b l ha]
       cases zei K L b<;>rfl
theorem zm0 (K:Kn) (L:Lc):∀ (a b:List St) (acc:List Ac),zdv K L a = .ok acc->zdv K L (a++b)=zce (zdv K L b) fun l=>.ok (acc++l)
 | [],b,acc,h=>by
   rw [zdv] at h;obtain rfl:=vcv h;show zdv K L b=_;exact (zmy _).symm
 | x :: a,b,acc,h=>by
   rw [zdv] at h;show zdv K L (x :: (a++b))=_;rw [zdv]
   cases hx:rsS K L x with
   | error e=>rw [hx] at h;cases h
   | ok y=>
     rw [hx] at h;simp only [zce] at h ⊢
     cases ha:zdv K L a with
     | error e=>rw [ha] at h;cases h
     | ok l=>
       rw [ha] at h;obtain rfl:=vcv h;rw [zm0 K L a b l ha]
       cases zdv K L b<;>rfl
theorem zm1 {α:Type} (l:List α) (j:Nat) (h:j<l.length):l=l.take j++l[j] :: l.drop (j+1):=by
 rw [List.getElem_cons_drop,vdh]
theorem zxz {K:Kn} {L:Lc} {l:List Ex} {j:Nat} {acc:List Nd} {e:Int} (h:j<l.length) (ha:zei K L (l.take j) = .ok acc) (he:rsE K L l[j] = .error e):zei K L l = .error e:=by
 rw [zm1 l j h,zmz K L _ _ acc ha,zei,he];rfl
theorem zv4 {K:Kn} {L:Lc} {l:List Ex} {j:Nat} {acc:List Nd} {y:Nd} (h:j<l.length) (ha:zei K L (l.take j) = .ok acc) (he:rsE K L l[j] = .ok y):zei K L (l.take (j+1)) = .ok (acc++[y]):=by
 rw [vag h,zmz K L _ _ acc ha,zei,he];rfl
theorem zx0 {K:Kn} {L:Lc} {l:List St} {j:Nat} {acc:List Ac} {e:Int} (h:j<l.length) (ha:zdv K L (l.take j) = .ok acc) (he:rsS K L l[j] = .error e):zdv K L l = .error e:=by
 rw [zm1 l j h,zm0 K L _ _ acc ha,zdv,he];rfl
theorem zv5 {K:Kn} {L:Lc} {l:List St} {j:Nat} {acc:List Ac} {y:Ac} (h:j<l.length) (ha:zdv K L (l.take j) = .ok acc) (he:rsS K L l[j] = .ok y):zdv K L (l.take (j+1)) = .ok (acc++[y]):=by
 rw [vag h,zm0 K L _ _ acc ha,zdv,he];rfl
theorem zrm (K:Kn) (L:Lc) (x:Ex):rsE K L x=zce (alE (ndM K L x)) fun h=>zce (zei K L x.args) fun l=>.ok (.mk h.op h.n h.m h.at_ l):=by
 obtain ⟨op,n,mod,name,args⟩:=x;rw [rsE];rfl
theorem zlz (K:Kn) (L:Lc) (x:St):rsS K L x=zce (alE (acM K L x)) fun h=>zce (zei K L x.args) fun l=>zce (zdv K L x.body) fun b=>zce (zdv K L x.other) fun o=>.ok (.mk h.op h.n h.m h.at_ l b o):=by
 obtain ⟨op,mod,name,args,body,other⟩:=x;rw [rsS];rfl
structure Sh where
 named:Bool
 number:Bool
 least:Int
 most:Int
 body:Bool
 other:Bool
def Sh.val (s:Sh):Value:=.agg #[.bool s.named,.bool s.number,.int .i64 s.least,.int .i64 s.most,.bool s.body,.bool s.other]
def sh0:Sh:=⟨false,false,0,0,false,false⟩
def zhm (op:Int):Option Sh:=
 if op=1 then some ⟨false,true,0,0,false,false⟩ else if op=2 then some sh0 else if op=3 then some ⟨true,false,0,0,false,false⟩
 else if op=4 then some ⟨true,false,1,1,false,false⟩ else if op=5 then some ⟨true,false,0,3,false,false⟩ else if op=6 then some ⟨false,false,1,1,false,false⟩
 else if 7<=op/\op<=15 then some ⟨false,false,2,2,false,false⟩ else none
def zi5 (op:Int):Option Sh:=
 if op=1 then some ⟨true,false,1,1,false,false⟩ else if op=2 then some ⟨true,false,2,2,false,false⟩ else if op=3 then some ⟨true,false,0,3,false,false⟩
 else if op=4 then some ⟨false,false,1,1,true,true⟩ else if op=5 then some ⟨false,false,1,1,true,false⟩ else if op=6 then some ⟨false,false,1,1,false,false⟩
 else if op=7 then some ⟨false,false,1,1,false,false⟩ else none
def exB (op:Int):Bool:=(zhm op).isSome
def stB (op:Int):Bool:=(zi5 op).isSome
def exS (op:Int):Sh:=(zhm op).getD sh0
def stS (op:Int):Sh:=(zi5 op).getD sh0
def kept:List (L8):=[[109,111,100,117,108,101],[117,115,101],[112,117,98],[99,111,110,115,116],[118,97,114],[97,114,114,97,121],[112,114,111,99],[108,111,99,97,108],[109,97,105,110],
 [105,102],[101,108,115,101],[119,104,105,108,101],[114,101,116,117,114,110],[111,117,116],[105,110]]
def zj5 (s:ByteArray):Bool:=kept.contains s.data.toList
def nameOk (s:ByteArray):Bool:=!zj5 s&&Lx.zcq s.data.toList
def numOkB (n:Int):Bool:=decide (0<=n)&&decide (n<=1099511627775)
def zca (h:Sh) (mod name:ByteArray):Bool:=if h.named then nameOk name&&(decide (mod.size=0)||nameOk mod) else decide (mod.size=0)&&decide (name.size=0)
def nOk (h:Sh) (n:Int):Bool:=if h.number then numOkB n else decide (n=0)
def zas (h:Sh) (k:Nat):Bool:=decide (h.least<=(k:Int))&&decide ((k:Int)<=h.most)
def zau:Nat->List Ex->Bool
 | 0,_=>true
 | k+1,l=>l.all (fun x=>exB x.op&&zau k x.args)
def zal:Nat->List St->Bool
 | 0,_=>true
 | k+1,l=>l.all (fun s=>stB s.op&&(zau 6 s.args&&(zal k s.body&&zal k s.other)))
def zai:Nat->List Ex->Bool
 | 0,l=>decide (0<l.length)
 | k+1,l=>decide (3<l.length)||l.any (fun x=>zai k x.args)
def zag:Nat->List St->Bool
 | 0,_=>true
 | k+1,l=>decide (10<l.length)||l.any (fun s=>zai 6 s.args||(((stS s.op).body||decide (0<s.body.length))&&zag k s.body||(decide (0<s.other.length)&&zag k s.other)))
def zbc:Nat->List Ex->Bool
 | 0,_=>true
 | k+1,l=>l.all (fun x=>zca (exS x.op) x.mod x.name&&(nOk (exS x.op) x.n&&(zas (exS x.op) x.args.length&&zbc k x.args)))
def zaj:Nat->List St->Bool
 | 0,_=>true
 | k+1,l=>l.all (fun s=>zca (stS s.op) s.mod s.name&&(zas (stS s.op) s.args.length&&(zbc 6 s.args&&(((stS s.op).body||decide (s.body.length=0))&&(((stS s.op).other||decide (s.other.length=0))&&(zaj k s.body&&zaj k s.other))))))
def zcf (d:De):Bool:=if d.kind=1 then numOkB d.n else if d.kind=3 then decide (1<=d.n)&&decide (d.n<=32) else decide (d.n=0)
def Mo.bodies (m:Mo):List (List St):=m.procs.map Pr.body++[m.main]
def Mo.kinds (m:Mo):Bool:=m.decls.all (fun d=>decide (1<=d.kind)&&decide (d.kind<=3))&&m.bodies.all (zal 6)
def Mo.many (m:Mo):Bool:=decide (3<m.uses.length)||(decide (10<m.decls.length)||(decide (6<m.procs.length)||(m.procs.any (fun p=>decide (3<p.params.length)||decide (4<p.locals.length))||m.bodies.any (zag 6))))
def Mo.form (m:Mo):Bool:=nameOk m.name&&(m.uses.all nameOk&&(m.decls.all (fun d=>nameOk d.name&&zcf d)&&(m.procs.all (fun p=>nameOk p.name&&(p.params.all nameOk&&p.locals.all nameOk))&&m.bodies.all (zaj 6))))
def Mo.err (m:Mo):Int:=if m.kinds then (if m.many then 2 else (if m.form then 0 else 1)) else 4
theorem zat {α:Type} (ts:List α) (p:α->Bool) (k:Nat) (h:k<ts.length):(ts.take (k+1)).any p=((ts.take k).any p||p ts[k]):=by
 rw [vag h,List.any_append];simp
theorem zbj {α:Type} (ts:List α) (p:α->Bool) (k:Nat) (h:k<ts.length) (hp:p ts[k]=true):ts.any p=true:=by
 rw [List.any_eq_true];exact ⟨ts[k],vah _,hp⟩
theorem zej {α:Type} {ts:List α} {p:α->Bool} {k:Nat} (h:(ts.take k).all p=true) (hk:¬ k<ts.length):ts.all p=true:=by
 rw [vaq (by omega)] at h;exact h
theorem zbh {α:Type} {ts:List α} {p:α->Bool} {k:Nat} (h:(ts.take k).any p=false) (hk:¬ k<ts.length):ts.any p=false:=by
 rw [vaq (by omega)] at h;exact h
set_option maxRecDepth 100000
set_option maxHeartbeats 1600000
theorem zx1 (s:ByteArray):zj5 s=((s.toList == [109,111,100,117,108,101])||((s.toList == [117,115,101])||((s.toList == [112,117,98])||((s.toList == [99,111,110,115,116])||((s.toList == [118,97,114])||((s.toList == [97,114,114,97,121])||((s.toList == [112,114,111,99])||((s.toList == [108,111,99,97,108])||((s.toList == [109,97,105,110]) ||
 ((s.toList == [105,102])||((s.toList == [101,108,115,101])||((s.toList == [119,104,105,108,101])||((s.toList == [114,101,116,117,114,110])||((s.toList == [111,117,116])||((s.toList == [105,110])||false))))))))))))))):=by
 unfold zj5 kept;rw [vas];simp only [List.contains_cons,List.contains_nil]
theorem zl0 (s:ByteArray) (w:World) :
 Calls Tryz.prog 237 #[.string s] w fun e w'=>e = .returned (.bool (zj5 s))/\w'=w:=by
 go_enter Tryz.func237,Tryz.ntmps237;go_wp2_with fail
 all_goals go_ret
 all_goals refine ⟨zab ?_,rfl⟩
 all_goals rw [zx1]
 all_goals simp only [*,Bool.true_or,vaz,vby]
 all_goals simp_all only [vcs]
theorem zm2 (w:World) (o:Obj):(w.alloc o).heap[w.heap.size]? = some o:=(MapKept.heap_alloc w o).1
theorem zs6 (t:Tk) (hk:zd3 t=true):(zdr [t] == 0)=t.okB:=by
 unfold zdr;simp only [vbs,vcn,hk,Bool.and_true,if_true,vax,List.length_nil]
 cases t.okB<;>rfl
theorem z0f (t:Tk) (w:World) (hs:t.text.size<=maxLen):zdb (w.alloc (.cells #[.int .i64 t.kind,.int .i64 t.n,.string t.text] 184)) (some ⟨w.heap.size,0,none⟩) [t]:=by
 have h:∀ j u,#[Value.int .i64 t.kind,.int .i64 t.n,.string t.text][j]? = some u->(w.alloc (.cells #[.int .i64 t.kind,.int .i64 t.n,.string t.text] 184)).cell? ⟨w.heap.size,j,none⟩=some u:=fun j u hj=>by
  rw [veb (zm2 w _)];exact hj
 refine Or.inr ⟨_,0,rfl,by simp,?_,?_,?_,?_⟩
 . intro i hi
   obtain rfl:i=0:=by simpa using hi
   exact h 0 _ rfl
 . intro i hi
   obtain rfl:i=0:=by simpa using hi
   exact h 1 _ rfl
 . intro i hi
   obtain rfl:i=0:=by simpa using hi
   exact h 2 _ rfl
 . intro i hi
   obtain rfl:i=0:=by simpa using hi
   exact hs
theorem zof (t:Tk) (w:World) (hs:t.text.size<=maxLen) (hk:zd3 t=true) :
 Calls Tryz.prog 238 #[t.val] w fun e w'=>e = .returned (.bool t.okB)/\Below w.heap.size w w':=by
 have HK:Hid ((zdr [t] == 0)=t.okB):=zs6 t hk
 have HC:Hid (∀ (w1:World) (n:Nat),n=w1.heap.size->Calls Tryz.prog 116 #[.slice (some ⟨n,0,none⟩) 1 1] (w1.alloc (.cells #[.int .i64 t.kind,.int .i64 t.n,.string t.text] 184)) fun e w'=>e = .returned (.int .i64 (zdr [t]))/\Below w1.heap.size w1 w'):=
  fun w1 n hn=>by
   subst hn;refine (zuo _ 1 [t] _ (z0f t w1 hs) (by simp)).mono ?_;rintro e w' ⟨rfl,hb⟩;exact ⟨rfl,((Below.refl _ _).alloc (vaa _) _).trans (hb.mono (by simp))⟩
 obtain ⟨K,N,S⟩:=t;simp only [Tk.val] at *;go_enter Tryz.func238,Tryz.ntmps238
 go_wp2_with (go_at_call 116;refine (HC.out _ _ (by simp)).mono ?_;rintro e w' ⟨rfl,hb⟩)
 go_ret;exact ⟨zab HK.out,((Below.refl _ _).alloc (vaa _) _).trans (hb.mono (by simp))⟩
theorem zx2 (s:ByteArray):Tk.okB ⟨1,0,s⟩=Lx.zcq s.data.toList:=by simp [Tk.okB]
theorem z0g (n:Int):Tk.okB ⟨2,n,⟨#[]⟩⟩=numOkB n:=by simp [Tk.okB,numOkB,vas]
theorem zdw (s:ByteArray) (w:World) (hs:s.size<=maxLen) :
 Calls Tryz.prog 186 #[.string s] w fun e w'=>e = .returned (.bool (nameOk s))/\Below w.heap.size w w':=by
 have HC:Hid (∀ w1:World,Calls Tryz.prog 238 #[.agg #[.int .i64 1,.int .i64 0,.string s]] w1 fun e w'=>e = .returned (.bool (Lx.zcq s.data.toList))/\Below w1.heap.size w1 w'):=fun w1=>by
  rw [← zx2];exact zof ⟨1,0,s⟩ w1 hs rfl
 by_cases hk:zj5 s=true
 . have HN:Hid (nameOk s=false):=by show _=_;simp [nameOk,hk]
   go_enter Tryz.func186,Tryz.ntmps186
   go_wp2_with (go_at_call 237;refine (zl0 s _).mono ?_;rintro e w' ⟨rfl,rfl⟩)
   go_ret;exact ⟨zab (by rw [HN.out]),Below.refl _ _⟩
 . have hk':zj5 s=false:=by simpa using hk
   clear hk
   have HN:Hid (nameOk s=Lx.zcq s.data.toList):=by show _=_;simp [nameOk,hk']
   go_enter Tryz.func186,Tryz.ntmps186
   go_wp2_with (first | (go_at_call 237;refine (zl0 s _).mono ?_;rintro e w' ⟨rfl,rfl⟩) | (go_at_call 238;refine (HC.out _).mono ?_;rintro e w' ⟨rfl,hb⟩))
   go_ret;exact ⟨zab (by rw [HN.out]),hb⟩
theorem zj6 (n:Int) (w:World) :
 Calls Tryz.prog 241 #[.int .i64 n] w fun e w'=>e = .returned (.bool (numOkB n))/\Below w.heap.size w w':=by
 have HC:Hid (∀ w1:World,Calls Tryz.prog 238 #[.agg #[.int .i64 2,.int .i64 n,.string ⟨#[]⟩]] w1 fun e w'=>e = .returned (.bool (numOkB n))/\Below w1.heap.size w1 w'):=fun w1=>by
  rw [← z0g];exact zof ⟨2,n,⟨#[]⟩⟩ w1 (vad _) rfl
 go_enter Tryz.func241,Tryz.ntmps241
 go_wp2_with (go_at_call 238;refine (HC.out _).mono ?_;rintro e w' ⟨rfl,hb⟩)
 go_ret;exact ⟨rfl,hb⟩
theorem zcj (s:ByteArray):s.toList.isEmpty=decide (s.size=0):=by
 rw [vas];have h:=Lx.za1 s
 cases hl:s.data.toList with
 | nil=>rw [hl] at h;have h':s.size=0:=h.symm;simp [h']
 | cons c r => rw [hl] at h;have h':s.size≠0:=by simp at h;omega
               simp [h']
theorem zil (h:Sh) (mod name:ByteArray) (w:World) (h1:mod.size<=maxLen) (h2:name.size<=maxLen) :
 Calls Tryz.prog 242 #[h.val,.string mod,.string name] w fun e w'=>e = .returned (.bool (zca h mod name))/\Below w.heap.size w w':=by
 obtain ⟨a,b,c,d,e,f⟩:=h;simp only [Sh.val]
 cases a with
 | false=>
   have HR:Hid (zca ⟨false,b,c,d,e,f⟩ mod name=(mod.toList.isEmpty&&name.toList.isEmpty)):=by show _=_;simp [zca,zcj]
   cases hm:mod.toList.isEmpty with
   | false=>
     go_enter Tryz.func242,Tryz.ntmps242;go_wp2_with fail;go_ret;exact ⟨zab (by rw [HR.out,hm];rfl),(Below.refl _ _).alloc (vaa _) _⟩
   | true=>
     go_enter Tryz.func242,Tryz.ntmps242;go_wp2_with fail;go_ret;exact ⟨zab (by rw [HR.out,hm];rfl),(Below.refl _ _).alloc (vaa _) _⟩
 | true=>
   have HR:Hid (zca ⟨true,b,c,d,e,f⟩ mod name=(nameOk name&&(mod.toList.isEmpty||nameOk mod))):=by show _=_;simp [zca,zcj]
   cases hn:nameOk name with
   | false=>
     go_enter Tryz.func242,Tryz.ntmps242
     go_wp2_with (go_at_call 186;refine (zdw name _ h2).mono ?_;rw [hn];rintro e w' ⟨rfl,hb⟩)
     go_ret;exact ⟨zab (by rw [HR.out,hn];rfl),((Below.refl _ _).alloc (vaa _) _).trans (hb.mono (by simp))⟩
   | true=>
     cases hm:mod.toList.isEmpty with
     | true=>
       go_enter Tryz.func242,Tryz.ntmps242
       go_wp2_with (go_at_call 186;refine (zdw name _ h2).mono ?_;rw [hn];rintro e w' ⟨rfl,hb⟩)
       go_ret;exact ⟨zab (by rw [HR.out,hn,hm];rfl),((Below.refl _ _).alloc (vaa _) _).trans (hb.mono (by simp))⟩
     | false=>
       go_enter Tryz.func242,Tryz.ntmps242;go_wp2_with fail;refine (zdw name _ h2).mono ?_;rw [hn];rintro e w1 ⟨rfl,hb⟩;go_wp2_with fail;refine (zdw mod _ h1).mono ?_;rintro e w2 ⟨rfl,hb2⟩;go_wp2_with fail;go_ret;exact ⟨zab (by rw [HR.out,hn,hm];simp),(((Below.refl _ _).alloc (vaa _) _).trans (hb.mono (by simp))).trans (hb2.mono (vbe (by simp) hb.size))⟩
theorem zj7 (h:Sh) (n:Int) (w:World) :
 Calls Tryz.prog 280 #[h.val,.int .i64 n] w fun e w'=>e = .returned (.bool (nOk h n))/\Below w.heap.size w w':=by
 obtain ⟨a,b,c,d,e,f⟩:=h;simp only [Sh.val]
 cases b with
 | false=>
   have HR:Hid (nOk ⟨a,false,c,d,e,f⟩ n=(n == 0)):=by show _=_;rw [vbt];simp [nOk]
   go_enter Tryz.func280,Tryz.ntmps280;go_wp2_with fail;go_ret;exact ⟨zab HR.out.symm,(Below.refl _ _).alloc (vaa _) _⟩
 | true=>
   have HR:Hid (nOk ⟨a,true,c,d,e,f⟩ n=numOkB n):=by show _=_;simp [nOk]
   go_enter Tryz.func280,Tryz.ntmps280
   go_wp2_with (go_at_call 241;refine (zj6 n _).mono ?_;rintro e w' ⟨rfl,hb⟩)
   go_ret;exact ⟨zab HR.out.symm,((Below.refl _ _).alloc (vaa _) _).trans (hb.mono (by simp))⟩
theorem zgb (h:Sh) (aa:OA) (k cap:Nat) (w:World) :
 Calls Tryz.prog 243 #[h.val,.slice aa k cap] w fun e w'=>e = .returned (.bool (zas h k))/\Below w.heap.size w w':=by
 obtain ⟨a,b,c,d,e,f⟩:=h;simp only [Sh.val];have HR:Hid (zas ⟨a,b,c,d,e,f⟩ k=(decide (c<=(k:Int))&&decide ((k:Int)<=d))):=rfl
 by_cases h1:c<=(k:Int)
 . go_enter Tryz.func243,Tryz.ntmps243
   go_wp2_with fail
   all_goals go_ret
   all_goals exact ⟨zab (by rw [HR.out];simp [*]<;>omega),(Below.refl _ _).alloc (vaa _) _⟩
 . go_enter Tryz.func243,Tryz.ntmps243
   go_wp2_with fail
   all_goals go_ret
   all_goals exact ⟨zab (by rw [HR.out];simp [*]<;>omega),(Below.refl _ _).alloc (vaa _) _⟩
theorem zm3 (x:De) (w:World) :
 Calls Tryz.prog 188 #[.agg #[.int .i64 x.kind,.string x.name,.bool x.pub,.int .i64 x.n]] w fun e w'=>e = .returned (.bool (zcf x))/\Below w.heap.size w w':=by
 obtain ⟨K,S,B,N⟩:=x
 by_cases k1:K=1
 . have HR:Hid (zcf ⟨K,S,B,N⟩=numOkB N):=if_pos k1
   subst k1;go_enter Tryz.func188,Tryz.ntmps188
   go_wp2_with (go_at_call 241;refine (zj6 N _).mono ?_;rintro e w' ⟨rfl,hb⟩)
   go_ret;exact ⟨zab HR.out.symm,((Below.refl _ _).alloc (vaa _) _).trans (hb.mono (by simp))⟩
 . have b1:(K == 1)=false:=beq_eq_false_iff_ne.2 k1
   by_cases k3:K=3
   . have HR:Hid (zcf ⟨K,S,B,N⟩=(decide (1<=N)&&decide (N<=32))):=(if_neg k1).trans (if_pos k3)
     subst k3;clear k1 b1
     by_cases n1:1<=N
     . go_enter Tryz.func188,Tryz.ntmps188
       go_wp2_with fail
       all_goals go_ret
       all_goals exact ⟨zab (by rw [HR.out];simp [*]<;>omega),(Below.refl _ _).alloc (vaa _) _⟩
     . go_enter Tryz.func188,Tryz.ntmps188
       go_wp2_with fail
       all_goals go_ret
       all_goals exact ⟨zab (by rw [HR.out];simp [*]<;>omega),(Below.refl _ _).alloc (vaa _) _⟩
   . have b3:(K == 3)=false:=beq_eq_false_iff_ne.2 k3
     have HR:Hid (zcf ⟨K,S,B,N⟩=(N == 0)):=by
      show _=_
      rw [vbt];simp [zcf,k1,k3]
     clear k1 k3;go_enter Tryz.func188,Tryz.ntmps188;go_wp2_with fail
     all_goals go_ret
     all_goals exact ⟨zab (by rw [HR.out]),(Below.refl _ _).alloc (vaa _) _⟩
end Go.Proofs.YtndkhgakfodldaaGreatDoor

namespace Go.Proofs.YtndkhgakfodldaaGreatDoor
set_option maxRecDepth 100000
set_option maxHeartbeats 1600000
open Go.RowKit Go.Maps
def zv6 (v:Value):Option (DataW Value × List MemPlace):=some (.held v,[])
theorem zv7:Keyed Tryz.prog 3:=int_keyed Tryz.underlying3
theorem zy9 (w:World):(zeroValue 270).run Tryz.prog w = .ok sh0.val w:=by kernel_rfl
def zx3 (D:DataW Value) (f:Int->Option Sh):Prop:=∀ a:Int,has D (.int .i64 a)=(f a).isSome/\D.atKey (.int .i64 a) (.held sh0.val) = .held ((f a).getD sh0).val
def upd (f:Int->Option Sh) (k:Int) (s:Sh):Int->Option Sh:=fun a=>if a=k then some s else f a
theorem zx3.put {D:DataW Value} {f:Int->Option Sh} (h:zx3 D f) (hD:IsMap D) (k:Int) (s:Sh):zx3 (D.put (.int .i64 k) (.held s.val)) (upd f k s):=by
 intro a
 by_cases e:a=k
 . subst e
   simp only [upd,if_true];exact ⟨has_put_same (k:=.int .i64 a) hD trivial _,atKey_put_same (k:=.int .i64 a) hD trivial _ _⟩
 . simp only [upd,if_neg e]
   have hne:Lit.int .i64 a≠.int .i64 k:=fun h=>e (by injection h)
   rw [has_put_other hne,atKey_put_other hne];exact h a
def zc8 (w:World) (b n:Nat) (f:Int->Option Sh):Prop:=∃ D,w.ownsMap Tryz.prog 3 zv6 b n D/\zx3 D f
theorem zc8.later {w w':World} {b n:Nat} {f:Int->Option Sh} (h:zc8 w b n f) (hb:Below w.heap.size w w'):zc8 w' b n f:=by
 obtain ⟨D,h1,h2⟩:=h;have hlt:=h1.lt;obtain ⟨es,clock,hb',r⟩:=h1;exact ⟨D,⟨es,clock,(hb.block b hlt).trans hb',r⟩,h2⟩
theorem zc8.lt {w:World} {b n:Nat} {f:Int->Option Sh} (h:zc8 w b n f):b<w.heap.size:=by obtain ⟨D,h1,_⟩:=h;exact h1.lt
theorem zc8.made (w:World):zc8 (w.alloc (.map #[] 0)) w.heap.size 0 (fun _=>none):=
 ⟨.map [],veh w _ _ _,fun _=>⟨rfl,rfl⟩⟩
theorem zc8.look {w:World} {b n:Nat} {f:Int->Option Sh} (h:zc8 w b n f) {k:Int} (hk:(Lit.int .i64 k).wf=true) :
 (Instr.lookup 232 (.map (some b)) (.int .i64 k) false).run Tryz.prog w = .ok ((f k).getD sh0).val w:=by
 obtain ⟨D,h1,h2⟩:=h;obtain ⟨v,ps,hrun,hv⟩:=h1.lookup zv7 Tryz.underlying232 (zy9 w) (zd:=.held sh0.val) (zp:=[]) rfl (keyOf_int_mk Tryz.underlying3 hk);rw [(h2 k).2] at hv;simp only [zv6,vcx,vdu,vdv] at hv;rw [hrun,hv.1]
theorem zc8.look_ok {w:World} {b n:Nat} {f:Int->Option Sh} (h:zc8 w b n f) {k:Int} (hk:(Lit.int .i64 k).wf=true) :
 (Instr.lookup 232 (.map (some b)) (.int .i64 k) true).run Tryz.prog w = .ok (.tuple #[((f k).getD sh0).val,.bool (f k).isSome]) w:=by
 obtain ⟨D,h1,h2⟩:=h;obtain ⟨v,ps,hrun,hv⟩:=h1.look_ok zv7 Tryz.underlying232 (zy9 w) (zd:=.held sh0.val) (zp:=[]) rfl (keyOf_int_mk Tryz.underlying3 hk);rw [(h2 k).2] at hv;simp only [zv6,vcx,vdu,vdv] at hv;rw [hrun,hv.1,(h2 k).1]
theorem zc8.put {w:World} {b n:Nat} {f:Int->Option Sh} (h:zc8 w b n f) (hn:n<maxLen) {k:Int} (hk:(Lit.int .i64 k).wf=true) (s:Sh) :
 ∃ w',(Instr.mapUpdate 232 (.map (some b)) (.int .i64 k) s.val).run Tryz.prog w = .ok () w'/\zc8 w' b (n+1) (upd f k s)/\w.grownBy w' (some b):=by
 obtain ⟨D,h1,h2⟩:=h;obtain ⟨w',r1,r2,r3⟩:=h1.update zv7 Tryz.underlying232 hn (keyOf_int_mk Tryz.underlying3 hk) (val:=s.val) (d:=.held s.val) (ps:=[]) rfl;exact ⟨w',r1,⟨_,r2,h2.put h1.isMap k s⟩,r3⟩
theorem zog {ops:Array Oper} {rest:List Oper} {o:Oper} {a:Act} {w:World} {Q:Exit->Act->World->Prop} (hg:o.guard=none) (m x v:Operand) (hop:o.op=Op.insert 232 m x v) {b n:Nat} {f:Int->Option Sh} (hS:zc8 w b n f)
 (hm:a.eval m = .map (some b)) (k:Int) (hx:a.eval x = .int .i64 k) (x1 x2:Bool) (x3 x4:Int) (x5 x6:Bool) (hv:a.eval v = .agg #[.bool x1,.bool x2,.int .i64 x3,.int .i64 x4,.bool x5,.bool x6]) (hk:(Lit.int .i64 k).wf=true) (hn:n<maxLen)
 (hK:∀ w',zc8 w' b (n+1) (upd f k ⟨x1,x2,x3,x4,x5,x6⟩)->w.grownBy w' (some b)->wpList Tryz.prog ops Q rest (a.put o.dst undef) w'):wpList Tryz.prog ops Q (o :: rest) a w:=by
 refine wpList_plain hg fun K' hK'=>?_
 obtain ⟨w',hrun,r1,r2⟩:=hS.put hn hk ⟨x1,x2,x3,x4,x5,x6⟩;simp only [Sh.val] at hrun;unfold Oper.wp;simp [execOp,hop,hm,hx,hv,hrun,Result.andThen];exact hK' _ _ (hK w' r1 r2)
theorem zv8 {ops:Array Oper} {rest:List Oper} {o:Oper} {a:Act} {w:World} {Q:Exit->Act->World->Prop} (hg:o.guard=none) (m x v:Operand) (hop:o.op=Op.mapUpdate 232 m x v) {b n:Nat} {f:Int->Option Sh} (hS:zc8 w b n f)
 (hm:a.eval m = .map (some b)) (k:Int) (hx:a.eval x = .int .i64 k) (x1 x2:Bool) (x3 x4:Int) (x5 x6:Bool) (hv:a.eval v = .agg #[.bool x1,.bool x2,.int .i64 x3,.int .i64 x4,.bool x5,.bool x6]) (hk:(Lit.int .i64 k).wf=true) (hn:n<maxLen)
 (hK:∀ w',zc8 w' b (n+1) (upd f k ⟨x1,x2,x3,x4,x5,x6⟩)->w.grownBy w' (some b)->wpList Tryz.prog ops Q rest (a.put o.dst undef) w'):wpList Tryz.prog ops Q (o :: rest) a w:=by
 refine wpList_plain hg fun K' hK'=>?_
 obtain ⟨w',hrun,r1,r2⟩:=hS.put hn hk ⟨x1,x2,x3,x4,x5,x6⟩;simp only [Sh.val] at hrun;unfold Oper.wp;simp [execOp,hop,hm,hx,hv,hrun,Result.andThen];exact hK' _ _ (hK w' r1 r2)
def stF:Int->Option Sh:=upd (upd (upd (upd (upd (upd (upd (fun _=>none) 1 ⟨true,false,1,1,false,false⟩) 2 ⟨true,false,2,2,false,false⟩) 3 ⟨true,false,0,3,false,false⟩) 4 ⟨false,false,1,1,true,true⟩) 5 ⟨false,false,1,1,true,false⟩) 6 ⟨false,false,1,1,false,false⟩) 7 ⟨false,false,1,1,false,false⟩
theorem z1p:stF=zi5:=by
 funext a
 unfold stF upd zi5
 repeat' split
 all_goals first | rfl | omega
def z2k:Int->Option Sh:=upd (upd (upd (upd (upd (upd (fun _=>none) 1 ⟨false,true,0,0,false,false⟩) 2 ⟨false,false,0,0,false,false⟩) 3 ⟨true,false,0,0,false,false⟩) 4 ⟨true,false,1,1,false,false⟩) 5 ⟨true,false,0,3,false,false⟩) 6 ⟨false,false,1,1,false,false⟩
def exF (k:Nat):Int->Option Sh:=fun a=>if 7<=a/\a<7+(k:Int) then some ⟨false,false,2,2,false,false⟩ else z2k a
theorem zx4:z2k=exF 0:=by
 funext a
 unfold exF;rw [if_neg (by omega)]
theorem zx5 (k:Nat):upd (exF k) (7+(k:Int)) ⟨false,false,2,2,false,false⟩=exF (k+1):=by
 funext a
 simp only [upd,exF]
 by_cases e:a=7+(k:Int)
 . rw [if_pos e,if_pos (by omega)]
 . rw [if_neg e]
   by_cases h:7<=a/\a<7+(k:Int)
   . rw [if_pos h,if_pos (by omega)]
   . rw [if_neg h,if_neg (by omega)]
theorem z0h:exF 9=zhm:=by
 funext a
 unfold exF z2k upd zhm
 repeat' split
 all_goals first | rfl | omega
theorem zky (w:World) :
 Calls Tryz.prog 151 #[] w fun e w'=>∃ b,e = .returned (.map (some b))/\zc8 w' b 7 zi5/\Below w.heap.size w w':=by
 have hmm:=@run_makeMap Tryz.prog;have hS:=zc8.made w;have hB:Below w.heap.size w (w.alloc (.map #[] 0)):=(Below.refl _ _).alloc (vaa _) _;go_enter Tryz.func151,Tryz.ntmps151
 go_wp2_with (refine zog rfl _ _ _ rfl hS rfl _ rfl _ _ _ _ _ _ rfl (by decide) (by decide) ?_;clear hS;intro w1 hS hG;replace hB:=hB.grown hG hB.size (fun j hj=>by cases hj;exact vaa _);clear hG)
 go_ret;refine ⟨_,rfl,?_,hB⟩;rw [← z1p];exact hS
theorem zkz (w:World) :
 Calls Tryz.prog 150 #[] w fun e w'=>∃ b,e = .returned (.map (some b))/\zc8 w' b 15 zhm/\Below w.heap.size w w':=by
 have hmm:=@run_makeMap Tryz.prog;have hS:=zc8.made w;have hB:Below w.heap.size w (w.alloc (.map #[] 0)):=(Below.refl _ _).alloc (vaa _) _;go_enter Tryz.func150,Tryz.ntmps150
 go_wp2_with (refine zog rfl _ _ _ rfl hS rfl _ rfl _ _ _ _ _ _ rfl (by decide) (by decide) ?_;clear hS;intro w1 hS hG;replace hB:=hB.grown hG hB.size (fun j hj=>by cases hj;exact vaa _);clear hG)
 have hS0:zc8 w1 w.heap.size 6 (exF 0):=by rw [← zx4];exact hS
 clear hS
 go_loopw [2] (fun i wr=>∃ k:Nat,k<=9/\i = .int .i64 (7+(k:Int))/\zc8 wr w.heap.size (6+k) (exF k)/\Below w.heap.size w wr) (fun i _=>16 - (intOf i).toNat)
 case atStart=>exact ⟨0,by omega,rfl,hS0,hB⟩
 case round=>
  clear hS0 hB;obtain ⟨k,hk,rfl,hS,hB⟩:=hrel
  by_cases hlt:k<9
  . go_wp2_with (refine zv8 rfl _ _ _ rfl hS rfl _ rfl _ _ _ _ _ _ rfl (WalkArith.wf_i64 (by omega)) (by unfold maxLen;omega) ?_;clear hS;intro w2 hS hG;replace hB:=hB.grown hG hB.size (fun j hj=>by cases hj;exact vaa _);clear hG)
    rw [zx5] at hS;go_roundw
    case rel=>exact ⟨k+1,by omega,by go_num,hS,hB⟩
    case measure=>simp [intOf];omega
  . obtain rfl:k=9:=by omega
    go_wp2_with fail;go_ret;refine ⟨_,rfl,?_,hB⟩;rw [← z0h];exact hS
end Go.Proofs.YtndkhgakfodldaaGreatDoor
