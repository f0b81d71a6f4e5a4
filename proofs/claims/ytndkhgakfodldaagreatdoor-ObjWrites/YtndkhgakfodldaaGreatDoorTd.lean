import Derived.Test.YtndkhgakfodldaaGreatDoorLeafc
import Derived.Deep.AppendLies
namespace Go.Proofs.YtndkhgakfodldaaGreatDoor
open Go.RowKit
inductive D where
 | int (n:Int)
 | str (s:ByteArray)
 | bool (b:Bool)
 | list (n:Nat) (ds:List D)
def zg9 (w:World) (b off:Nat) (l:List Value):Prop:=∀ j u,l[j]? = some u->w.cell? ⟨b,off+j,none⟩=some u
mutual
def zd0 (w:World) (A:Nat->Prop):D->Value->Prop
 | .int n,v=>v = .int .i64 n/\(Lit.int .i64 n).wf=true
 | .str s,v=>v = .string s/\s.size<=maxLen
 | .bool b,v=>v = .bool b
 | .list n ds,v=>∃ a cap,v = .slice a n cap/\n<=ds.length/\ds.length<=17592186044416/\(n=0\/∃ b off cs,a=some ⟨b,off,none⟩/\A b/\b<w.heap.size/\zg9 w b off cs/\zav w A ds cs)
def zav (w:World) (A:Nat->Prop):List D->List Value->Prop
 | [],cs=>cs=[]
 | d :: ds,cs=>∃ v r,cs=v :: r/\zd0 w A d v/\zav w A ds r
end
def zha (lo:Nat) (w w':World):Prop:=w.heap.size<=w'.heap.size/\∀ k,lo<=k->k<w.heap.size->w'.heap[k]? = w.heap[k]?
theorem zha.refl (lo:Nat) (w:World):zha lo w w:=⟨vaa _,fun _ _ _=>rfl⟩
theorem zha.trans {lo:Nat} {a b c:World} (h:zha lo a b) (k:zha lo b c):zha lo a c:=
 ⟨vai h.1 k.1,fun i h1 h2=>(k.2 i h1 (vah h2 h.1)).trans (h.2 i h1 h2)⟩
theorem zha.mono {lo lo':Nat} {w w':World} (h:zha lo w w') (hl:lo<=lo'):zha lo' w w':=⟨h.1,fun k h1 h2=>h.2 k (vai hl h1) h2⟩
theorem zha.of_below {w w':World} (h:Below w.heap.size w w') (lo:Nat):zha lo w w':=⟨h.size,fun k _ h2=>h.block k h2⟩
theorem zha.cell {lo:Nat} {w w':World} (h:zha lo w w') {b off:Nat} (h1:lo<=b) (h2:b<w.heap.size):w'.cell? ⟨b,off,none⟩=w.cell? ⟨b,off,none⟩:=
 vet (w:=w) (h.2 b h1 h2)
theorem zha.alloc {lo:Nat} {w w':World} (h:zha lo w w') (o:Obj):zha lo w (w'.alloc o):=
 h.trans (zha.of_below ((Below.refl w'.heap.size w').alloc (vaa _) o) lo)
def zai (w:World) (A:Nat->Prop) (w':World) (A':Nat->Prop):Prop:=w.heap.size<=w'.heap.size/\∀ b,b<w.heap.size->A b->A' b/\w'.heap[b]? = w.heap[b]?
theorem zai.refl (w:World) (A:Nat->Prop):zai w A w A:=⟨vaa _,fun _ _ h=>⟨h,rfl⟩⟩
theorem zai.trans {w1 w2 w3:World} {A1 A2 A3:Nat->Prop} (h:zai w1 A1 w2 A2) (k:zai w2 A2 w3 A3):zai w1 A1 w3 A3:=
 ⟨vai h.1 k.1,fun b hb ha=>⟨(k.2 b (vah hb h.1) (h.2 b hb ha).1).1,(k.2 b (vah hb h.1) (h.2 b hb ha).1).2.trans (h.2 b hb ha).2⟩⟩
theorem zai.of_below {w w':World} (h:Below w.heap.size w w') (A:Nat->Prop):zai w A w' A:=⟨h.size,fun b hb ha=>⟨ha,h.block b hb⟩⟩
theorem zai.alloc {w w':World} {A A':Nat->Prop} (h:zai w A w' A') (o:Obj):zai w A (w'.alloc o) A':=h.trans (zai.of_below ((Below.refl w'.heap.size w').alloc (vaa _) o) A')
theorem zai.lower {w:World} {lo lo':Nat} (h:lo'<=lo):zai w (lo<=·) w (lo'<=·):=⟨vaa _,fun _ _ ha=>⟨vai h ha,rfl⟩⟩
theorem zg9.moves {A A':Nat->Prop} {w w':World} {b off:Nat} {l:List Value} (h:zg9 w b off l) (hs:zai w A w' A') (h1:A b) (h2:b<w.heap.size):zg9 w' b off l:=
 fun j u hj=>(vet (w:=w) (hs.2 b h2 h1).2).trans (h j u hj)
mutual
theorem zd0.moves {A A':Nat->Prop} {w w':World} (hs:zai w A w' A'):∀ (d:D) (v:Value),zd0 w A d v->zd0 w' A' d v
 | .int _,_,h=>h
 | .str _,_,h=>h
 | .bool _,_,h=>h
 | .list n ds,v,h=>by
   unfold zd0 at h ⊢;obtain ⟨a,cap,h1,h2,h3,h4⟩:=h;refine ⟨a,cap,h1,h2,h3,?_⟩
   rcases h4 with h4 | ⟨b,off,cs,ha,hl,hb,hc,hx⟩
   . exact Or.inl h4
   . exact Or.inr ⟨b,off,cs,ha,(hs.2 b hb hl).1,vah hb hs.1,hc.moves hs hl hb,zav.moves hs ds cs hx⟩
theorem zav.moves {A A':Nat->Prop} {w w':World} (hs:zai w A w' A'):∀ (l:List D) (cs:List Value),zav w A l cs->zav w' A' l cs
 | [],_,h=>h
 | d :: ds,cs,h=>by
   unfold zav at h ⊢;obtain ⟨v,r,h1,h2,h3⟩:=h;exact ⟨v,r,h1,zd0.moves hs d v h2,zav.moves hs ds r h3⟩
end
theorem zd0.one {w:World} {lo:Nat->Prop}:∀ {d:D} {v:Value},zd0 w lo d v->v.oneCell'=true
 | .int _,_,h=>by unfold zd0 at h;rw [h.1];rfl
 | .str _,_,h=>by unfold zd0 at h;rw [h.1];rfl
 | .bool _,_,h=>by unfold zd0 at h;rw [h];rfl
 | .list _ _,_,h=>by unfold zd0 at h;obtain ⟨a,cap,h,_⟩:=h;rw [h];rfl
theorem zav.one {w:World} {lo:Nat->Prop}:∀ {l:List D} {cs:List Value},zav w lo l cs->∀ u ∈ cs,u.oneCell'=true
 | [],_,h=>by unfold zav at h;rw [h];intro u hu;cases hu
 | d :: ds,cs,h=>by
   unfold zav at h;obtain ⟨v,r,rfl,h2,h3⟩:=h;intro u hu
   rcases vcm.1 hu with rfl | hu
   . exact h2.one
   . exact zav.one h3 u hu
theorem zav.len {w:World} {lo:Nat->Prop}:∀ {l:List D} {cs:List Value},zav w lo l cs->cs.length=l.length
 | [],_,h=>by unfold zav at h;rw [h];rfl
 | d :: ds,cs,h=>by
   unfold zav at h;obtain ⟨v,r,rfl,h2,h3⟩:=h;simp [zav.len h3]
theorem zav.nil {w:World} {lo:Nat->Prop}:zav w lo [] []:=by unfold zav;rfl
theorem zav.cons {w:World} {lo:Nat->Prop} {d:D} {ds:List D} {v:Value} {cs:List Value} (h:zd0 w lo d v) (k:zav w lo ds cs):zav w lo (d :: ds) (v :: cs):=by
 unfold zav;exact ⟨v,cs,rfl,h,k⟩
theorem zav.append {w:World} {lo:Nat->Prop}:∀ {l m:List D} {cs es:List Value},zav w lo l cs->zav w lo m es->zav w lo (l++m) (cs++es)
 | [],m,cs,es,h,k=>by unfold zav at h;subst h;exact k
 | d :: ds,m,cs,es,h,k=>by
   unfold zav at h;obtain ⟨v,r,rfl,h2,h3⟩:=h;exact zav.cons h2 (zav.append h3 k)
theorem zav.get {w:World} {lo:Nat->Prop}:∀ {l:List D} {cs:List Value},zav w lo l cs->∀ (j:Nat) (d:D),l[j]? = some d->∃ v,cs[j]? = some v/\zd0 w lo d v
 | [],_,_,j,d,hj=>by simp at hj
 | e :: ds,cs,h,j,d,hj=>by
   unfold zav at h;obtain ⟨v,r,rfl,h2,h3⟩:=h
   cases j with
   | zero=>simp at hj;subst hj;exact ⟨v,rfl,h2⟩
   | succ j=>simpa using zav.get h3 j d (by simpa using hj)
theorem zdk {w:World} {lo:Nat->Prop} {n:Int} (h:(Lit.int .i64 n).wf=true):zd0 w lo (.int n) (.int .i64 n):=by unfold zd0;exact ⟨rfl,h⟩
theorem zfl {w:World} {lo:Nat->Prop} {s:ByteArray} (h:s.size<=maxLen):zd0 w lo (.str s) (.string s):=by unfold zd0;exact ⟨rfl,h⟩
theorem z3w {w:World} {lo:Nat->Prop} {b:Bool}:zd0 w lo (.bool b) (.bool b):=by unfold zd0;rfl
theorem zrj {w:World} {lo:Nat->Prop} {a:OA} {cap:Nat}:zd0 w lo (.list 0 []) (.slice a 0 cap):=by unfold zd0;exact ⟨a,cap,rfl,vaa _,by simp,Or.inl rfl⟩
theorem yan {w:World} {lo:Nat->Prop} {n b off cap:Nat} {ds:List D} {cs:List Value} (h1:n<=ds.length) (h2:ds.length<=17592186044416) (hl:lo b) (hb:b<w.heap.size) (hc:zg9 w b off cs) (hx:zav w lo ds cs):zd0 w lo (.list n ds) (.slice (some ⟨b,off,none⟩) n cap):=by
 unfold zd0;exact ⟨_,cap,rfl,h1,h2,Or.inr ⟨b,off,cs,rfl,hl,hb,hc,hx⟩⟩
theorem zbb {w:World} {lo:Nat->Prop} {n:Int} {v:Value} (h:zd0 w lo (.int n) v):v = .int .i64 n/\(Lit.int .i64 n).wf=true:=by unfold zd0 at h;exact h
theorem zdd {w:World} {lo:Nat->Prop} {s:ByteArray} {v:Value} (h:zd0 w lo (.str s) v):v = .string s/\s.size<=maxLen:=by unfold zd0 at h;exact h
theorem zwe {w:World} {lo:Nat->Prop} {b:Bool} {v:Value} (h:zd0 w lo (.bool b) v):v = .bool b:=by unfold zd0 at h;exact h
def DAt (w:World) (lo:Nat->Prop) (a:OA) (n:Nat) (ds:List D):Prop:=n<=ds.length/\ds.length<=17592186044416/\(n=0\/∃ b off cs,a=some ⟨b,off,none⟩/\lo b/\b<w.heap.size/\zg9 w b off cs/\zav w lo ds cs)
theorem za3 {w:World} {lo:Nat->Prop} {n:Nat} {ds:List D} {v:Value} (h:zd0 w lo (.list n ds) v):∃ a cap,v = .slice a n cap/\DAt w lo a n ds:=by unfold zd0 at h;exact h
theorem DAt.val {w:World} {lo:Nat->Prop} {n cap:Nat} {a:OA} {ds:List D} (h:DAt w lo a n ds):zd0 w lo (.list n ds) (.slice a n cap):=by unfold zd0;exact ⟨a,cap,rfl,h⟩
theorem DAt.moves {A A':Nat->Prop} {w w':World} {n:Nat} {a:OA} {ds:List D} (h:DAt w A a n ds) (hs:zai w A w' A'):DAt w' A' a n ds:=by
 obtain ⟨h1,h2,h3⟩:=h;refine ⟨h1,h2,?_⟩
 rcases h3 with h4 | ⟨b,off,cs,ha,hl,hb,hc,hx⟩
 . exact Or.inl h4
 . exact Or.inr ⟨b,off,cs,ha,(hs.2 b hb hl).1,vah hb hs.1,hc.moves hs hl hb,zav.moves hs ds cs hx⟩
theorem DAt.later {A:Nat->Prop} {w w':World} {n:Nat} {a:OA} {ds:List D} (h:DAt w A a n ds) (hb:Below w.heap.size w w'):DAt w' A a n ds:=h.moves (zai.of_below hb A)
theorem DAt.bound {A:Nat->Prop} {w:World} {n:Nat} {a:OA} {ds:List D} (h:DAt w A a n ds):n<=17592186044416:=vai h.1 h.2.1
theorem DAt.cell {A:Nat->Prop} {w:World} {n:Nat} {a:OA} {ds:List D} (h:DAt w A a n ds) (hn:0<n):∃ b off,a=some ⟨b,off,none⟩/\b<w.heap.size/\∀ (j:Nat) (d:D),ds[j]? = some d->∃ v,w.cell? ⟨b,off+j,none⟩=some v/\zd0 w A d v:=by
 rcases h.2.2 with h0 | ⟨b,off,cs,ha,_,hb,hc,hx⟩
 . omega
 . refine ⟨b,off,ha,hb,fun j d hj=>?_⟩
   obtain ⟨v,hv,hd⟩:=hx.get j d hj;exact ⟨v,hc j v hv,hd⟩
inductive Ex where
 | mk (op n:Int) (mod name:ByteArray) (args:List Ex)
def Ex.op:Ex->Int | .mk op _ _ _ _=>op
def Ex.n:Ex->Int | .mk _ n _ _ _=>n
def Ex.mod:Ex->ByteArray | .mk _ _ m _ _=>m
def Ex.name:Ex->ByteArray | .mk _ _ _ m _=>m
def Ex.args:Ex->List Ex | .mk _ _ _ _ l=>l
inductive St where
 | mk (op:Int) (mod name:ByteArray) (args:List Ex) (body other:List St)
def St.op:St->Int | .mk op _ _ _ _ _=>op
def St.mod:St->ByteArray | .mk _ m _ _ _ _=>m
def St.name:St->ByteArray | .mk _ _ m _ _ _=>m
def St.args:St->List Ex | .mk _ _ _ l _ _=>l
def St.body:St->List St | .mk _ _ _ _ l _=>l
def St.other:St->List St | .mk _ _ _ _ _ l=>l
mutual
def Ex.ds:Ex->List D
 | .mk op n mod name args=>[.int op,.int n,.str mod,.str name,.list args.length (zbz args)]
def zbz:List Ex->List D
 | []=>[]
 | x :: r=>x.ds++zbz r
end
mutual
def St.ds:St->List D
 | .mk op mod name args body other=>[.int op,.str mod,.str name,.list args.length (zbz args),.list body.length (zb0 body),.list other.length (zb0 other)]
def zb0:List St->List D
 | []=>[]
 | x :: r=>x.ds++zb0 r
end
theorem Ex.ds_len (x:Ex):x.ds.length=5:=by cases x;unfold Ex.ds;rfl
theorem St.ds_len (x:St):x.ds.length=6:=by cases x;unfold St.ds;rfl
theorem zin:∀ (l m:List Ex),zbz (l++m)=zbz l++zbz m
 | [],m=>by simp [zbz]
 | x :: r,m=>by simp [zbz,zin r m]
theorem zio:∀ (l m:List St),zb0 (l++m)=zb0 l++zb0 m
 | [],m=>by simp [zb0]
 | x :: r,m=>by simp [zb0,zio r m]
theorem zle (x:Ex):zbz [x]=x.ds:=by simp [zbz]
theorem zwf (x:St):zb0 [x]=x.ds:=by simp [zb0]
theorem zwg:∀ (l:List Ex) (i:Nat) (h:i<l.length) (j:Nat),j<5->(zbz l)[i*5+j]? = (l[i].ds)[j]?
 | [],i,h,_,_=>by simp at h
 | x :: r,0,_,j,hj=>by
   have:=x.ds_len;simp only [zbz,vbx];rw [vbi (by omega),vbo,vbq]
 | x :: r,i+1,h,j,hj=>by
   have:=x.ds_len;simp only [zbz,vby];rw [vbk (by omega),show (i+1)*5+j - x.ds.length=i*5+j from by omega];exact zwg r i (by simpa using h) j hj
theorem zwh:∀ (l:List St) (i:Nat) (h:i<l.length) (j:Nat),j<6->(zb0 l)[i*6+j]? = (l[i].ds)[j]?
 | [],i,h,_,_=>by simp at h
 | x :: r,0,_,j,hj=>by
   have:=x.ds_len;simp only [zb0,vbx];rw [vbi (by omega),vbo,vbq]
 | x :: r,i+1,h,j,hj=>by
   have:=x.ds_len;simp only [zb0,vby];rw [vbk (by omega),show (i+1)*6+j - x.ds.length=i*6+j from by omega];exact zwh r i (by simpa using h) j hj
structure ExAt (w:World) (A:Nat->Prop) (b o:Nat) (x:Ex) (aa:OA) (cap:Nat):Prop where
 lt:b<w.heap.size
 c0:w.cell? ⟨b,o,none⟩=some (.int .i64 x.op)
 c1:w.cell? ⟨b,o+1,none⟩=some (.int .i64 x.n)
 c2:w.cell? ⟨b,o+2,none⟩=some (.string x.mod)
 c3:w.cell? ⟨b,o+3,none⟩=some (.string x.name)
 c4:w.cell? ⟨b,o+4,none⟩=some (.slice aa x.args.length cap)
 args:DAt w A aa x.args.length (zbz x.args)
 wop:(Lit.int .i64 x.op).wf=true
 wn:(Lit.int .i64 x.n).wf=true
 wm:x.mod.size<=maxLen
 wna:x.name.size<=maxLen
structure StAt (w:World) (A:Nat->Prop) (b o:Nat) (x:St) (a1:OA) (c1':Nat) (a2:OA) (c2':Nat) (a3:OA) (c3':Nat):Prop where
 lt:b<w.heap.size
 c0:w.cell? ⟨b,o,none⟩=some (.int .i64 x.op)
 c1:w.cell? ⟨b,o+1,none⟩=some (.string x.mod)
 c2:w.cell? ⟨b,o+2,none⟩=some (.string x.name)
 c3:w.cell? ⟨b,o+3,none⟩=some (.slice a1 x.args.length c1')
 c4:w.cell? ⟨b,o+4,none⟩=some (.slice a2 x.body.length c2')
 c5:w.cell? ⟨b,o+5,none⟩=some (.slice a3 x.other.length c3')
 args:DAt w A a1 x.args.length (zbz x.args)
 body:DAt w A a2 x.body.length (zb0 x.body)
 other:DAt w A a3 x.other.length (zb0 x.other)
 wop:(Lit.int .i64 x.op).wf=true
 wm:x.mod.size<=maxLen
 wna:x.name.size<=maxLen
theorem DAt.ex {w:World} {A:Nat->Prop} {a:OA} {l:List Ex} (h:DAt w A a l.length (zbz l)) (i:Nat) (hi:i<l.length):∃ b off aa cap,a=some ⟨b,off,none⟩/\ExAt w A b (off+i*5) l[i] aa cap:=by
 obtain ⟨b,off,ha,hb,hc⟩:=h.cell (by omega);generalize hx:l[i]=x;obtain ⟨op,n,mod,name,args⟩:=x
 have g:∀ j d,j<5->(Ex.mk op n mod name args).ds[j]? = some d->∃ v,w.cell? ⟨b,off+i*5+j,none⟩=some v/\zd0 w A d v:=fun j d hj hd=>by
  rw [vbt];exact hc (i*5+j) d ((zwg l i hi j hj).trans (by rw [hx];exact hd))
 obtain ⟨v0,k0,d0⟩:=g 0 (.int op) (by omega) (by simp [Ex.ds]);obtain ⟨v1,k1,d1⟩:=g 1 (.int n) (by omega) (by simp [Ex.ds]);obtain ⟨v2,k2,d2⟩:=g 2 (.str mod) (by omega) (by simp [Ex.ds]);obtain ⟨v3,k3,d3⟩:=g 3 (.str name) (by omega) (by simp [Ex.ds]);obtain ⟨v4,k4,d4⟩:=g 4 (.list args.length (zbz args)) (by omega) (by simp [Ex.ds]);obtain ⟨rfl,w0⟩:=zbb d0;obtain ⟨rfl,w1⟩:=zbb d1;obtain ⟨rfl,w2⟩:=zdd d2;obtain ⟨rfl,w3⟩:=zdd d3;obtain ⟨aa,cap,rfl,hA⟩:=za3 d4;exact ⟨b,off,aa,cap,ha,hb,k0,k1,k2,k3,k4,hA,w0,w1,w2,w3⟩
theorem DAt.st {w:World} {A:Nat->Prop} {a:OA} {l:List St} (h:DAt w A a l.length (zb0 l)) (i:Nat) (hi:i<l.length):∃ b off a1 c1 a2 c2 a3 c3,a=some ⟨b,off,none⟩/\StAt w A b (off+i*6) l[i] a1 c1 a2 c2 a3 c3:=by
 obtain ⟨b,off,ha,hb,hc⟩:=h.cell (by omega);generalize hx:l[i]=x;obtain ⟨op,mod,name,args,body,other⟩:=x
 have g:∀ j d,j<6->(St.mk op mod name args body other).ds[j]? = some d->∃ v,w.cell? ⟨b,off+i*6+j,none⟩=some v/\zd0 w A d v:=fun j d hj hd=>by
  rw [vbt];exact hc (i*6+j) d ((zwh l i hi j hj).trans (by rw [hx];exact hd))
 obtain ⟨v0,k0,d0⟩:=g 0 (.int op) (by omega) (by simp [St.ds]);obtain ⟨v1,k1,d1⟩:=g 1 (.str mod) (by omega) (by simp [St.ds]);obtain ⟨v2,k2,d2⟩:=g 2 (.str name) (by omega) (by simp [St.ds]);obtain ⟨v3,k3,d3⟩:=g 3 (.list args.length (zbz args)) (by omega) (by simp [St.ds]);obtain ⟨v4,k4,d4⟩:=g 4 (.list body.length (zb0 body)) (by omega) (by simp [St.ds]);obtain ⟨v5,k5,d5⟩:=g 5 (.list other.length (zb0 other)) (by omega) (by simp [St.ds]);obtain ⟨rfl,w0⟩:=zbb d0;obtain ⟨rfl,w1⟩:=zdd d1;obtain ⟨rfl,w2⟩:=zdd d2;obtain ⟨a1,c1,rfl,h1⟩:=za3 d3;obtain ⟨a2,c2,rfl,h2⟩:=za3 d4;obtain ⟨a3,c3,rfl,h3⟩:=za3 d5;exact ⟨b,off,a1,c1,a2,c2,a3,c3,ha,hb,k0,k1,k2,k3,k4,k5,h1,h2,h3,w0,w1,w2⟩
structure De where
 kind:Int
 name:ByteArray
 pub:Bool
 n:Int
structure Pr where
 name:ByteArray
 pub:Bool
 params:List ByteArray
 locals:List ByteArray
 body:List St
structure Mo where
 name:ByteArray
 uses:List ByteArray
 decls:List De
 procs:List Pr
 main:List St
def De.ds (d:De):List D:=[.int d.kind,.str d.name,.bool d.pub,.int d.n]
def zao (l:List ByteArray):List D:=l.map .str
def Pr.ds (p:Pr):List D:=[.str p.name,.bool p.pub,.list p.params.length (zao p.params),.list p.locals.length (zao p.locals),.list p.body.length (zb0 p.body)]
def Mo.ds (m:Mo):List D:=[.str m.name,.list m.uses.length (zao m.uses),.list m.decls.length (m.decls.flatMap De.ds),.list m.procs.length (m.procs.flatMap Pr.ds),.list m.main.length (zb0 m.main)]
def zjc (l:List Pr):List D:=l.flatMap Pr.ds
def zlf (l:List De):List D:=l.flatMap De.ds
def ya4 (l:List Mo):List D:=l.flatMap Mo.ds
theorem zc3 {α:Type} (f:α->List D) (k:Nat) (hf:∀ x,(f x).length=k):∀ (l:List α) (i:Nat) (h:i<l.length) (j:Nat),j<k->(l.flatMap f)[i*k+j]? = (f l[i])[j]?
 | [],i,h,_,_=>by simp at h
 | x :: r,0,_,j,hj=>by
   have:=hf x;simp only [vbg,vbx];rw [vbi (by omega),vbo,vbq]
 | x :: r,i+1,h,j,hj=>by
   have:=hf x;have e:(i+1)*k=i*k+k:=Nat.succ_mul i k;simp only [vbg,vby];rw [vbk (by omega),show (i+1)*k+j - (f x).length=i*k+j from by omega];exact zc3 f k hf r i (by simpa using h) j hj
structure DeAt (w:World) (b o:Nat) (x:De):Prop where
 lt:b<w.heap.size
 c0:w.cell? ⟨b,o,none⟩=some (.int .i64 x.kind)
 c1:w.cell? ⟨b,o+1,none⟩=some (.string x.name)
 c2:w.cell? ⟨b,o+2,none⟩=some (.bool x.pub)
 c3:w.cell? ⟨b,o+3,none⟩=some (.int .i64 x.n)
 wk:(Lit.int .i64 x.kind).wf=true
 wn:(Lit.int .i64 x.n).wf=true
 wna:x.name.size<=maxLen
structure PrAt (w:World) (A:Nat->Prop) (b o:Nat) (x:Pr) (a1:OA) (c1':Nat) (a2:OA) (c2':Nat) (a3:OA) (c3':Nat):Prop where
 lt:b<w.heap.size
 c0:w.cell? ⟨b,o,none⟩=some (.string x.name)
 c1:w.cell? ⟨b,o+1,none⟩=some (.bool x.pub)
 c2:w.cell? ⟨b,o+2,none⟩=some (.slice a1 x.params.length c1')
 c3:w.cell? ⟨b,o+3,none⟩=some (.slice a2 x.locals.length c2')
 c4:w.cell? ⟨b,o+4,none⟩=some (.slice a3 x.body.length c3')
 params:DAt w A a1 x.params.length (zao x.params)
 locals:DAt w A a2 x.locals.length (zao x.locals)
 body:DAt w A a3 x.body.length (zb0 x.body)
 wna:x.name.size<=maxLen
structure MoAt (w:World) (A:Nat->Prop) (m:Mo) (v:Value) (a1:OA) (c1:Nat) (a2:OA) (c2:Nat) (a3:OA) (c3:Nat) (a4:OA) (c4:Nat):Prop where
 val:v = .agg #[.string m.name,.slice a1 m.uses.length c1,.slice a2 m.decls.length c2,.slice a3 m.procs.length c3,.slice a4 m.main.length c4]
 wna:m.name.size<=maxLen
 uses:DAt w A a1 m.uses.length (zao m.uses)
 decls:DAt w A a2 m.decls.length (zlf m.decls)
 procs:DAt w A a3 m.procs.length (zjc m.procs)
 main:DAt w A a4 m.main.length (zb0 m.main)
theorem MoAt.later {w w':World} {A:Nat->Prop} {m:Mo} {v:Value} {a1 a2 a3 a4:OA} {c1 c2 c3 c4:Nat} (h:MoAt w A m v a1 c1 a2 c2 a3 c3 a4 c4) (hb:Below w.heap.size w w'):MoAt w' A m v a1 c1 a2 c2 a3 c3 a4 c4:=
 ⟨h.val,h.wna,h.uses.later hb,h.decls.later hb,h.procs.later hb,h.main.later hb⟩
theorem DAt.str {w:World} {A:Nat->Prop} {a:OA} {l:List ByteArray} (h:DAt w A a l.length (zao l)) (i:Nat) (hi:i<l.length):∃ b off,a=some ⟨b,off,none⟩/\b<w.heap.size/\w.cell? ⟨b,off+i,none⟩=some (.string l[i])/\l[i].size<=maxLen:=by
 obtain ⟨b,off,ha,hb,hc⟩:=h.cell (by omega);obtain ⟨v,hv,hd⟩:=hc i (.str l[i]) (by simp [zao,hi]);obtain ⟨rfl,h2⟩:=zdd hd;exact ⟨b,off,ha,hb,hv,h2⟩
theorem DAt.de {w:World} {A:Nat->Prop} {a:OA} {l:List De} (h:DAt w A a l.length (zlf l)) (i:Nat) (hi:i<l.length):∃ b off,a=some ⟨b,off,none⟩/\DeAt w b (off+i*4) l[i]:=by
 obtain ⟨b,off,ha,hb,hc⟩:=h.cell (by omega);generalize hx:l[i]=x;obtain ⟨kind,name,pub,n⟩:=x
 have g:∀ j d,j<4->(De.mk kind name pub n).ds[j]? = some d->∃ v,w.cell? ⟨b,off+i*4+j,none⟩=some v/\zd0 w A d v:=fun j d hj hd=>by
  rw [vbt];exact hc (i*4+j) d ((zc3 De.ds 4 (fun _=>rfl) l i hi j hj).trans (by rw [hx];exact hd))
 obtain ⟨v0,k0,d0⟩:=g 0 (.int kind) (by omega) (by simp [De.ds]);obtain ⟨v1,k1,d1⟩:=g 1 (.str name) (by omega) (by simp [De.ds]);obtain ⟨v2,k2,d2⟩:=g 2 (.bool pub) (by omega) (by simp [De.ds]);obtain ⟨v3,k3,d3⟩:=g 3 (.int n) (by omega) (by simp [De.ds]);obtain ⟨rfl,w0⟩:=zbb d0;obtain ⟨rfl,w1⟩:=zdd d1;obtain rfl:=zwe d2;obtain ⟨rfl,w3⟩:=zbb d3;exact ⟨b,off,ha,hb,k0,k1,k2,k3,w0,w3,w1⟩
theorem DAt.pr {w:World} {A:Nat->Prop} {a:OA} {l:List Pr} (h:DAt w A a l.length (zjc l)) (i:Nat) (hi:i<l.length):∃ b off a1 c1 a2 c2 a3 c3,a=some ⟨b,off,none⟩/\PrAt w A b (off+i*5) l[i] a1 c1 a2 c2 a3 c3:=by
 obtain ⟨b,off,ha,hb,hc⟩:=h.cell (by omega);generalize hx:l[i]=x;obtain ⟨name,pub,params,locals,body⟩:=x
 have g:∀ j d,j<5->(Pr.mk name pub params locals body).ds[j]? = some d->∃ v,w.cell? ⟨b,off+i*5+j,none⟩=some v/\zd0 w A d v:=fun j d hj hd=>by
  rw [vbt];exact hc (i*5+j) d ((zc3 Pr.ds 5 (fun _=>rfl) l i hi j hj).trans (by rw [hx];exact hd))
 obtain ⟨v0,k0,d0⟩:=g 0 (.str name) (by omega) (by simp [Pr.ds]);obtain ⟨v1,k1,d1⟩:=g 1 (.bool pub) (by omega) (by simp [Pr.ds]);obtain ⟨v2,k2,d2⟩:=g 2 (.list params.length (zao params)) (by omega) (by simp [Pr.ds]);obtain ⟨v3,k3,d3⟩:=g 3 (.list locals.length (zao locals)) (by omega) (by simp [Pr.ds]);obtain ⟨v4,k4,d4⟩:=g 4 (.list body.length (zb0 body)) (by omega) (by simp [Pr.ds]);obtain ⟨rfl,w0⟩:=zdd d0;obtain rfl:=zwe d1;obtain ⟨a1,c1,rfl,h1⟩:=za3 d2;obtain ⟨a2,c2,rfl,h2⟩:=za3 d3;obtain ⟨a3,c3,rfl,h3⟩:=za3 d4;exact ⟨b,off,a1,c1,a2,c2,a3,c3,ha,hb,k0,k1,k2,k3,k4,h1,h2,h3,w0⟩
theorem DAt.mo {w:World} {A:Nat->Prop} {a:OA} {l:List Mo} (h:DAt w A a l.length (ya4 l)) (i:Nat) (hi:i<l.length):∃ b off v a1 c1 a2 c2 a3 c3 a4 c4,a=some ⟨b,off,none⟩/\b<w.heap.size/\MoAt w A l[i] v a1 c1 a2 c2 a3 c3 a4 c4/\
 w.cell? ⟨b,off+i*5,none⟩=some (.string l[i].name)/\w.cell? ⟨b,off+i*5+1,none⟩=some (.slice a1 l[i].uses.length c1)/\w.cell? ⟨b,off+i*5+2,none⟩=some (.slice a2 l[i].decls.length c2)/\
 w.cell? ⟨b,off+i*5+3,none⟩=some (.slice a3 l[i].procs.length c3)/\w.cell? ⟨b,off+i*5+4,none⟩=some (.slice a4 l[i].main.length c4):=by
 obtain ⟨b,off,ha,hb,hc⟩:=h.cell (by omega);generalize hx:l[i]=x;obtain ⟨name,uses,decls,procs,main⟩:=x
 have g:∀ j d,j<5->(Mo.mk name uses decls procs main).ds[j]? = some d->∃ v,w.cell? ⟨b,off+i*5+j,none⟩=some v/\zd0 w A d v:=fun j d hj hd=>by
  rw [vbt];exact hc (i*5+j) d ((zc3 Mo.ds 5 (fun _=>rfl) l i hi j hj).trans (by rw [hx];exact hd))
 obtain ⟨v0,k0,d0⟩:=g 0 (.str name) (by omega) (by simp [Mo.ds]);obtain ⟨v1,k1,d1⟩:=g 1 (.list uses.length (zao uses)) (by omega) (by simp [Mo.ds]);obtain ⟨v2,k2,d2⟩:=g 2 (.list decls.length (zlf decls)) (by omega) (by simp [Mo.ds,zlf]);obtain ⟨v3,k3,d3⟩:=g 3 (.list procs.length (zjc procs)) (by omega) (by simp [Mo.ds,zjc]);obtain ⟨v4,k4,d4⟩:=g 4 (.list main.length (zb0 main)) (by omega) (by simp [Mo.ds]);obtain ⟨rfl,w0⟩:=zdd d0;obtain ⟨a1,c1,rfl,h1⟩:=za3 d1;obtain ⟨a2,c2,rfl,h2⟩:=za3 d2;obtain ⟨a3,c3,rfl,h3⟩:=za3 d3;obtain ⟨a4,c4,rfl,h4⟩:=za3 d4;exact ⟨b,off,_,a1,c1,a2,c2,a3,c3,a4,c4,ha,hb,⟨rfl,w0,h1,h2,h3,h4⟩,k0,k1,k2,k3,k4⟩
mutual
def zho (w:World) (A:Nat->Prop):D->Value->Prop
 | .int n,v=>v = .int .i64 n
 | .str s,v=>v = .string s/\s.size<=maxLen
 | .bool b,v=>v = .bool b
 | .list n ds,v=>∃ a cap,v = .slice a n cap/\(n=0\/∃ b off cs,a=some ⟨b,off,none⟩/\A b/\b<w.heap.size/\zg9 w b off cs/\za1 w A ds cs)
def za1 (w:World) (A:Nat->Prop):List D->List Value->Prop
 | [],cs=>cs=[]
 | d :: ds,cs=>∃ v r,cs=v :: r/\zho w A d v/\za1 w A ds r
end
mutual
theorem zho.moves {A A':Nat->Prop} {w w':World} (hs:zai w A w' A'):∀ (d:D) (v:Value),zho w A d v->zho w' A' d v
 | .int _,_,h=>h
 | .str _,_,h=>h
 | .bool _,_,h=>h
 | .list n ds,v,h=>by
   unfold zho at h ⊢;obtain ⟨a,cap,h1,h4⟩:=h;refine ⟨a,cap,h1,?_⟩
   rcases h4 with h4 | ⟨b,off,cs,ha,hl,hb,hc,hx⟩
   . exact Or.inl h4
   . exact Or.inr ⟨b,off,cs,ha,(hs.2 b hb hl).1,vah hb hs.1,hc.moves hs hl hb,za1.moves hs ds cs hx⟩
theorem za1.moves {A A':Nat->Prop} {w w':World} (hs:zai w A w' A'):∀ (l:List D) (cs:List Value),za1 w A l cs->za1 w' A' l cs
 | [],_,h=>h
 | d :: ds,cs,h=>by
   unfold za1 at h ⊢;obtain ⟨v,r,h1,h2,h3⟩:=h;exact ⟨v,r,h1,zho.moves hs d v h2,za1.moves hs ds r h3⟩
end
theorem zho.one {w:World} {lo:Nat->Prop}:∀ {d:D} {v:Value},zho w lo d v->v.oneCell'=true
 | .int _,_,h=>by unfold zho at h;rw [h];rfl
 | .str _,_,h=>by unfold zho at h;rw [h.1];rfl
 | .bool _,_,h=>by unfold zho at h;rw [h];rfl
 | .list _ _,_,h=>by unfold zho at h;obtain ⟨a,cap,h,_⟩:=h;rw [h];rfl
theorem za1.one {w:World} {lo:Nat->Prop}:∀ {l:List D} {cs:List Value},za1 w lo l cs->∀ u ∈ cs,u.oneCell'=true
 | [],_,h=>by unfold za1 at h;rw [h];intro u hu;cases hu
 | d :: ds,cs,h=>by
   unfold za1 at h;obtain ⟨v,r,rfl,h2,h3⟩:=h;intro u hu
   rcases vcm.1 hu with rfl | hu
   . exact h2.one
   . exact za1.one h3 u hu
theorem za1.len {w:World} {lo:Nat->Prop}:∀ {l:List D} {cs:List Value},za1 w lo l cs->cs.length=l.length
 | [],_,h=>by unfold za1 at h;rw [h];rfl
 | d :: ds,cs,h=>by
   unfold za1 at h;obtain ⟨v,r,rfl,h2,h3⟩:=h;simp [za1.len h3]
theorem za1.nil {w:World} {lo:Nat->Prop}:za1 w lo [] []:=by unfold za1;rfl
theorem za1.cons {w:World} {lo:Nat->Prop} {d:D} {ds:List D} {v:Value} {cs:List Value} (h:zho w lo d v) (k:za1 w lo ds cs):za1 w lo (d :: ds) (v :: cs):=by
 unfold za1;exact ⟨v,cs,rfl,h,k⟩
theorem za1.append {w:World} {lo:Nat->Prop}:∀ {l m:List D} {cs es:List Value},za1 w lo l cs->za1 w lo m es->za1 w lo (l++m) (cs++es)
 | [],m,cs,es,h,k=>by unfold za1 at h;subst h;exact k
 | d :: ds,m,cs,es,h,k=>by
   unfold za1 at h;obtain ⟨v,r,rfl,h2,h3⟩:=h;exact za1.cons h2 (za1.append h3 k)
theorem za1.get {w:World} {lo:Nat->Prop}:∀ {l:List D} {cs:List Value},za1 w lo l cs->∀ (j:Nat) (d:D),l[j]? = some d->∃ v,cs[j]? = some v/\zho w lo d v
 | [],_,_,j,d,hj=>by simp at hj
 | e :: ds,cs,h,j,d,hj=>by
   unfold za1 at h;obtain ⟨v,r,rfl,h2,h3⟩:=h
   cases j with
   | zero=>simp at hj;subst hj;exact ⟨v,rfl,h2⟩
   | succ j=>simpa using za1.get h3 j d (by simpa using hj)
theorem zrk {w:World} {lo:Nat->Prop} {n:Int}:zho w lo (.int n) (.int .i64 n):=by unfold zho;rfl
theorem zyl {w:World} {lo:Nat->Prop} {s:ByteArray} (h:s.size<=maxLen):zho w lo (.str s) (.string s):=by unfold zho;exact ⟨rfl,h⟩
theorem z8s {w:World} {lo:Nat->Prop} {b:Bool}:zho w lo (.bool b) (.bool b):=by unfold zho;rfl
theorem zqr {w:World} {lo:Nat->Prop} {n:Int} {v:Value} (h:zho w lo (.int n) v):v = .int .i64 n:=by unfold zho at h;exact h
theorem z0u {w:World} {lo:Nat->Prop} {s:ByteArray} {v:Value} (h:zho w lo (.str s) v):v = .string s/\s.size<=maxLen:=by unfold zho at h;exact h
def EAt (w:World) (lo:Nat->Prop) (a:OA) (n:Nat) (ds:List D):Prop:=n=0\/∃ b off cs,a=some ⟨b,off,none⟩/\lo b/\b<w.heap.size/\zg9 w b off cs/\za1 w lo ds cs
theorem EAt.val {w:World} {lo:Nat->Prop} {n cap:Nat} {a:OA} {ds:List D} (h:EAt w lo a n ds):zho w lo (.list n ds) (.slice a n cap):=by unfold zho;exact ⟨a,cap,rfl,h⟩
theorem EAt.moves {A A':Nat->Prop} {w w':World} {n:Nat} {a:OA} {ds:List D} (h:EAt w A a n ds) (hs:zai w A w' A'):EAt w' A' a n ds:=by
 rcases h with h4 | ⟨b,off,cs,ha,hl,hb,hc,hx⟩
 . exact Or.inl h4
 . exact Or.inr ⟨b,off,cs,ha,(hs.2 b hb hl).1,vah hb hs.1,hc.moves hs hl hb,za1.moves hs ds cs hx⟩
theorem EAt.of_own {w:World} {A:Nat->Prop} {base n cap:Nat} {a:OA} {e:TypeId} {size:Nat} {ds:List D} {xs:List Value} (h:w.ownsRow base e size (.slice a n cap) n xs) (hl:∀ b,base<=b->A b) (hx:za1 w A ds xs):EAt w A a n ds:=by
 rcases h.2 with ⟨h1,h2⟩ | ⟨g,cap',cur,h1,hb,hg,hn,hc,hs,ht⟩
 . exact Or.inl h2
 . injection h1 with h1 _ _
   refine Or.inr ⟨g,0,xs,h1,hl g hb,zab hg,fun j u hj=>?_,hx⟩;have:=h.cells (g:=g) (by rw [h1];rfl) j u hj;rw [vbq]
   have e:(⟨g,0,none⟩:Addr).add j=⟨g,j,none⟩:=by unfold Addr.add;split<;>simp_all
   rwa [e] at this
mutual
def D.fine:D->Prop
 | .int n=>(Lit.int .i64 n).wf=true
 | .str _=>True
 | .bool _=>True
 | .list n ds=>n<=ds.length/\ds.length<=17592186044416/\D.fines ds
def D.fines:List D->Prop
 | []=>True
 | d :: ds=>d.fine/\D.fines ds
end
mutual
theorem zho.toD {A:Nat->Prop} {w:World}:∀ (d:D) (v:Value),zho w A d v->d.fine->zd0 w A d v
 | .int _,_,h,k=>by unfold zho at h;unfold D.fine at k;unfold zd0;exact ⟨h,k⟩
 | .str _,_,h,_=>by unfold zho at h;unfold zd0;exact h
 | .bool _,_,h,_=>by unfold zho at h;unfold zd0;exact h
 | .list n ds,v,h,k=>by
   unfold zho at h;unfold D.fine at k;unfold zd0;obtain ⟨a,cap,h1,h4⟩:=h;refine ⟨a,cap,h1,k.1,k.2.1,?_⟩
   rcases h4 with h4 | ⟨b,off,cs,ha,hl,hb,hc,hx⟩
   . exact Or.inl h4
   . exact Or.inr ⟨b,off,cs,ha,hl,hb,hc,za1.toD ds cs hx k.2.2⟩
theorem za1.toD {A:Nat->Prop} {w:World}:∀ (l:List D) (cs:List Value),za1 w A l cs->D.fines l->zav w A l cs
 | [],_,h,_=>by unfold za1 at h;unfold zav;exact h
 | d :: ds,cs,h,k=>by
   unfold za1 at h;unfold D.fines at k;unfold zav;obtain ⟨v,r,h1,h2,h3⟩:=h;exact ⟨v,r,h1,zho.toD d v h2 k.1,za1.toD ds r h3 k.2⟩
end
theorem EAt.toD {A:Nat->Prop} {w:World} {a:OA} {n:Nat} {ds:List D} (h:EAt w A a n ds) (h1:n<=ds.length) (h2:ds.length<=17592186044416) (k:D.fines ds):DAt w A a n ds:=by
 refine ⟨h1,h2,?_⟩
 rcases h with h | ⟨b,off,cs,ha,hl,hb,hc,hx⟩
 . exact Or.inl h
 . exact Or.inr ⟨b,off,cs,ha,hl,hb,hc,hx.toD _ _ k⟩
theorem D.fines_append:∀ {l m:List D},D.fines l->D.fines m->D.fines (l++m)
 | [],_,_,k=>k
 | d :: ds,m,h,k=>by
   unfold D.fines at h;show D.fines (d :: (ds++m));unfold D.fines;exact ⟨h.1,D.fines_append h.2 k⟩
inductive Nd where
 | mk (op n m at_:Int) (args:List Nd)
def Nd.op:Nd->Int | .mk op _ _ _ _=>op
def Nd.n:Nd->Int | .mk _ n _ _ _=>n
def Nd.m:Nd->Int | .mk _ _ m _ _=>m
def Nd.at_:Nd->Int | .mk _ _ _ a _=>a
def Nd.args:Nd->List Nd | .mk _ _ _ _ l=>l
inductive Ac where
 | mk (op n m at_:Int) (args:List Nd) (body other:List Ac)
def Ac.op:Ac->Int | .mk op _ _ _ _ _ _=>op
def Ac.n:Ac->Int | .mk _ n _ _ _ _ _=>n
def Ac.m:Ac->Int | .mk _ _ m _ _ _ _=>m
def Ac.at_:Ac->Int | .mk _ _ _ a _ _ _=>a
def Ac.args:Ac->List Nd | .mk _ _ _ _ l _ _=>l
def Ac.body:Ac->List Ac | .mk _ _ _ _ _ l _=>l
def Ac.other:Ac->List Ac | .mk _ _ _ _ _ _ l=>l
mutual
def Nd.ds:Nd->List D
 | .mk op n m a args=>[.int op,.int n,.int m,.int a,.list args.length (zd5 args)]
def zd5:List Nd->List D
 | []=>[]
 | x :: r=>x.ds++zd5 r
end
mutual
def Ac.ds:Ac->List D
 | .mk op n m a args body other=>[.int op,.int n,.int m,.int a,.list args.length (zd5 args),.list body.length (zew body),.list other.length (zew other)]
def zew:List Ac->List D
 | []=>[]
 | x :: r=>x.ds++zew r
end
theorem Nd.ds_len (x:Nd):x.ds.length=5:=by cases x;unfold Nd.ds;rfl
theorem Ac.ds_len (x:Ac):x.ds.length=7:=by cases x;unfold Ac.ds;rfl
theorem zmo:∀ (l m:List Nd),zd5 (l++m)=zd5 l++zd5 m
 | [],m=>by simp [zd5]
 | x :: r,m=>by simp [zd5,zmo r m]
theorem zmp:∀ (l m:List Ac),zew (l++m)=zew l++zew m
 | [],m=>by simp [zew]
 | x :: r,m=>by simp [zew,zmp r m]
theorem z3x (x:Nd):zd5 [x]=x.ds:=by simp [zd5]
theorem z3y (x:Ac):zew [x]=x.ds:=by simp [zew]
structure Pt where
 params:Int
 locals:Int
 body:List Ac
def Pt.ds (p:Pt):List D:=[.int p.params,.int p.locals,.list p.body.length (zew p.body)]
def zmq (l:List Pt):List D:=l.flatMap Pt.ds
structure Un where
 name:ByteArray
 uses:List ByteArray
 data:Int
 parts:List Pt
 main:List Ac
structure Mg where
 kind:Int
 n:Int
 m:Int
 at_:Int
def mg0:Mg:=⟨0,0,0,0⟩
abbrev Kn:=ByteArray->ByteArray->Option Mg
abbrev Lc:=ByteArray->Option Int
def z8t (K:Kn) (L:Lc) (mod name:ByteArray):Option Mg:=
 if mod.size=0 then (match L name with | some a=>some ⟨0,0,0,a⟩ | none=>K mod name) else K mod name
def findM (K:Kn) (L:Lc) (mod name:ByteArray) (ks:List Int):Mg × Int:=
 match z8t K L mod name with
 | none=>(mg0,5)
 | some x=>if ks.contains x.kind then (x,0) else (mg0,7)
def zka (K:Kn) (L:Lc) (mod name:ByteArray) (handed:Int):Mg × Int:=
 if (findM K L mod name [4]).2=0/\(findM K L mod name [4]).1.n≠handed then (mg0,8) else findM K L mod name [4]
structure Al where
 op:Int
 n:Int
 m:Int
 at_:Int
 err:Int
def z7v (K:Kn) (L:Lc) (mod name:ByteArray):Al:=
 if (findM K L mod name [0,1,2]).2≠0 then ⟨0,0,0,0,(findM K L mod name [0,1,2]).2⟩
 else if (findM K L mod name [0,1,2]).1.kind=1 then ⟨1,(findM K L mod name [0,1,2]).1.n,0,0,0⟩
 else if (findM K L mod name [0,1,2]).1.kind=2 then ⟨3,0,(findM K L mod name [0,1,2]).1.m,(findM K L mod name [0,1,2]).1.at_,0⟩
 else ⟨16,0,0,(findM K L mod name [0,1,2]).1.at_,0⟩
def ndM (K:Kn) (L:Lc) (x:Ex):Al:=
 if x.op=3 then z7v K L x.mod x.name
 else if x.op=4 then ⟨4,(findM K L x.mod x.name [3]).1.n,(findM K L x.mod x.name [3]).1.m,(findM K L x.mod x.name [3]).1.at_,(findM K L x.mod x.name [3]).2⟩
 else if x.op=5 then ⟨5,0,(zka K L x.mod x.name x.args.length).1.m,(zka K L x.mod x.name x.args.length).1.at_,(zka K L x.mod x.name x.args.length).2⟩
 else ⟨x.op,x.n,0,0,0⟩
def acM (K:Kn) (L:Lc) (s:St):Al:=
 if s.op=1 then ⟨1,0,if (findM K L s.mod s.name [0,2]).1.kind=0 then -1 else (findM K L s.mod s.name [0,2]).1.m,(findM K L s.mod s.name [0,2]).1.at_,(findM K L s.mod s.name [0,2]).2⟩
 else if s.op=2 then ⟨2,(findM K L s.mod s.name [3]).1.n,(findM K L s.mod s.name [3]).1.m,(findM K L s.mod s.name [3]).1.at_,(findM K L s.mod s.name [3]).2⟩
 else if s.op=3 then ⟨3,0,(zka K L s.mod s.name s.args.length).1.m,(zka K L s.mod s.name s.args.length).1.at_,(zka K L s.mod s.name s.args.length).2⟩
 else ⟨s.op,0,0,0,0⟩
def zdv {α β:Type}:Except Int α->(α->Except Int β)->Except Int β
 | .error e,_=>.error e
 | .ok a,f=>f a
def alE (a:Al):Except Int Al:=if a.err=0 then .ok a else .error a.err
mutual
def rsE (K:Kn) (L:Lc):Ex->Except Int Nd
 | .mk op n mod name args=>zdv (alE (ndM K L (.mk op n mod name args))) fun h=>zdv (zh1 K L args) fun l=>.ok (.mk h.op h.n h.m h.at_ l)
def zh1 (K:Kn) (L:Lc):List Ex->Except Int (List Nd)
 | []=>.ok []
 | x :: r=>zdv (rsE K L x) fun y=>zdv (zh1 K L r) fun l=>.ok (y :: l)
end
mutual
def rsS (K:Kn) (L:Lc):St->Except Int Ac
 | .mk op mod name args body other=>zdv (alE (acM K L (.mk op mod name args body other))) fun h=>zdv (zh1 K L args) fun l=>zdv (zgo K L body) fun b=>zdv (zgo K L other) fun o=>.ok (.mk h.op h.n h.m h.at_ l b o)
def zgo (K:Kn) (L:Lc):List St->Except Int (List Ac)
 | []=>.ok []
 | x :: r=>zdv (rsS K L x) fun y=>zdv (zgo K L r) fun l=>.ok (y :: l)
end
theorem zqs {α:Type} (x:Except Int α):zdv x .ok=x:=by cases x<;>rfl
theorem zqt (K:Kn) (L:Lc):∀ (a b:List Ex) (acc:List Nd),zh1 K L a = .ok acc->zh1 K L (a++b)=zdv (zh1 K L b) fun l=>.ok (acc++l)
 | [],b,acc,h=>by
   rw [zh1] at h;obtain rfl:=vdl h;show zh1 K L b=_;exact (zqs _).symm
 | x :: a,b,acc,h=>by
   rw [zh1] at h;show zh1 K L (x :: (a++b))=_;rw [zh1]
   cases hx:rsE K L x with
   | error e=>rw [hx] at h;cases h
   | ok y=>
     rw [hx] at h;simp only [zdv] at h ⊢
     cases ha:zh1 K L a with
     | error e=>rw [ha] at h;cases h
     | ok l=>
       rw [ha] at h;obtain rfl:=vdl h;rw [zqt K L a b l ha]
       cases zh1 K L b<;>rfl
theorem zqu (K:Kn) (L:Lc):∀ (a b:List St) (acc:List Ac),zgo K L a = .ok acc->zgo K L (a++b)=zdv (zgo K L b) fun l=>.ok (acc++l)
 | [],b,acc,h=>by
   rw [zgo] at h;obtain rfl:=vdl h;show zgo K L b=_;exact (zqs _).symm
 | x :: a,b,acc,h=>by
   rw [zgo] at h;show zgo K L (x :: (a++b))=_;rw [zgo]
   cases hx:rsS K L x with
   | error e=>rw [hx] at h;cases h
   | ok y=>
     rw [hx] at h;simp only [zdv] at h ⊢
     cases ha:zgo K L a with
     | error e=>rw [ha] at h;cases h
     | ok l=>
       rw [ha] at h;obtain rfl:=vdl h;rw [zqu K L a b l ha]
       cases zgo K L b<;>rfl
theorem zqv {α:Type} (l:List α) (j:Nat) (h:j<l.length):l=l.take j++l[j] :: l.drop (j+1):=by
 rw [List.getElem_cons_drop,vca]
theorem z3z {K:Kn} {L:Lc} {l:List Ex} {j:Nat} {acc:List Nd} {e:Int} (h:j<l.length) (ha:zh1 K L (l.take j) = .ok acc) (he:rsE K L l[j] = .error e):zh1 K L l = .error e:=by
 rw [zqv l j h,zqt K L _ _ acc ha,zh1,he];rfl
theorem z0v {K:Kn} {L:Lc} {l:List Ex} {j:Nat} {acc:List Nd} {y:Nd} (h:j<l.length) (ha:zh1 K L (l.take j) = .ok acc) (he:rsE K L l[j] = .ok y):zh1 K L (l.take (j+1)) = .ok (acc++[y]):=by
 rw [vag h,zqt K L _ _ acc ha,zh1,he];rfl
theorem z30 {K:Kn} {L:Lc} {l:List St} {j:Nat} {acc:List Ac} {e:Int} (h:j<l.length) (ha:zgo K L (l.take j) = .ok acc) (he:rsS K L l[j] = .error e):zgo K L l = .error e:=by
 rw [zqv l j h,zqu K L _ _ acc ha,zgo,he];rfl
theorem z0w {K:Kn} {L:Lc} {l:List St} {j:Nat} {acc:List Ac} {y:Ac} (h:j<l.length) (ha:zgo K L (l.take j) = .ok acc) (he:rsS K L l[j] = .ok y):zgo K L (l.take (j+1)) = .ok (acc++[y]):=by
 rw [vag h,zqu K L _ _ acc ha,zgo,he];rfl
theorem z0x (K:Kn) (L:Lc) (x:Ex):rsE K L x=zdv (alE (ndM K L x)) fun h=>zdv (zh1 K L x.args) fun l=>.ok (.mk h.op h.n h.m h.at_ l):=by
 obtain ⟨op,n,mod,name,args⟩:=x;rw [rsE];rfl
theorem zss (K:Kn) (L:Lc) (x:St):rsS K L x=zdv (alE (acM K L x)) fun h=>zdv (zh1 K L x.args) fun l=>zdv (zgo K L x.body) fun b=>zdv (zgo K L x.other) fun o=>.ok (.mk h.op h.n h.m h.at_ l b o):=by
 obtain ⟨op,mod,name,args,body,other⟩:=x;rw [rsS];rfl
structure Sh where
 named:Bool
 number:Bool
 least:Int
 most:Int
 body:Bool
 other:Bool
def Sh.val (s:Sh):Value:=.agg #[.bool s.named,.bool s.number,.int .i64 s.least,.int .i64 s.most,.bool s.body,.bool s.other]
def sh0:Sh:=⟨false,false,0,0,false,false⟩
def zkb (op:Int):Option Sh:=
 if op=1 then some ⟨false,true,0,0,false,false⟩ else if op=2 then some sh0 else if op=3 then some ⟨true,false,0,0,false,false⟩
 else if op=4 then some ⟨true,false,1,1,false,false⟩ else if op=5 then some ⟨true,false,0,3,false,false⟩ else if op=6 then some ⟨false,false,1,1,false,false⟩
 else if 7<=op/\op<=15 then some ⟨false,false,2,2,false,false⟩ else none
def znh (op:Int):Option Sh:=
 if op=1 then some ⟨true,false,1,1,false,false⟩ else if op=2 then some ⟨true,false,2,2,false,false⟩ else if op=3 then some ⟨true,false,0,3,false,false⟩
 else if op=4 then some ⟨false,false,1,1,true,true⟩ else if op=5 then some ⟨false,false,1,1,true,false⟩ else if op=6 then some ⟨false,false,1,1,false,false⟩
 else if op=7 then some ⟨false,false,1,1,false,false⟩ else none
def exB (op:Int):Bool:=(zkb op).isSome
def stB (op:Int):Bool:=(znh op).isSome
def exS (op:Int):Sh:=(zkb op).getD sh0
def stS (op:Int):Sh:=(znh op).getD sh0
def kept:List (L8):=[[109,111,100,117,108,101],[117,115,101],[112,117,98],[99,111,110,115,116],[118,97,114],[97,114,114,97,121],[112,114,111,99],[108,111,99,97,108],[109,97,105,110],
 [105,102],[101,108,115,101],[119,104,105,108,101],[114,101,116,117,114,110],[111,117,116],[105,110]]
def zst (s:ByteArray):Bool:=kept.contains s.data.toList
def nameOk (s:ByteArray):Bool:=!zst s&&Lx.zbx s.data.toList
def numOkB (n:Int):Bool:=decide (0<=n)&&decide (n<=1099511627775)
def zdl (h:Sh) (mod name:ByteArray):Bool:=if h.named then nameOk name&&(decide (mod.size=0)||nameOk mod) else decide (mod.size=0)&&decide (name.size=0)
def nOk (h:Sh) (n:Int):Bool:=if h.number then numOkB n else decide (n=0)
def zbg (h:Sh) (k:Nat):Bool:=decide (h.least<=(k:Int))&&decide ((k:Int)<=h.most)
def zbh:Nat->List Ex->Bool
 | 0,_=>true
 | k+1,l=>l.all (fun x=>exB x.op&&zbh k x.args)
def zay:Nat->List St->Bool
 | 0,_=>true
 | k+1,l=>l.all (fun s=>stB s.op&&(zbh 6 s.args&&(zay k s.body&&zay k s.other)))
def zax:Nat->List Ex->Bool
 | 0,l=>decide (0<l.length)
 | k+1,l=>decide (3<l.length)||l.any (fun x=>zax k x.args)
def zan:Nat->List St->Bool
 | 0,_=>true
 | k+1,l=>decide (10<l.length)||l.any (fun s=>zax 6 s.args||(((stS s.op).body||decide (0<s.body.length))&&zan k s.body||(decide (0<s.other.length)&&zan k s.other)))
def zbq:Nat->List Ex->Bool
 | 0,_=>true
 | k+1,l=>l.all (fun x=>zdl (exS x.op) x.mod x.name&&(nOk (exS x.op) x.n&&(zbg (exS x.op) x.args.length&&zbq k x.args)))
def zaz:Nat->List St->Bool
 | 0,_=>true
 | k+1,l=>l.all (fun s=>zdl (stS s.op) s.mod s.name&&(zbg (stS s.op) s.args.length&&(zbq 6 s.args&&(((stS s.op).body||decide (s.body.length=0))&&(((stS s.op).other||decide (s.other.length=0))&&(zaz k s.body&&zaz k s.other))))))
def ze3 (d:De):Bool:=if d.kind=1 then numOkB d.n else if d.kind=3 then decide (1<=d.n)&&decide (d.n<=32) else decide (d.n=0)
def Mo.bodies (m:Mo):List (List St):=m.procs.map Pr.body++[m.main]
def Mo.kinds (m:Mo):Bool:=m.decls.all (fun d=>decide (1<=d.kind)&&decide (d.kind<=3))&&m.bodies.all (zay 6)
def Mo.many (m:Mo):Bool:=decide (3<m.uses.length)||(decide (10<m.decls.length)||(decide (6<m.procs.length)||(m.procs.any (fun p=>decide (3<p.params.length)||decide (4<p.locals.length))||m.bodies.any (zan 6))))
def Mo.form (m:Mo):Bool:=nameOk m.name&&(m.uses.all nameOk&&(m.decls.all (fun d=>nameOk d.name&&ze3 d)&&(m.procs.all (fun p=>nameOk p.name&&(p.params.all nameOk&&p.locals.all nameOk))&&m.bodies.all (zaz 6))))
def Mo.err (m:Mo):Int:=if m.kinds then (if m.many then 2 else (if m.form then 0 else 1)) else 4
theorem zlg {α:Type} (ts:List α) (p:α->Bool) (k:Nat) (h:k<ts.length):(ts.take (k+1)).any p=((ts.take k).any p||p ts[k]):=by
 rw [vag h,List.any_append];simp
theorem zwi {α:Type} (ts:List α) (p:α->Bool) (k:Nat) (h:k<ts.length) (hp:p ts[k]=true):ts.any p=true:=by
 rw [List.any_eq_true];exact ⟨ts[k],vap _,hp⟩
theorem zde {α:Type} {ts:List α} {p:α->Bool} {k:Nat} (h:(ts.take k).all p=true) (hk:¬ k<ts.length):ts.all p=true:=by
 rw [vav (by omega)] at h;exact h
theorem zqw {α:Type} {ts:List α} {p:α->Bool} {k:Nat} (h:(ts.take k).any p=false) (hk:¬ k<ts.length):ts.any p=false:=by
 rw [vav (by omega)] at h;exact h
theorem z32 {n:Int} (h:(Lit.int .i64 n).wf=true) : -9223372036854775808<=n/\n<=9223372036854775807:=by
 have h1:IntKind.i64.min = -9223372036854775808:=by decide
 have h2:IntKind.i64.max=9223372036854775807:=by decide
 simp [Lit.wf,h1,h2] at h;omega
set_option maxRecDepth 100000
set_option maxHeartbeats 1600000
theorem z33 (s:ByteArray):zst s=((s.toList == [109,111,100,117,108,101])||((s.toList == [117,115,101])||((s.toList == [112,117,98])||((s.toList == [99,111,110,115,116])||((s.toList == [118,97,114])||((s.toList == [97,114,114,97,121])||((s.toList == [112,114,111,99])||((s.toList == [108,111,99,97,108])||((s.toList == [109,97,105,110]) ||
 ((s.toList == [105,102])||((s.toList == [101,108,115,101])||((s.toList == [119,104,105,108,101])||((s.toList == [114,101,116,117,114,110])||((s.toList == [111,117,116])||((s.toList == [105,110])||false))))))))))))))):=by
 unfold zst kept;rw [vba];simp only [List.contains_cons,List.contains_nil]
theorem zo3 (s:ByteArray) (w:World) :
 Calls Tryz.prog 237 #[.string s] w fun e w'=>e = .returned (.bool (zst s))/\w'=w:=by
 go_enter Tryz.func237,Tryz.ntmps237;go_wp2_with fail
 all_goals go_ret
 all_goals refine ⟨zaa ?_,rfl⟩
 all_goals rw [z33]
 all_goals simp only [*,Bool.true_or,veo,Bool.or_true]
 all_goals simp_all only [vcs]
theorem zwj (w:World) (o:Obj):(w.alloc o).heap[w.heap.size]? = some o:=(MapKept.heap_alloc w o).1
theorem zo4 (t:Tk) (hk:ze6 t=true):(zdr [t] == 0)=t.okB:=by
 unfold zdr;simp only [vda,vek,hk,Bool.and_true,if_true,vas,vbu]
 cases t.okB<;>rfl
theorem z0y (t:Tk) (w:World) (hs:t.text.size<=maxLen):zds (w.alloc (.cells #[.int .i64 t.kind,.int .i64 t.n,.string t.text] 184)) (some ⟨w.heap.size,0,none⟩) [t]:=by
 have h:∀ j u,#[Value.int .i64 t.kind,.int .i64 t.n,.string t.text][j]? = some u->(w.alloc (.cells #[.int .i64 t.kind,.int .i64 t.n,.string t.text] 184)).cell? ⟨w.heap.size,j,none⟩=some u:=fun j u hj=>by
  rw [veq (zwj w _)];exact hj
 refine Or.inr ⟨_,0,rfl,by simp,?_,?_,?_,?_⟩
 . intro i hi
   obtain rfl:i=0:=by simpa using hi
   exact h 0 _ rfl
 . intro i hi
   obtain rfl:i=0:=by simpa using hi
   exact h 1 _ rfl
 . intro i hi
   obtain rfl:i=0:=by simpa using hi
   exact h 2 _ rfl
 . intro i hi
   obtain rfl:i=0:=by simpa using hi
   exact hs
theorem zsu (t:Tk) (w:World) (hs:t.text.size<=maxLen) (hk:ze6 t=true) :
 Calls Tryz.prog 238 #[t.val] w fun e w'=>e = .returned (.bool t.okB)/\Below w.heap.size w w':=by
 have HK:Hid ((zdr [t] == 0)=t.okB):=zo4 t hk
 have HC:Hid (∀ (w1:World) (n:Nat),n=w1.heap.size->Calls Tryz.prog 116 #[.slice (some ⟨n,0,none⟩) 1 1] (w1.alloc (.cells #[.int .i64 t.kind,.int .i64 t.n,.string t.text] 184)) fun e w'=>e = .returned (.int .i64 (zdr [t]))/\Below w1.heap.size w1 w'):=
  fun w1 n hn=>by
   subst hn;refine (zr9 _ 1 [t] _ (z0y t w1 hs) (by simp)).mono ?_;rintro e w' ⟨rfl,hb⟩;exact ⟨rfl,((Below.refl _ _).alloc (vaa _) _).trans (hb.mono (by simp))⟩
 obtain ⟨K,N,S⟩:=t;simp only [Tk.val] at *;go_enter Tryz.func238,Tryz.ntmps238
 go_wp2_with (go_at_call 116;refine (HC.out _ _ (by simp)).mono ?_;rintro e w' ⟨rfl,hb⟩)
 go_ret;exact ⟨zaa HK.out,((Below.refl _ _).alloc (vaa _) _).trans (hb.mono (by simp))⟩
theorem zwk (s:ByteArray):Tk.okB ⟨1,0,s⟩=Lx.zbx s.data.toList:=by simp [Tk.okB]
theorem z6w (n:Int):Tk.okB ⟨2,n,⟨#[]⟩⟩=numOkB n:=by simp [Tk.okB,numOkB,vba]
theorem zeq (s:ByteArray) (w:World) (hs:s.size<=maxLen) :
 Calls Tryz.prog 186 #[.string s] w fun e w'=>e = .returned (.bool (nameOk s))/\Below w.heap.size w w':=by
 have HC:Hid (∀ w1:World,Calls Tryz.prog 238 #[.agg #[.int .i64 1,.int .i64 0,.string s]] w1 fun e w'=>e = .returned (.bool (Lx.zbx s.data.toList))/\Below w1.heap.size w1 w'):=fun w1=>by
  rw [← zwk];exact zsu ⟨1,0,s⟩ w1 hs rfl
 by_cases hk:zst s=true
 . have HN:Hid (nameOk s=false):=by show _=_;simp [nameOk,hk]
   go_enter Tryz.func186,Tryz.ntmps186
   go_wp2_with (go_at_call 237;refine (zo3 s _).mono ?_;rintro e w' ⟨rfl,rfl⟩)
   go_ret;exact ⟨zaa (by rw [HN.out]),Below.refl _ _⟩
 . have hk':zst s=false:=by simpa using hk
   clear hk
   have HN:Hid (nameOk s=Lx.zbx s.data.toList):=by show _=_;simp [nameOk,hk']
   go_enter Tryz.func186,Tryz.ntmps186
   go_wp2_with (first | (go_at_call 237;refine (zo3 s _).mono ?_;rintro e w' ⟨rfl,rfl⟩) | (go_at_call 238;refine (HC.out _).mono ?_;rintro e w' ⟨rfl,hb⟩))
   go_ret;exact ⟨zaa (by rw [HN.out]),hb⟩
theorem zmr (n:Int) (w:World) :
 Calls Tryz.prog 241 #[.int .i64 n] w fun e w'=>e = .returned (.bool (numOkB n))/\Below w.heap.size w w':=by
 have HC:Hid (∀ w1:World,Calls Tryz.prog 238 #[.agg #[.int .i64 2,.int .i64 n,.string ⟨#[]⟩]] w1 fun e w'=>e = .returned (.bool (numOkB n))/\Below w1.heap.size w1 w'):=fun w1=>by
  rw [← z6w];exact zsu ⟨2,n,⟨#[]⟩⟩ w1 (vae _) rfl
 go_enter Tryz.func241,Tryz.ntmps241
 go_wp2_with (go_at_call 238;refine (HC.out _).mono ?_;rintro e w' ⟨rfl,hb⟩)
 go_ret;exact ⟨rfl,hb⟩
theorem zkc (s:ByteArray):s.toList.isEmpty=decide (s.size=0):=by
 rw [vba];have h:=Lx.zat s
 cases hl:s.data.toList with
 | nil=>rw [hl] at h;have h':s.size=0:=h.symm;simp [h']
 | cons c r => rw [hl] at h;have h':s.size≠0:=by simp at h;omega
               simp [h']
theorem zkq (h:Sh) (mod name:ByteArray) (w:World) (h1:mod.size<=maxLen) (h2:name.size<=maxLen) :
 Calls Tryz.prog 242 #[h.val,.string mod,.string name] w fun e w'=>e = .returned (.bool (zdl h mod name))/\Below w.heap.size w w':=by
 obtain ⟨a,b,c,d,e,f⟩:=h;simp only [Sh.val]
 cases a with
 | false=>
   have HR:Hid (zdl ⟨false,b,c,d,e,f⟩ mod name=(mod.toList.isEmpty&&name.toList.isEmpty)):=by show _=_;simp [zdl,zkc]
   cases hm:mod.toList.isEmpty with
   | false=>
     go_enter Tryz.func242,Tryz.ntmps242;go_wp2_with fail;go_ret;exact ⟨zaa (by rw [HR.out,hm];rfl),(Below.refl _ _).alloc (vaa _) _⟩
   | true=>
     go_enter Tryz.func242,Tryz.ntmps242;go_wp2_with fail;go_ret;exact ⟨zaa (by rw [HR.out,hm];rfl),(Below.refl _ _).alloc (vaa _) _⟩
 | true=>
   have HR:Hid (zdl ⟨true,b,c,d,e,f⟩ mod name=(nameOk name&&(mod.toList.isEmpty||nameOk mod))):=by show _=_;simp [zdl,zkc]
   cases hn:nameOk name with
   | false=>
     go_enter Tryz.func242,Tryz.ntmps242
     go_wp2_with (go_at_call 186;refine (zeq name _ h2).mono ?_;rw [hn];rintro e w' ⟨rfl,hb⟩)
     go_ret;exact ⟨zaa (by rw [HR.out,hn];rfl),((Below.refl _ _).alloc (vaa _) _).trans (hb.mono (by simp))⟩
   | true=>
     cases hm:mod.toList.isEmpty with
     | true=>
       go_enter Tryz.func242,Tryz.ntmps242
       go_wp2_with (go_at_call 186;refine (zeq name _ h2).mono ?_;rw [hn];rintro e w' ⟨rfl,hb⟩)
       go_ret;exact ⟨zaa (by rw [HR.out,hn,hm];rfl),((Below.refl _ _).alloc (vaa _) _).trans (hb.mono (by simp))⟩
     | false=>
       go_enter Tryz.func242,Tryz.ntmps242;go_wp2_with fail;refine (zeq name _ h2).mono ?_;rw [hn];rintro e w1 ⟨rfl,hb⟩;go_wp2_with fail;refine (zeq mod _ h1).mono ?_;rintro e w2 ⟨rfl,hb2⟩;go_wp2_with fail;go_ret;exact ⟨zaa (by rw [HR.out,hn,hm];simp),(((Below.refl _ _).alloc (vaa _) _).trans (hb.mono (by simp))).trans (hb2.mono (vai (by simp) hb.size))⟩
theorem zms (h:Sh) (n:Int) (w:World) :
 Calls Tryz.prog 280 #[h.val,.int .i64 n] w fun e w'=>e = .returned (.bool (nOk h n))/\Below w.heap.size w w':=by
 obtain ⟨a,b,c,d,e,f⟩:=h;simp only [Sh.val]
 cases b with
 | false=>
   have HR:Hid (nOk ⟨a,false,c,d,e,f⟩ n=(n == 0)):=by show _=_;rw [vcq];simp [nOk]
   go_enter Tryz.func280,Tryz.ntmps280;go_wp2_with fail;go_ret;exact ⟨zaa HR.out.symm,(Below.refl _ _).alloc (vaa _) _⟩
 | true=>
   have HR:Hid (nOk ⟨a,true,c,d,e,f⟩ n=numOkB n):=by show _=_;simp [nOk]
   go_enter Tryz.func280,Tryz.ntmps280
   go_wp2_with (go_at_call 241;refine (zmr n _).mono ?_;rintro e w' ⟨rfl,hb⟩)
   go_ret;exact ⟨zaa HR.out.symm,((Below.refl _ _).alloc (vaa _) _).trans (hb.mono (by simp))⟩
theorem zh6 (h:Sh) (aa:OA) (k cap:Nat) (w:World) :
 Calls Tryz.prog 243 #[h.val,.slice aa k cap] w fun e w'=>e = .returned (.bool (zbg h k))/\Below w.heap.size w w':=by
 obtain ⟨a,b,c,d,e,f⟩:=h;simp only [Sh.val];have HR:Hid (zbg ⟨a,b,c,d,e,f⟩ k=(decide (c<=(k:Int))&&decide ((k:Int)<=d))):=rfl
 by_cases h1:c<=(k:Int)
 . go_enter Tryz.func243,Tryz.ntmps243
   go_wp2_with fail
   all_goals go_ret
   all_goals exact ⟨zaa (by rw [HR.out];simp [*]<;>omega),(Below.refl _ _).alloc (vaa _) _⟩
 . go_enter Tryz.func243,Tryz.ntmps243
   go_wp2_with fail
   all_goals go_ret
   all_goals exact ⟨zaa (by rw [HR.out];simp [*]<;>omega),(Below.refl _ _).alloc (vaa _) _⟩
theorem zqx (x:De) (w:World) :
 Calls Tryz.prog 188 #[.agg #[.int .i64 x.kind,.string x.name,.bool x.pub,.int .i64 x.n]] w fun e w'=>e = .returned (.bool (ze3 x))/\Below w.heap.size w w':=by
 obtain ⟨K,S,B,N⟩:=x
 by_cases k1:K=1
 . have HR:Hid (ze3 ⟨K,S,B,N⟩=numOkB N):=if_pos k1
   subst k1;go_enter Tryz.func188,Tryz.ntmps188
   go_wp2_with (go_at_call 241;refine (zmr N _).mono ?_;rintro e w' ⟨rfl,hb⟩)
   go_ret;exact ⟨zaa HR.out.symm,((Below.refl _ _).alloc (vaa _) _).trans (hb.mono (by simp))⟩
 . have b1:(K == 1)=false:=beq_eq_false_iff_ne.2 k1
   by_cases k3:K=3
   . have HR:Hid (ze3 ⟨K,S,B,N⟩=(decide (1<=N)&&decide (N<=32))):=(if_neg k1).trans (if_pos k3)
     subst k3;clear k1 b1
     by_cases n1:1<=N
     . go_enter Tryz.func188,Tryz.ntmps188
       go_wp2_with fail
       all_goals go_ret
       all_goals exact ⟨zaa (by rw [HR.out];simp [*]<;>omega),(Below.refl _ _).alloc (vaa _) _⟩
     . go_enter Tryz.func188,Tryz.ntmps188
       go_wp2_with fail
       all_goals go_ret
       all_goals exact ⟨zaa (by rw [HR.out];simp [*]<;>omega),(Below.refl _ _).alloc (vaa _) _⟩
   . have b3:(K == 3)=false:=beq_eq_false_iff_ne.2 k3
     have HR:Hid (ze3 ⟨K,S,B,N⟩=(N == 0)):=by
      show _=_
      rw [vcq];simp [ze3,k1,k3]
     clear k1 k3;go_enter Tryz.func188,Tryz.ntmps188;go_wp2_with fail
     all_goals go_ret
     all_goals exact ⟨zaa (by rw [HR.out]),(Below.refl _ _).alloc (vaa _) _⟩
end Go.Proofs.YtndkhgakfodldaaGreatDoor

namespace Go.Proofs.YtndkhgakfodldaaGreatDoor
set_option maxRecDepth 100000
set_option maxHeartbeats 1600000
open Go.RowKit Go.Maps
def z0z (v:Value):Option (DataW Value × List MemPlace):=some (.held v,[])
theorem z00:Keyed Tryz.prog 3:=int_keyed Tryz.underlying3
theorem z5j (w:World):(zeroValue 270).run Tryz.prog w = .ok sh0.val w:=by kernel_rfl
def z34 (D:DataW Value) (f:Int->Option Sh):Prop:=∀ a:Int,has D (.int .i64 a)=(f a).isSome/\D.atKey (.int .i64 a) (.held sh0.val) = .held ((f a).getD sh0).val
def upd (f:Int->Option Sh) (k:Int) (s:Sh):Int->Option Sh:=fun a=>if a=k then some s else f a
theorem z34.put {D:DataW Value} {f:Int->Option Sh} (h:z34 D f) (hD:IsMap D) (k:Int) (s:Sh):z34 (D.put (.int .i64 k) (.held s.val)) (upd f k s):=by
 intro a
 by_cases e:a=k
 . subst e
   simp only [upd,if_true];exact ⟨has_put_same (k:=.int .i64 a) hD trivial _,atKey_put_same (k:=.int .i64 a) hD trivial _ _⟩
 . simp only [upd,if_neg e]
   have hne:Lit.int .i64 a≠.int .i64 k:=fun h=>e (by injection h)
   rw [has_put_other hne,atKey_put_other hne];exact h a
def zdn (w:World) (b n:Nat) (f:Int->Option Sh):Prop:=∃ D,w.ownsMap Tryz.prog 3 z0z b n D/\z34 D f
theorem zdn.later {w w':World} {b n:Nat} {f:Int->Option Sh} (h:zdn w b n f) (hb:Below w.heap.size w w'):zdn w' b n f:=by
 obtain ⟨D,h1,h2⟩:=h;have hlt:=h1.lt;obtain ⟨es,clock,hb',r⟩:=h1;exact ⟨D,⟨es,clock,(hb.block b hlt).trans hb',r⟩,h2⟩
theorem zdn.lt {w:World} {b n:Nat} {f:Int->Option Sh} (h:zdn w b n f):b<w.heap.size:=by obtain ⟨D,h1,_⟩:=h;exact h1.lt
theorem zdn.made (w:World):zdn (w.alloc (.map #[] 0)) w.heap.size 0 (fun _=>none):=
 ⟨.map [],vew w _ _ _,fun _=>⟨rfl,rfl⟩⟩
theorem zdn.look {w:World} {b n:Nat} {f:Int->Option Sh} (h:zdn w b n f) {k:Int} (hk:(Lit.int .i64 k).wf=true) :
 (Instr.lookup 232 (.map (some b)) (.int .i64 k) false).run Tryz.prog w = .ok ((f k).getD sh0).val w:=by
 obtain ⟨D,h1,h2⟩:=h;obtain ⟨v,ps,hrun,hv⟩:=h1.lookup z00 Tryz.underlying232 (z5j w) (zd:=.held sh0.val) (zp:=[]) rfl (keyOf_int_mk Tryz.underlying3 hk);rw [(h2 k).2] at hv;simp only [z0z,vbh,vee,veg] at hv;rw [hrun,hv.1]
theorem zdn.look_ok {w:World} {b n:Nat} {f:Int->Option Sh} (h:zdn w b n f) {k:Int} (hk:(Lit.int .i64 k).wf=true) :
 (Instr.lookup 232 (.map (some b)) (.int .i64 k) true).run Tryz.prog w = .ok (.tuple #[((f k).getD sh0).val,.bool (f k).isSome]) w:=by
 obtain ⟨D,h1,h2⟩:=h;obtain ⟨v,ps,hrun,hv⟩:=h1.look_ok z00 Tryz.underlying232 (z5j w) (zd:=.held sh0.val) (zp:=[]) rfl (keyOf_int_mk Tryz.underlying3 hk);rw [(h2 k).2] at hv;simp only [z0z,vbh,vee,veg] at hv;rw [hrun,hv.1,(h2 k).1]
theorem zdn.put {w:World} {b n:Nat} {f:Int->Option Sh} (h:zdn w b n f) (hn:n<maxLen) {k:Int} (hk:(Lit.int .i64 k).wf=true) (s:Sh) :
 ∃ w',(Instr.mapUpdate 232 (.map (some b)) (.int .i64 k) s.val).run Tryz.prog w = .ok () w'/\zdn w' b (n+1) (upd f k s)/\w.grownBy w' (some b):=by
 obtain ⟨D,h1,h2⟩:=h;obtain ⟨w',r1,r2,r3⟩:=h1.update z00 Tryz.underlying232 hn (keyOf_int_mk Tryz.underlying3 hk) (val:=s.val) (d:=.held s.val) (ps:=[]) rfl;exact ⟨w',r1,⟨_,r2,h2.put h1.isMap k s⟩,r3⟩
theorem zsv {ops:Array Oper} {rest:List Oper} {o:Oper} {a:Act} {w:World} {Q:Exit->Act->World->Prop} (hg:o.guard=none) (m x v:Operand) (hop:o.op=Op.insert 232 m x v) {b n:Nat} {f:Int->Option Sh} (hS:zdn w b n f)
 (hm:a.eval m = .map (some b)) (k:Int) (hx:a.eval x = .int .i64 k) (x1 x2:Bool) (x3 x4:Int) (x5 x6:Bool) (hv:a.eval v = .agg #[.bool x1,.bool x2,.int .i64 x3,.int .i64 x4,.bool x5,.bool x6]) (hk:(Lit.int .i64 k).wf=true) (hn:n<maxLen)
 (hK:∀ w',zdn w' b (n+1) (upd f k ⟨x1,x2,x3,x4,x5,x6⟩)->w.grownBy w' (some b)->wpList Tryz.prog ops Q rest (a.put o.dst undef) w'):wpList Tryz.prog ops Q (o :: rest) a w:=by
 refine wpList_plain hg fun K' hK'=>?_
 obtain ⟨w',hrun,r1,r2⟩:=hS.put hn hk ⟨x1,x2,x3,x4,x5,x6⟩;simp only [Sh.val] at hrun;unfold Oper.wp;simp [execOp,hop,hm,hx,hv,hrun,Result.andThen];exact hK' _ _ (hK w' r1 r2)
theorem z01 {ops:Array Oper} {rest:List Oper} {o:Oper} {a:Act} {w:World} {Q:Exit->Act->World->Prop} (hg:o.guard=none) (m x v:Operand) (hop:o.op=Op.mapUpdate 232 m x v) {b n:Nat} {f:Int->Option Sh} (hS:zdn w b n f)
 (hm:a.eval m = .map (some b)) (k:Int) (hx:a.eval x = .int .i64 k) (x1 x2:Bool) (x3 x4:Int) (x5 x6:Bool) (hv:a.eval v = .agg #[.bool x1,.bool x2,.int .i64 x3,.int .i64 x4,.bool x5,.bool x6]) (hk:(Lit.int .i64 k).wf=true) (hn:n<maxLen)
 (hK:∀ w',zdn w' b (n+1) (upd f k ⟨x1,x2,x3,x4,x5,x6⟩)->w.grownBy w' (some b)->wpList Tryz.prog ops Q rest (a.put o.dst undef) w'):wpList Tryz.prog ops Q (o :: rest) a w:=by
 refine wpList_plain hg fun K' hK'=>?_
 obtain ⟨w',hrun,r1,r2⟩:=hS.put hn hk ⟨x1,x2,x3,x4,x5,x6⟩;simp only [Sh.val] at hrun;unfold Oper.wp;simp [execOp,hop,hm,hx,hv,hrun,Result.andThen];exact hK' _ _ (hK w' r1 r2)
def stF:Int->Option Sh:=upd (upd (upd (upd (upd (upd (upd (fun _=>none) 1 ⟨true,false,1,1,false,false⟩) 2 ⟨true,false,2,2,false,false⟩) 3 ⟨true,false,0,3,false,false⟩) 4 ⟨false,false,1,1,true,true⟩) 5 ⟨false,false,1,1,true,false⟩) 6 ⟨false,false,1,1,false,false⟩) 7 ⟨false,false,1,1,false,false⟩
theorem z8u:stF=znh:=by
 funext a
 unfold stF upd znh
 repeat' split
 all_goals first | rfl | omega
def yao:Int->Option Sh:=upd (upd (upd (upd (upd (upd (fun _=>none) 1 ⟨false,true,0,0,false,false⟩) 2 ⟨false,false,0,0,false,false⟩) 3 ⟨true,false,0,0,false,false⟩) 4 ⟨true,false,1,1,false,false⟩) 5 ⟨true,false,0,3,false,false⟩) 6 ⟨false,false,1,1,false,false⟩
def exF (k:Nat):Int->Option Sh:=fun a=>if 7<=a/\a<7+(k:Int) then some ⟨false,false,2,2,false,false⟩ else yao a
theorem z35:yao=exF 0:=by
 funext a
 unfold exF;rw [if_neg (by omega)]
theorem z36 (k:Nat):upd (exF k) (7+(k:Int)) ⟨false,false,2,2,false,false⟩=exF (k+1):=by
 funext a
 simp only [upd,exF]
 by_cases e:a=7+(k:Int)
 . rw [if_pos e,if_pos (by omega)]
 . rw [if_neg e]
   by_cases h:7<=a/\a<7+(k:Int)
   . rw [if_pos h,if_pos (by omega)]
   . rw [if_neg h,if_neg (by omega)]
theorem z6x:exF 9=zkb:=by
 funext a
 unfold exF yao upd zkb
 repeat' split
 all_goals first | rfl | omega
theorem zny (w:World) :
 Calls Tryz.prog 151 #[] w fun e w'=>∃ b,e = .returned (.map (some b))/\zdn w' b 7 znh/\Below w.heap.size w w':=by
 have hmm:=@run_makeMap Tryz.prog;have hS:=zdn.made w;have hB:Below w.heap.size w (w.alloc (.map #[] 0)):=(Below.refl _ _).alloc (vaa _) _;go_enter Tryz.func151,Tryz.ntmps151
 go_wp2_with (refine zsv rfl _ _ _ rfl hS rfl _ rfl _ _ _ _ _ _ rfl (by decide) (by decide) ?_;clear hS;intro w1 hS hG;replace hB:=hB.grown hG hB.size (fun j hj=>by cases hj;exact vaa _);clear hG)
 go_ret;refine ⟨_,rfl,?_,hB⟩;rw [← z8u];exact hS
theorem znz (w:World) :
 Calls Tryz.prog 150 #[] w fun e w'=>∃ b,e = .returned (.map (some b))/\zdn w' b 15 zkb/\Below w.heap.size w w':=by
 have hmm:=@run_makeMap Tryz.prog;have hS:=zdn.made w;have hB:Below w.heap.size w (w.alloc (.map #[] 0)):=(Below.refl _ _).alloc (vaa _) _;go_enter Tryz.func150,Tryz.ntmps150
 go_wp2_with (refine zsv rfl _ _ _ rfl hS rfl _ rfl _ _ _ _ _ _ rfl (by decide) (by decide) ?_;clear hS;intro w1 hS hG;replace hB:=hB.grown hG hB.size (fun j hj=>by cases hj;exact vaa _);clear hG)
 have hS0:zdn w1 w.heap.size 6 (exF 0):=by rw [← z35];exact hS
 clear hS
 go_loopw [2] (fun i wr=>∃ k:Nat,k<=9/\i = .int .i64 (7+(k:Int))/\zdn wr w.heap.size (6+k) (exF k)/\Below w.heap.size w wr) (fun i _=>16 - (intOf i).toNat)
 case atStart=>exact ⟨0,by omega,rfl,hS0,hB⟩
 case round=>
  clear hS0 hB;obtain ⟨k,hk,rfl,hS,hB⟩:=hrel
  by_cases hlt:k<9
  . go_wp2_with (refine z01 rfl _ _ _ rfl hS rfl _ rfl _ _ _ _ _ _ rfl (WalkArith.wf_i64 (by omega)) (by unfold maxLen;omega) ?_;clear hS;intro w2 hS hG;replace hB:=hB.grown hG hB.size (fun j hj=>by cases hj;exact vaa _);clear hG)
    rw [z36] at hS;go_roundw
    case rel=>exact ⟨k+1,by omega,by go_num,hS,hB⟩
    case measure=>simp [intOf];omega
  . obtain rfl:k=9:=by omega
    go_wp2_with fail;go_ret;refine ⟨_,rfl,?_,hB⟩;rw [← z6x];exact hS
end Go.Proofs.YtndkhgakfodldaaGreatDoor
