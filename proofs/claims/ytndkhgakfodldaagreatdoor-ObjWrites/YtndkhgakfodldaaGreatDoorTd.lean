/-
  Modules without the program: what lies in memory as a tree of numbers, texts, bools and lists; and how memory may change around it.
-/
import Derived.Test.YtndkhgakfodldaaGreatDoorLeafc
import Derived.Deep.AppendLies
import Derived.Maps.OwnSet
namespace Go.Proofs.YtndkhgakfodldaaGreatDoor
open Go.RowKit
def vez:=@Go.RowKit.Below.refl
def vfa:=@Go.Calls.quiet_of_same
def vfb:=@Go.RowKit.Below.heap_setCell
inductive D where
 | int (n:Int)
 | str (s:ByteArray)
 | bool (b:Bool)
 | list (n:Nat) (ds:List D)
def zgd (w:World) (b off:Nat) (l:List Value):Prop:=∀ j u,l[j]? = some u->w.cell? ⟨b,off+j,none⟩=some u
mutual
def zdm (w:World) (A:Nat->Prop):D->Value->Prop
 | .int n,v=>v = .int .i64 n/\(Lit.int .i64 n).wf=true
 | .str s,v=>v = .string s/\s.size<=maxLen
 | .bool b,v=>v = .bool b
 | .list n ds,v=>∃ a cap,v = .slice a n cap/\n<=ds.length/\ds.length<=17592186044416/\(n=0\/∃ b off cs,a=some ⟨b,off,none⟩/\A b/\b<w.heap.size/\zgd w b off cs/\zas w A ds cs)
def zas (w:World) (A:Nat->Prop):List D->List Value->Prop
 | [],cs=>cs=[]
 | d :: ds,cs=>∃ v r,cs=v :: r/\zdm w A d v/\zas w A ds r
end
def zge (lo:Nat) (w w':World):Prop:=w.heap.size<=w'.heap.size/\∀ k,lo<=k->k<w.heap.size->w'.heap[k]? = w.heap[k]?
theorem zge.refl (lo:Nat) (w:World):zge lo w w:=⟨vaa _,fun _ _ _=>rfl⟩
theorem zge.trans {lo:Nat} {a b c:World} (h:zge lo a b) (k:zge lo b c):zge lo a c:=
 ⟨vai h.1 k.1,fun i h1 h2=>(k.2 i h1 (vah h2 h.1)).trans (h.2 i h1 h2)⟩
theorem zge.mono {lo lo':Nat} {w w':World} (h:zge lo w w') (hl:lo<=lo'):zge lo' w w':=⟨h.1,fun k h1 h2=>h.2 k (vai hl h1) h2⟩
theorem zge.of_below {w w':World} (h:Below w.heap.size w w') (lo:Nat):zge lo w w':=⟨h.size,fun k _ h2=>h.block k h2⟩
theorem zge.cell {lo:Nat} {w w':World} (h:zge lo w w') {b off:Nat} (h1:lo<=b) (h2:b<w.heap.size):w'.cell? ⟨b,off,none⟩=w.cell? ⟨b,off,none⟩:=
 vet (w:=w) (h.2 b h1 h2)
theorem zge.alloc {lo:Nat} {w w':World} (h:zge lo w w') (o:Obj):zge lo w (w'.alloc o):=
 h.trans (zge.of_below ((vez w'.heap.size w').alloc (vaa _) o) lo)
def zah (w:World) (A:Nat->Prop) (w':World) (A':Nat->Prop):Prop:=w.heap.size<=w'.heap.size/\∀ b,b<w.heap.size->A b->A' b/\w'.heap[b]? = w.heap[b]?
theorem zah.refl (w:World) (A:Nat->Prop):zah w A w A:=⟨vaa _,fun _ _ h=>⟨h,rfl⟩⟩
theorem zah.trans {w1 w2 w3:World} {A1 A2 A3:Nat->Prop} (h:zah w1 A1 w2 A2) (k:zah w2 A2 w3 A3):zah w1 A1 w3 A3:=
 ⟨vai h.1 k.1,fun b hb ha=>⟨(k.2 b (vah hb h.1) (h.2 b hb ha).1).1,(k.2 b (vah hb h.1) (h.2 b hb ha).1).2.trans (h.2 b hb ha).2⟩⟩
theorem zah.of_below {w w':World} (h:Below w.heap.size w w') (A:Nat->Prop):zah w A w' A:=⟨h.size,fun b hb ha=>⟨ha,h.block b hb⟩⟩
theorem zah.alloc {w w':World} {A A':Nat->Prop} (h:zah w A w' A') (o:Obj):zah w A (w'.alloc o) A':=h.trans (zah.of_below ((vez w'.heap.size w').alloc (vaa _) o) A')
theorem zah.lower {w:World} {lo lo':Nat} (h:lo'<=lo):zah w (lo<=·) w (lo'<=·):=⟨vaa _,fun _ _ ha=>⟨vai h ha,rfl⟩⟩
theorem zgd.moves {A A':Nat->Prop} {w w':World} {b off:Nat} {l:List Value} (h:zgd w b off l) (hs:zah w A w' A') (h1:A b) (h2:b<w.heap.size):zgd w' b off l:=
 fun j u hj=>(vet (w:=w) (hs.2 b h2 h1).2).trans (h j u hj)
mutual
theorem zdm.moves {A A':Nat->Prop} {w w':World} (hs:zah w A w' A'):∀ (d:D) (v:Value),zdm w A d v->zdm w' A' d v
 | .int _,_,h=>h
 | .str _,_,h=>h
 | .bool _,_,h=>h
 | .list n ds,v,h=>by
   unfold zdm at h ⊢;obtain ⟨a,cap,h1,h2,h3,h4⟩:=h;refine ⟨a,cap,h1,h2,h3,?_⟩
   rcases h4 with h4 | ⟨b,off,cs,ha,hl,hb,hc,hx⟩
   . exact Or.inl h4
   . exact Or.inr ⟨b,off,cs,ha,(hs.2 b hb hl).1,vah hb hs.1,hc.moves hs hl hb,zas.moves hs ds cs hx⟩
theorem zas.moves {A A':Nat->Prop} {w w':World} (hs:zah w A w' A'):∀ (l:List D) (cs:List Value),zas w A l cs->zas w' A' l cs
 | [],_,h=>h
 | d :: ds,cs,h=>by
   unfold zas at h ⊢;obtain ⟨v,r,h1,h2,h3⟩:=h;exact ⟨v,r,h1,zdm.moves hs d v h2,zas.moves hs ds r h3⟩
end
theorem zdm.one {w:World} {lo:Nat->Prop}:∀ {d:D} {v:Value},zdm w lo d v->v.oneCell'=true
 | .int _,_,h=>by unfold zdm at h;rw [h.1];rfl
 | .str _,_,h=>by unfold zdm at h;rw [h.1];rfl
 | .bool _,_,h=>by unfold zdm at h;rw [h];rfl
 | .list _ _,_,h=>by unfold zdm at h;obtain ⟨a,cap,h,_⟩:=h;rw [h];rfl
theorem zas.one {w:World} {lo:Nat->Prop}:∀ {l:List D} {cs:List Value},zas w lo l cs->∀ u ∈ cs,u.oneCell'=true
 | [],_,h=>by unfold zas at h;rw [h];intro u hu;cases hu
 | d :: ds,cs,h=>by
   unfold zas at h;obtain ⟨v,r,rfl,h2,h3⟩:=h;intro u hu
   rcases vcm.1 hu with rfl | hu
   . exact h2.one
   . exact zas.one h3 u hu
theorem zas.len {w:World} {lo:Nat->Prop}:∀ {l:List D} {cs:List Value},zas w lo l cs->cs.length=l.length
 | [],_,h=>by unfold zas at h;rw [h];rfl
 | d :: ds,cs,h=>by
   unfold zas at h;obtain ⟨v,r,rfl,h2,h3⟩:=h;simp [zas.len h3]
theorem zas.nil {w:World} {lo:Nat->Prop}:zas w lo [] []:=by unfold zas;rfl
theorem zas.cons {w:World} {lo:Nat->Prop} {d:D} {ds:List D} {v:Value} {cs:List Value} (h:zdm w lo d v) (k:zas w lo ds cs):zas w lo (d :: ds) (v :: cs):=by
 unfold zas;exact ⟨v,cs,rfl,h,k⟩
theorem zas.append {w:World} {lo:Nat->Prop}:∀ {l m:List D} {cs es:List Value},zas w lo l cs->zas w lo m es->zas w lo (l++m) (cs++es)
 | [],m,cs,es,h,k=>by unfold zas at h;subst h;exact k
 | d :: ds,m,cs,es,h,k=>by
   unfold zas at h;obtain ⟨v,r,rfl,h2,h3⟩:=h;exact zas.cons h2 (zas.append h3 k)
theorem zas.get {w:World} {lo:Nat->Prop}:∀ {l:List D} {cs:List Value},zas w lo l cs->∀ (j:Nat) (d:D),l[j]? = some d->∃ v,cs[j]? = some v/\zdm w lo d v
 | [],_,_,j,d,hj=>by simp at hj
 | e :: ds,cs,h,j,d,hj=>by
   unfold zas at h;obtain ⟨v,r,rfl,h2,h3⟩:=h
   cases j with
   | zero=>simp at hj;subst hj;exact ⟨v,rfl,h2⟩
   | succ j=>simpa using zas.get h3 j d (by simpa using hj)
theorem zc8 {w:World} {lo:Nat->Prop} {n:Int} (h:(Lit.int .i64 n).wf=true):zdm w lo (.int n) (.int .i64 n):=by unfold zdm;exact ⟨rfl,h⟩
theorem zez {w:World} {lo:Nat->Prop} {s:ByteArray} (h:s.size<=maxLen):zdm w lo (.str s) (.string s):=by unfold zdm;exact ⟨rfl,h⟩
theorem z08 {w:World} {lo:Nat->Prop} {b:Bool}:zdm w lo (.bool b) (.bool b):=by unfold zdm;rfl
theorem zpo {w:World} {lo:Nat->Prop} {a:OA} {cap:Nat}:zdm w lo (.list 0 []) (.slice a 0 cap):=by unfold zdm;exact ⟨a,cap,rfl,vaa _,by simp,Or.inl rfl⟩
theorem z7u {w:World} {lo:Nat->Prop} {n b off cap:Nat} {ds:List D} {cs:List Value} (h1:n<=ds.length) (h2:ds.length<=17592186044416) (hl:lo b) (hb:b<w.heap.size) (hc:zgd w b off cs) (hx:zas w lo ds cs):zdm w lo (.list n ds) (.slice (some ⟨b,off,none⟩) n cap):=by
 unfold zdm;exact ⟨_,cap,rfl,h1,h2,Or.inr ⟨b,off,cs,rfl,hl,hb,hc,hx⟩⟩
theorem za8 {w:World} {lo:Nat->Prop} {n:Int} {v:Value} (h:zdm w lo (.int n) v):v = .int .i64 n/\(Lit.int .i64 n).wf=true:=by unfold zdm at h;exact h
theorem zc2 {w:World} {lo:Nat->Prop} {s:ByteArray} {v:Value} (h:zdm w lo (.str s) v):v = .string s/\s.size<=maxLen:=by unfold zdm at h;exact h
theorem zub {w:World} {lo:Nat->Prop} {b:Bool} {v:Value} (h:zdm w lo (.bool b) v):v = .bool b:=by unfold zdm at h;exact h
def DAt (w:World) (lo:Nat->Prop) (a:OA) (n:Nat) (ds:List D):Prop:=n<=ds.length/\ds.length<=17592186044416/\(n=0\/∃ b off cs,a=some ⟨b,off,none⟩/\lo b/\b<w.heap.size/\zgd w b off cs/\zas w lo ds cs)
theorem za0 {w:World} {lo:Nat->Prop} {n:Nat} {ds:List D} {v:Value} (h:zdm w lo (.list n ds) v):∃ a cap,v = .slice a n cap/\DAt w lo a n ds:=by unfold zdm at h;exact h
theorem DAt.val {w:World} {lo:Nat->Prop} {n cap:Nat} {a:OA} {ds:List D} (h:DAt w lo a n ds):zdm w lo (.list n ds) (.slice a n cap):=by unfold zdm;exact ⟨a,cap,rfl,h⟩
theorem DAt.moves {A A':Nat->Prop} {w w':World} {n:Nat} {a:OA} {ds:List D} (h:DAt w A a n ds) (hs:zah w A w' A'):DAt w' A' a n ds:=by
 obtain ⟨h1,h2,h3⟩:=h;refine ⟨h1,h2,?_⟩
 rcases h3 with h4 | ⟨b,off,cs,ha,hl,hb,hc,hx⟩
 . exact Or.inl h4
 . exact Or.inr ⟨b,off,cs,ha,(hs.2 b hb hl).1,vah hb hs.1,hc.moves hs hl hb,zas.moves hs ds cs hx⟩
theorem DAt.later {A:Nat->Prop} {w w':World} {n:Nat} {a:OA} {ds:List D} (h:DAt w A a n ds) (hb:Below w.heap.size w w'):DAt w' A a n ds:=h.moves (zah.of_below hb A)
theorem DAt.bound {A:Nat->Prop} {w:World} {n:Nat} {a:OA} {ds:List D} (h:DAt w A a n ds):n<=17592186044416:=vai h.1 h.2.1
theorem DAt.cell {A:Nat->Prop} {w:World} {n:Nat} {a:OA} {ds:List D} (h:DAt w A a n ds) (hn:0<n):∃ b off,a=some ⟨b,off,none⟩/\b<w.heap.size/\∀ (j:Nat) (d:D),ds[j]? = some d->∃ v,w.cell? ⟨b,off+j,none⟩=some v/\zdm w A d v:=by
 rcases h.2.2 with h0 | ⟨b,off,cs,ha,_,hb,hc,hx⟩
 . omega
 . refine ⟨b,off,ha,hb,fun j d hj=>?_⟩
   obtain ⟨v,hv,hd⟩:=hx.get j d hj;exact ⟨v,hc j v hv,hd⟩
inductive Ex where
 | mk (op n:Int) (mod name:ByteArray) (args:List Ex)
def Ex.op:Ex->Int | .mk op _ _ _ _=>op
def Ex.n:Ex->Int | .mk _ n _ _ _=>n
def Ex.mod:Ex->ByteArray | .mk _ _ m _ _=>m
def Ex.name:Ex->ByteArray | .mk _ _ _ m _=>m
def Ex.args:Ex->List Ex | .mk _ _ _ _ l=>l
inductive St where
 | mk (op:Int) (mod name:ByteArray) (args:List Ex) (body other:List St)
def St.op:St->Int | .mk op _ _ _ _ _=>op
def St.mod:St->ByteArray | .mk _ m _ _ _ _=>m
def St.name:St->ByteArray | .mk _ _ m _ _ _=>m
def St.args:St->List Ex | .mk _ _ _ l _ _=>l
def St.body:St->List St | .mk _ _ _ _ l _=>l
def St.other:St->List St | .mk _ _ _ _ _ l=>l
mutual
def Ex.ds:Ex->List D
 | .mk op n mod name args=>[.int op,.int n,.str mod,.str name,.list args.length (zbt args)]
def zbt:List Ex->List D
 | []=>[]
 | x :: r=>x.ds++zbt r
end
mutual
def St.ds:St->List D
 | .mk op mod name args body other=>[.int op,.str mod,.str name,.list args.length (zbt args),.list body.length (zbu body),.list other.length (zbu other)]
def zbu:List St->List D
 | []=>[]
 | x :: r=>x.ds++zbu r
end
theorem Ex.ds_len (x:Ex):x.ds.length=5:=by cases x;unfold Ex.ds;rfl
theorem St.ds_len (x:St):x.ds.length=6:=by cases x;unfold St.ds;rfl
theorem zho:∀ (l m:List Ex),zbt (l++m)=zbt l++zbt m
 | [],m=>by simp [zbt]
 | x :: r,m=>by simp [zbt,zho r m]
theorem zhp:∀ (l m:List St),zbu (l++m)=zbu l++zbu m
 | [],m=>by simp [zbu]
 | x :: r,m=>by simp [zbu,zhp r m]
theorem zj3 (x:Ex):zbt [x]=x.ds:=by simp [zbt]
theorem zuc (x:St):zbu [x]=x.ds:=by simp [zbu]
theorem zud:∀ (l:List Ex) (i:Nat) (h:i<l.length) (j:Nat),j<5->(zbt l)[i*5+j]? = (l[i].ds)[j]?
 | [],i,h,_,_=>by simp at h
 | x :: r,0,_,j,hj=>by
   have:=x.ds_len;simp only [zbt,vbx];rw [vbi (by omega),vbo,vbq]
 | x :: r,i+1,h,j,hj=>by
   have:=x.ds_len;simp only [zbt,vby];rw [vbk (by omega),show (i+1)*5+j - x.ds.length=i*5+j from by omega];exact zud r i (by simpa using h) j hj
theorem zue:∀ (l:List St) (i:Nat) (h:i<l.length) (j:Nat),j<6->(zbu l)[i*6+j]? = (l[i].ds)[j]?
 | [],i,h,_,_=>by simp at h
 | x :: r,0,_,j,hj=>by
   have:=x.ds_len;simp only [zbu,vbx];rw [vbi (by omega),vbo,vbq]
 | x :: r,i+1,h,j,hj=>by
   have:=x.ds_len;simp only [zbu,vby];rw [vbk (by omega),show (i+1)*6+j - x.ds.length=i*6+j from by omega];exact zue r i (by simpa using h) j hj
structure ExAt (w:World) (A:Nat->Prop) (b o:Nat) (x:Ex) (aa:OA) (cap:Nat):Prop where
 lt:b<w.heap.size
 c0:w.cell? ⟨b,o,none⟩=some (.int .i64 x.op)
 c1:w.cell? ⟨b,o+1,none⟩=some (.int .i64 x.n)
 c2:w.cell? ⟨b,o+2,none⟩=some (.string x.mod)
 c3:w.cell? ⟨b,o+3,none⟩=some (.string x.name)
 c4:w.cell? ⟨b,o+4,none⟩=some (.slice aa x.args.length cap)
 args:DAt w A aa x.args.length (zbt x.args)
 wop:(Lit.int .i64 x.op).wf=true
 wn:(Lit.int .i64 x.n).wf=true
 wm:x.mod.size<=maxLen
 wna:x.name.size<=maxLen
structure StAt (w:World) (A:Nat->Prop) (b o:Nat) (x:St) (a1:OA) (c1':Nat) (a2:OA) (c2':Nat) (a3:OA) (c3':Nat):Prop where
 lt:b<w.heap.size
 c0:w.cell? ⟨b,o,none⟩=some (.int .i64 x.op)
 c1:w.cell? ⟨b,o+1,none⟩=some (.string x.mod)
 c2:w.cell? ⟨b,o+2,none⟩=some (.string x.name)
 c3:w.cell? ⟨b,o+3,none⟩=some (.slice a1 x.args.length c1')
 c4:w.cell? ⟨b,o+4,none⟩=some (.slice a2 x.body.length c2')
 c5:w.cell? ⟨b,o+5,none⟩=some (.slice a3 x.other.length c3')
 args:DAt w A a1 x.args.length (zbt x.args)
 body:DAt w A a2 x.body.length (zbu x.body)
 other:DAt w A a3 x.other.length (zbu x.other)
 wop:(Lit.int .i64 x.op).wf=true
 wm:x.mod.size<=maxLen
 wna:x.name.size<=maxLen
theorem DAt.ex {w:World} {A:Nat->Prop} {a:OA} {l:List Ex} (h:DAt w A a l.length (zbt l)) (i:Nat) (hi:i<l.length):∃ b off aa cap,a=some ⟨b,off,none⟩/\ExAt w A b (off+i*5) l[i] aa cap:=by
 obtain ⟨b,off,ha,hb,hc⟩:=h.cell (by omega);generalize hx:l[i]=x;obtain ⟨op,n,mod,name,args⟩:=x
 have g:∀ j d,j<5->(Ex.mk op n mod name args).ds[j]? = some d->∃ v,w.cell? ⟨b,off+i*5+j,none⟩=some v/\zdm w A d v:=fun j d hj hd=>by
  rw [vbt];exact hc (i*5+j) d ((zud l i hi j hj).trans (by rw [hx];exact hd))
 obtain ⟨v0,k0,d0⟩:=g 0 (.int op) (by omega) (by simp [Ex.ds]);obtain ⟨v1,k1,d1⟩:=g 1 (.int n) (by omega) (by simp [Ex.ds]);obtain ⟨v2,k2,d2⟩:=g 2 (.str mod) (by omega) (by simp [Ex.ds]);obtain ⟨v3,k3,d3⟩:=g 3 (.str name) (by omega) (by simp [Ex.ds]);obtain ⟨v4,k4,d4⟩:=g 4 (.list args.length (zbt args)) (by omega) (by simp [Ex.ds]);obtain ⟨rfl,w0⟩:=za8 d0;obtain ⟨rfl,w1⟩:=za8 d1;obtain ⟨rfl,w2⟩:=zc2 d2;obtain ⟨rfl,w3⟩:=zc2 d3;obtain ⟨aa,cap,rfl,hA⟩:=za0 d4;exact ⟨b,off,aa,cap,ha,hb,k0,k1,k2,k3,k4,hA,w0,w1,w2,w3⟩
theorem DAt.st {w:World} {A:Nat->Prop} {a:OA} {l:List St} (h:DAt w A a l.length (zbu l)) (i:Nat) (hi:i<l.length):∃ b off a1 c1 a2 c2 a3 c3,a=some ⟨b,off,none⟩/\StAt w A b (off+i*6) l[i] a1 c1 a2 c2 a3 c3:=by
 obtain ⟨b,off,ha,hb,hc⟩:=h.cell (by omega);generalize hx:l[i]=x;obtain ⟨op,mod,name,args,body,other⟩:=x
 have g:∀ j d,j<6->(St.mk op mod name args body other).ds[j]? = some d->∃ v,w.cell? ⟨b,off+i*6+j,none⟩=some v/\zdm w A d v:=fun j d hj hd=>by
  rw [vbt];exact hc (i*6+j) d ((zue l i hi j hj).trans (by rw [hx];exact hd))
 obtain ⟨v0,k0,d0⟩:=g 0 (.int op) (by omega) (by simp [St.ds]);obtain ⟨v1,k1,d1⟩:=g 1 (.str mod) (by omega) (by simp [St.ds]);obtain ⟨v2,k2,d2⟩:=g 2 (.str name) (by omega) (by simp [St.ds]);obtain ⟨v3,k3,d3⟩:=g 3 (.list args.length (zbt args)) (by omega) (by simp [St.ds]);obtain ⟨v4,k4,d4⟩:=g 4 (.list body.length (zbu body)) (by omega) (by simp [St.ds]);obtain ⟨v5,k5,d5⟩:=g 5 (.list other.length (zbu other)) (by omega) (by simp [St.ds]);obtain ⟨rfl,w0⟩:=za8 d0;obtain ⟨rfl,w1⟩:=zc2 d1;obtain ⟨rfl,w2⟩:=zc2 d2;obtain ⟨a1,c1,rfl,h1⟩:=za0 d3;obtain ⟨a2,c2,rfl,h2⟩:=za0 d4;obtain ⟨a3,c3,rfl,h3⟩:=za0 d5;exact ⟨b,off,a1,c1,a2,c2,a3,c3,ha,hb,k0,k1,k2,k3,k4,k5,h1,h2,h3,w0,w1,w2⟩
structure De where
 kind:Int
 name:ByteArray
 pub:Bool
 n:Int
structure Pr where
 name:ByteArray
 pub:Bool
 params:List ByteArray
 locals:List ByteArray
 body:List St
structure Mo where
 name:ByteArray
 uses:List ByteArray
 decls:List De
 procs:List Pr
 main:List St
def De.ds (d:De):List D:=[.int d.kind,.str d.name,.bool d.pub,.int d.n]
def zam (l:List ByteArray):List D:=l.map .str
def Pr.ds (p:Pr):List D:=[.str p.name,.bool p.pub,.list p.params.length (zam p.params),.list p.locals.length (zam p.locals),.list p.body.length (zbu p.body)]
def Mo.ds (m:Mo):List D:=[.str m.name,.list m.uses.length (zam m.uses),.list m.decls.length (m.decls.flatMap De.ds),.list m.procs.length (m.procs.flatMap Pr.ds),.list m.main.length (zbu m.main)]
def zic (l:List Pr):List D:=l.flatMap Pr.ds
def zj4 (l:List De):List D:=l.flatMap De.ds
def z8b (l:List Mo):List D:=l.flatMap Mo.ds
theorem zct {α:Type} (f:α->List D) (k:Nat) (hf:∀ x,(f x).length=k):∀ (l:List α) (i:Nat) (h:i<l.length) (j:Nat),j<k->(l.flatMap f)[i*k+j]? = (f l[i])[j]?
 | [],i,h,_,_=>by simp at h
 | x :: r,0,_,j,hj=>by
   have:=hf x;simp only [vbg,vbx];rw [vbi (by omega),vbo,vbq]
 | x :: r,i+1,h,j,hj=>by
   have:=hf x;have e:(i+1)*k=i*k+k:=Nat.succ_mul i k;simp only [vbg,vby];rw [vbk (by omega),show (i+1)*k+j - (f x).length=i*k+j from by omega];exact zct f k hf r i (by simpa using h) j hj
structure DeAt (w:World) (b o:Nat) (x:De):Prop where
 lt:b<w.heap.size
 c0:w.cell? ⟨b,o,none⟩=some (.int .i64 x.kind)
 c1:w.cell? ⟨b,o+1,none⟩=some (.string x.name)
 c2:w.cell? ⟨b,o+2,none⟩=some (.bool x.pub)
 c3:w.cell? ⟨b,o+3,none⟩=some (.int .i64 x.n)
 wk:(Lit.int .i64 x.kind).wf=true
 wn:(Lit.int .i64 x.n).wf=true
 wna:x.name.size<=maxLen
structure PrAt (w:World) (A:Nat->Prop) (b o:Nat) (x:Pr) (a1:OA) (c1':Nat) (a2:OA) (c2':Nat) (a3:OA) (c3':Nat):Prop where
 lt:b<w.heap.size
 c0:w.cell? ⟨b,o,none⟩=some (.string x.name)
 c1:w.cell? ⟨b,o+1,none⟩=some (.bool x.pub)
 c2:w.cell? ⟨b,o+2,none⟩=some (.slice a1 x.params.length c1')
 c3:w.cell? ⟨b,o+3,none⟩=some (.slice a2 x.locals.length c2')
 c4:w.cell? ⟨b,o+4,none⟩=some (.slice a3 x.body.length c3')
 params:DAt w A a1 x.params.length (zam x.params)
 locals:DAt w A a2 x.locals.length (zam x.locals)
 body:DAt w A a3 x.body.length (zbu x.body)
 wna:x.name.size<=maxLen
structure MoAt (w:World) (A:Nat->Prop) (m:Mo) (v:Value) (a1:OA) (c1:Nat) (a2:OA) (c2:Nat) (a3:OA) (c3:Nat) (a4:OA) (c4:Nat):Prop where
 val:v = .agg #[.string m.name,.slice a1 m.uses.length c1,.slice a2 m.decls.length c2,.slice a3 m.procs.length c3,.slice a4 m.main.length c4]
 wna:m.name.size<=maxLen
 uses:DAt w A a1 m.uses.length (zam m.uses)
 decls:DAt w A a2 m.decls.length (zj4 m.decls)
 procs:DAt w A a3 m.procs.length (zic m.procs)
 main:DAt w A a4 m.main.length (zbu m.main)
theorem MoAt.later {w w':World} {A:Nat->Prop} {m:Mo} {v:Value} {a1 a2 a3 a4:OA} {c1 c2 c3 c4:Nat} (h:MoAt w A m v a1 c1 a2 c2 a3 c3 a4 c4) (hb:Below w.heap.size w w'):MoAt w' A m v a1 c1 a2 c2 a3 c3 a4 c4:=
 ⟨h.val,h.wna,h.uses.later hb,h.decls.later hb,h.procs.later hb,h.main.later hb⟩
theorem DAt.str {w:World} {A:Nat->Prop} {a:OA} {l:List ByteArray} (h:DAt w A a l.length (zam l)) (i:Nat) (hi:i<l.length):∃ b off,a=some ⟨b,off,none⟩/\b<w.heap.size/\w.cell? ⟨b,off+i,none⟩=some (.string l[i])/\l[i].size<=maxLen:=by
 obtain ⟨b,off,ha,hb,hc⟩:=h.cell (by omega);obtain ⟨v,hv,hd⟩:=hc i (.str l[i]) (by simp [zam,hi]);obtain ⟨rfl,h2⟩:=zc2 hd;exact ⟨b,off,ha,hb,hv,h2⟩
theorem DAt.de {w:World} {A:Nat->Prop} {a:OA} {l:List De} (h:DAt w A a l.length (zj4 l)) (i:Nat) (hi:i<l.length):∃ b off,a=some ⟨b,off,none⟩/\DeAt w b (off+i*4) l[i]:=by
 obtain ⟨b,off,ha,hb,hc⟩:=h.cell (by omega);generalize hx:l[i]=x;obtain ⟨kind,name,pub,n⟩:=x
 have g:∀ j d,j<4->(De.mk kind name pub n).ds[j]? = some d->∃ v,w.cell? ⟨b,off+i*4+j,none⟩=some v/\zdm w A d v:=fun j d hj hd=>by
  rw [vbt];exact hc (i*4+j) d ((zct De.ds 4 (fun _=>rfl) l i hi j hj).trans (by rw [hx];exact hd))
 obtain ⟨v0,k0,d0⟩:=g 0 (.int kind) (by omega) (by simp [De.ds]);obtain ⟨v1,k1,d1⟩:=g 1 (.str name) (by omega) (by simp [De.ds]);obtain ⟨v2,k2,d2⟩:=g 2 (.bool pub) (by omega) (by simp [De.ds]);obtain ⟨v3,k3,d3⟩:=g 3 (.int n) (by omega) (by simp [De.ds]);obtain ⟨rfl,w0⟩:=za8 d0;obtain ⟨rfl,w1⟩:=zc2 d1;obtain rfl:=zub d2;obtain ⟨rfl,w3⟩:=za8 d3;exact ⟨b,off,ha,hb,k0,k1,k2,k3,w0,w3,w1⟩
theorem DAt.pr {w:World} {A:Nat->Prop} {a:OA} {l:List Pr} (h:DAt w A a l.length (zic l)) (i:Nat) (hi:i<l.length):∃ b off a1 c1 a2 c2 a3 c3,a=some ⟨b,off,none⟩/\PrAt w A b (off+i*5) l[i] a1 c1 a2 c2 a3 c3:=by
 obtain ⟨b,off,ha,hb,hc⟩:=h.cell (by omega);generalize hx:l[i]=x;obtain ⟨name,pub,params,locals,body⟩:=x
 have g:∀ j d,j<5->(Pr.mk name pub params locals body).ds[j]? = some d->∃ v,w.cell? ⟨b,off+i*5+j,none⟩=some v/\zdm w A d v:=fun j d hj hd=>by
  rw [vbt];exact hc (i*5+j) d ((zct Pr.ds 5 (fun _=>rfl) l i hi j hj).trans (by rw [hx];exact hd))
 obtain ⟨v0,k0,d0⟩:=g 0 (.str name) (by omega) (by simp [Pr.ds]);obtain ⟨v1,k1,d1⟩:=g 1 (.bool pub) (by omega) (by simp [Pr.ds]);obtain ⟨v2,k2,d2⟩:=g 2 (.list params.length (zam params)) (by omega) (by simp [Pr.ds]);obtain ⟨v3,k3,d3⟩:=g 3 (.list locals.length (zam locals)) (by omega) (by simp [Pr.ds]);obtain ⟨v4,k4,d4⟩:=g 4 (.list body.length (zbu body)) (by omega) (by simp [Pr.ds]);obtain ⟨rfl,w0⟩:=zc2 d0;obtain rfl:=zub d1;obtain ⟨a1,c1,rfl,h1⟩:=za0 d2;obtain ⟨a2,c2,rfl,h2⟩:=za0 d3;obtain ⟨a3,c3,rfl,h3⟩:=za0 d4;exact ⟨b,off,a1,c1,a2,c2,a3,c3,ha,hb,k0,k1,k2,k3,k4,h1,h2,h3,w0⟩
theorem DAt.mo {w:World} {A:Nat->Prop} {a:OA} {l:List Mo} (h:DAt w A a l.length (z8b l)) (i:Nat) (hi:i<l.length):∃ b off v a1 c1 a2 c2 a3 c3 a4 c4,a=some ⟨b,off,none⟩/\b<w.heap.size/\MoAt w A l[i] v a1 c1 a2 c2 a3 c3 a4 c4/\
 w.cell? ⟨b,off+i*5,none⟩=some (.string l[i].name)/\w.cell? ⟨b,off+i*5+1,none⟩=some (.slice a1 l[i].uses.length c1)/\w.cell? ⟨b,off+i*5+2,none⟩=some (.slice a2 l[i].decls.length c2)/\
 w.cell? ⟨b,off+i*5+3,none⟩=some (.slice a3 l[i].procs.length c3)/\w.cell? ⟨b,off+i*5+4,none⟩=some (.slice a4 l[i].main.length c4):=by
 obtain ⟨b,off,ha,hb,hc⟩:=h.cell (by omega);generalize hx:l[i]=x;obtain ⟨name,uses,decls,procs,main⟩:=x
 have g:∀ j d,j<5->(Mo.mk name uses decls procs main).ds[j]? = some d->∃ v,w.cell? ⟨b,off+i*5+j,none⟩=some v/\zdm w A d v:=fun j d hj hd=>by
  rw [vbt];exact hc (i*5+j) d ((zct Mo.ds 5 (fun _=>rfl) l i hi j hj).trans (by rw [hx];exact hd))
 obtain ⟨v0,k0,d0⟩:=g 0 (.str name) (by omega) (by simp [Mo.ds]);obtain ⟨v1,k1,d1⟩:=g 1 (.list uses.length (zam uses)) (by omega) (by simp [Mo.ds]);obtain ⟨v2,k2,d2⟩:=g 2 (.list decls.length (zj4 decls)) (by omega) (by simp [Mo.ds,zj4]);obtain ⟨v3,k3,d3⟩:=g 3 (.list procs.length (zic procs)) (by omega) (by simp [Mo.ds,zic]);obtain ⟨v4,k4,d4⟩:=g 4 (.list main.length (zbu main)) (by omega) (by simp [Mo.ds]);obtain ⟨rfl,w0⟩:=zc2 d0;obtain ⟨a1,c1,rfl,h1⟩:=za0 d1;obtain ⟨a2,c2,rfl,h2⟩:=za0 d2;obtain ⟨a3,c3,rfl,h3⟩:=za0 d3;obtain ⟨a4,c4,rfl,h4⟩:=za0 d4;exact ⟨b,off,_,a1,c1,a2,c2,a3,c3,a4,c4,ha,hb,⟨rfl,w0,h1,h2,h3,h4⟩,k0,k1,k2,k3,k4⟩
mutual
def zgq (w:World) (A:Nat->Prop):D->Value->Prop
 | .int n,v=>v = .int .i64 n
 | .str s,v=>v = .string s/\s.size<=maxLen
 | .bool b,v=>v = .bool b
 | .list n ds,v=>∃ a cap,v = .slice a n cap/\(n=0\/∃ b off cs,a=some ⟨b,off,none⟩/\A b/\b<w.heap.size/\zgd w b off cs/\zay w A ds cs)
def zay (w:World) (A:Nat->Prop):List D->List Value->Prop
 | [],cs=>cs=[]
 | d :: ds,cs=>∃ v r,cs=v :: r/\zgq w A d v/\zay w A ds r
end
mutual
theorem zgq.moves {A A':Nat->Prop} {w w':World} (hs:zah w A w' A'):∀ (d:D) (v:Value),zgq w A d v->zgq w' A' d v
 | .int _,_,h=>h
 | .str _,_,h=>h
 | .bool _,_,h=>h
 | .list n ds,v,h=>by
   unfold zgq at h ⊢;obtain ⟨a,cap,h1,h4⟩:=h;refine ⟨a,cap,h1,?_⟩
   rcases h4 with h4 | ⟨b,off,cs,ha,hl,hb,hc,hx⟩
   . exact Or.inl h4
   . exact Or.inr ⟨b,off,cs,ha,(hs.2 b hb hl).1,vah hb hs.1,hc.moves hs hl hb,zay.moves hs ds cs hx⟩
theorem zay.moves {A A':Nat->Prop} {w w':World} (hs:zah w A w' A'):∀ (l:List D) (cs:List Value),zay w A l cs->zay w' A' l cs
 | [],_,h=>h
 | d :: ds,cs,h=>by
   unfold zay at h ⊢;obtain ⟨v,r,h1,h2,h3⟩:=h;exact ⟨v,r,h1,zgq.moves hs d v h2,zay.moves hs ds r h3⟩
end
theorem zgq.one {w:World} {lo:Nat->Prop}:∀ {d:D} {v:Value},zgq w lo d v->v.oneCell'=true
 | .int _,_,h=>by unfold zgq at h;rw [h];rfl
 | .str _,_,h=>by unfold zgq at h;rw [h.1];rfl
 | .bool _,_,h=>by unfold zgq at h;rw [h];rfl
 | .list _ _,_,h=>by unfold zgq at h;obtain ⟨a,cap,h,_⟩:=h;rw [h];rfl
theorem zay.one {w:World} {lo:Nat->Prop}:∀ {l:List D} {cs:List Value},zay w lo l cs->∀ u ∈ cs,u.oneCell'=true
 | [],_,h=>by unfold zay at h;rw [h];intro u hu;cases hu
 | d :: ds,cs,h=>by
   unfold zay at h;obtain ⟨v,r,rfl,h2,h3⟩:=h;intro u hu
   rcases vcm.1 hu with rfl | hu
   . exact h2.one
   . exact zay.one h3 u hu
theorem zay.len {w:World} {lo:Nat->Prop}:∀ {l:List D} {cs:List Value},zay w lo l cs->cs.length=l.length
 | [],_,h=>by unfold zay at h;rw [h];rfl
 | d :: ds,cs,h=>by
   unfold zay at h;obtain ⟨v,r,rfl,h2,h3⟩:=h;simp [zay.len h3]
theorem zay.nil {w:World} {lo:Nat->Prop}:zay w lo [] []:=by unfold zay;rfl
theorem zay.cons {w:World} {lo:Nat->Prop} {d:D} {ds:List D} {v:Value} {cs:List Value} (h:zgq w lo d v) (k:zay w lo ds cs):zay w lo (d :: ds) (v :: cs):=by
 unfold zay;exact ⟨v,cs,rfl,h,k⟩
theorem zay.append {w:World} {lo:Nat->Prop}:∀ {l m:List D} {cs es:List Value},zay w lo l cs->zay w lo m es->zay w lo (l++m) (cs++es)
 | [],m,cs,es,h,k=>by unfold zay at h;subst h;exact k
 | d :: ds,m,cs,es,h,k=>by
   unfold zay at h;obtain ⟨v,r,rfl,h2,h3⟩:=h;exact zay.cons h2 (zay.append h3 k)
theorem zay.get {w:World} {lo:Nat->Prop}:∀ {l:List D} {cs:List Value},zay w lo l cs->∀ (j:Nat) (d:D),l[j]? = some d->∃ v,cs[j]? = some v/\zgq w lo d v
 | [],_,_,j,d,hj=>by simp at hj
 | e :: ds,cs,h,j,d,hj=>by
   unfold zay at h;obtain ⟨v,r,rfl,h2,h3⟩:=h
   cases j with
   | zero=>simp at hj;subst hj;exact ⟨v,rfl,h2⟩
   | succ j=>simpa using zay.get h3 j d (by simpa using hj)
theorem zpp {w:World} {lo:Nat->Prop} {n:Int}:zgq w lo (.int n) (.int .i64 n):=by unfold zgq;rfl
theorem zwc {w:World} {lo:Nat->Prop} {s:ByteArray} (h:s.size<=maxLen):zgq w lo (.str s) (.string s):=by unfold zgq;exact ⟨rfl,h⟩
theorem z5z {w:World} {lo:Nat->Prop} {b:Bool}:zgq w lo (.bool b) (.bool b):=by unfold zgq;rfl
theorem zox {w:World} {lo:Nat->Prop} {n:Int} {v:Value} (h:zgq w lo (.int n) v):v = .int .i64 n:=by unfold zgq at h;exact h
theorem zyf {w:World} {lo:Nat->Prop} {s:ByteArray} {v:Value} (h:zgq w lo (.str s) v):v = .string s/\s.size<=maxLen:=by unfold zgq at h;exact h
def EAt (w:World) (lo:Nat->Prop) (a:OA) (n:Nat) (ds:List D):Prop:=n=0\/∃ b off cs,a=some ⟨b,off,none⟩/\lo b/\b<w.heap.size/\zgd w b off cs/\zay w lo ds cs
theorem EAt.val {w:World} {lo:Nat->Prop} {n cap:Nat} {a:OA} {ds:List D} (h:EAt w lo a n ds):zgq w lo (.list n ds) (.slice a n cap):=by unfold zgq;exact ⟨a,cap,rfl,h⟩
theorem EAt.moves {A A':Nat->Prop} {w w':World} {n:Nat} {a:OA} {ds:List D} (h:EAt w A a n ds) (hs:zah w A w' A'):EAt w' A' a n ds:=by
 rcases h with h4 | ⟨b,off,cs,ha,hl,hb,hc,hx⟩
 . exact Or.inl h4
 . exact Or.inr ⟨b,off,cs,ha,(hs.2 b hb hl).1,vah hb hs.1,hc.moves hs hl hb,zay.moves hs ds cs hx⟩
theorem EAt.of_own {w:World} {A:Nat->Prop} {base n cap:Nat} {a:OA} {e:TypeId} {size:Nat} {ds:List D} {xs:List Value} (h:w.ownsRow base e size (.slice a n cap) n xs) (hl:∀ b,base<=b->A b) (hx:zay w A ds xs):EAt w A a n ds:=by
 rcases h.2 with ⟨h1,h2⟩ | ⟨g,cap',cur,h1,hb,hg,hn,hc,hs,ht⟩
 . exact Or.inl h2
 . injection h1 with h1 _ _
   refine Or.inr ⟨g,0,xs,h1,hl g hb,zab hg,fun j u hj=>?_,hx⟩;have:=h.cells (g:=g) (by rw [h1];rfl) j u hj;rw [vbq]
   have e:(⟨g,0,none⟩:Addr).add j=⟨g,j,none⟩:=by unfold Addr.add;split<;>simp_all
   rwa [e] at this
mutual
def D.fine:D->Prop
 | .int n=>(Lit.int .i64 n).wf=true
 | .str _=>True
 | .bool _=>True
 | .list n ds=>n<=ds.length/\ds.length<=17592186044416/\D.fines ds
def D.fines:List D->Prop
 | []=>True
 | d :: ds=>d.fine/\D.fines ds
end
mutual
theorem zgq.toD {A:Nat->Prop} {w:World}:∀ (d:D) (v:Value),zgq w A d v->d.fine->zdm w A d v
 | .int _,_,h,k=>by unfold zgq at h;unfold D.fine at k;unfold zdm;exact ⟨h,k⟩
 | .str _,_,h,_=>by unfold zgq at h;unfold zdm;exact h
 | .bool _,_,h,_=>by unfold zgq at h;unfold zdm;exact h
 | .list n ds,v,h,k=>by
   unfold zgq at h;unfold D.fine at k;unfold zdm;obtain ⟨a,cap,h1,h4⟩:=h;refine ⟨a,cap,h1,k.1,k.2.1,?_⟩
   rcases h4 with h4 | ⟨b,off,cs,ha,hl,hb,hc,hx⟩
   . exact Or.inl h4
   . exact Or.inr ⟨b,off,cs,ha,hl,hb,hc,zay.toD ds cs hx k.2.2⟩
theorem zay.toD {A:Nat->Prop} {w:World}:∀ (l:List D) (cs:List Value),zay w A l cs->D.fines l->zas w A l cs
 | [],_,h,_=>by unfold zay at h;unfold zas;exact h
 | d :: ds,cs,h,k=>by
   unfold zay at h;unfold D.fines at k;unfold zas;obtain ⟨v,r,h1,h2,h3⟩:=h;exact ⟨v,r,h1,zgq.toD d v h2 k.1,zay.toD ds r h3 k.2⟩
end
theorem EAt.toD {A:Nat->Prop} {w:World} {a:OA} {n:Nat} {ds:List D} (h:EAt w A a n ds) (h1:n<=ds.length) (h2:ds.length<=17592186044416) (k:D.fines ds):DAt w A a n ds:=by
 refine ⟨h1,h2,?_⟩
 rcases h with h | ⟨b,off,cs,ha,hl,hb,hc,hx⟩
 . exact Or.inl h
 . exact Or.inr ⟨b,off,cs,ha,hl,hb,hc,hx.toD _ _ k⟩
theorem D.fines_append:∀ {l m:List D},D.fines l->D.fines m->D.fines (l++m)
 | [],_,_,k=>k
 | d :: ds,m,h,k=>by
   unfold D.fines at h;show D.fines (d :: (ds++m));unfold D.fines;exact ⟨h.1,D.fines_append h.2 k⟩
inductive Nd where
 | mk (op n m at_:Int) (args:List Nd)
def Nd.op:Nd->Int | .mk op _ _ _ _=>op
def Nd.n:Nd->Int | .mk _ n _ _ _=>n
def Nd.m:Nd->Int | .mk _ _ m _ _=>m
def Nd.at_:Nd->Int | .mk _ _ _ a _=>a
def Nd.args:Nd->List Nd | .mk _ _ _ _ l=>l
inductive Ac where
 | mk (op n m at_:Int) (args:List Nd) (body other:List Ac)
def Ac.op:Ac->Int | .mk op _ _ _ _ _ _=>op
def Ac.n:Ac->Int | .mk _ n _ _ _ _ _=>n
def Ac.m:Ac->Int | .mk _ _ m _ _ _ _=>m
def Ac.at_:Ac->Int | .mk _ _ _ a _ _ _=>a
def Ac.args:Ac->List Nd | .mk _ _ _ _ l _ _=>l
def Ac.body:Ac->List Ac | .mk _ _ _ _ _ l _=>l
def Ac.other:Ac->List Ac | .mk _ _ _ _ _ _ l=>l
mutual
def Nd.ds:Nd->List D
 | .mk op n m a args=>[.int op,.int n,.int m,.int a,.list args.length (zdr args)]
def zdr:List Nd->List D
 | []=>[]
 | x :: r=>x.ds++zdr r
end
mutual
def Ac.ds:Ac->List D
 | .mk op n m a args body other=>[.int op,.int n,.int m,.int a,.list args.length (zdr args),.list body.length (zed body),.list other.length (zed other)]
def zed:List Ac->List D
 | []=>[]
 | x :: r=>x.ds++zed r
end
theorem Nd.ds_len (x:Nd):x.ds.length=5:=by cases x;unfold Nd.ds;rfl
theorem Ac.ds_len (x:Ac):x.ds.length=7:=by cases x;unfold Ac.ds;rfl
theorem zla:∀ (l m:List Nd),zdr (l++m)=zdr l++zdr m
 | [],m=>by simp [zdr]
 | x :: r,m=>by simp [zdr,zla r m]
theorem zlb:∀ (l m:List Ac),zed (l++m)=zed l++zed m
 | [],m=>by simp [zed]
 | x :: r,m=>by simp [zed,zlb r m]
theorem z09 (x:Nd):zdr [x]=x.ds:=by simp [zdr]
theorem z1a (x:Ac):zed [x]=x.ds:=by simp [zed]
structure Pt where
 params:Int
 locals:Int
 body:List Ac
def Pt.ds (p:Pt):List D:=[.int p.params,.int p.locals,.list p.body.length (zed p.body)]
def zlc (l:List Pt):List D:=l.flatMap Pt.ds
structure Un where
 name:ByteArray
 uses:List ByteArray
 data:Int
 parts:List Pt
 main:List Ac
structure Mg where
 kind:Int
 n:Int
 m:Int
 at_:Int
def mg0:Mg:=⟨0,0,0,0⟩
abbrev Kn:=ByteArray->ByteArray->Option Mg
abbrev Lc:=ByteArray->Option Int
def z50 (K:Kn) (L:Lc) (mod name:ByteArray):Option Mg:=
 if mod.size=0 then (match L name with | some a=>some ⟨0,0,0,a⟩ | none=>K mod name) else K mod name
def findM (K:Kn) (L:Lc) (mod name:ByteArray) (ks:List Int):Mg × Int:=
 match z50 K L mod name with
 | none=>(mg0,5)
 | some x=>if ks.contains x.kind then (x,0) else (mg0,7)
def zi3 (K:Kn) (L:Lc) (mod name:ByteArray) (handed:Int):Mg × Int:=
 if (findM K L mod name [4]).2=0/\(findM K L mod name [4]).1.n≠handed then (mg0,8) else findM K L mod name [4]
structure Al where
 op:Int
 n:Int
 m:Int
 at_:Int
 err:Int
def z42 (K:Kn) (L:Lc) (mod name:ByteArray):Al:=
 if (findM K L mod name [0,1,2]).2≠0 then ⟨0,0,0,0,(findM K L mod name [0,1,2]).2⟩
 else if (findM K L mod name [0,1,2]).1.kind=1 then ⟨1,(findM K L mod name [0,1,2]).1.n,0,0,0⟩
 else if (findM K L mod name [0,1,2]).1.kind=2 then ⟨3,0,(findM K L mod name [0,1,2]).1.m,(findM K L mod name [0,1,2]).1.at_,0⟩
 else ⟨16,0,0,(findM K L mod name [0,1,2]).1.at_,0⟩
def ndM (K:Kn) (L:Lc) (x:Ex):Al:=
 if x.op=3 then z42 K L x.mod x.name
 else if x.op=4 then ⟨4,(findM K L x.mod x.name [3]).1.n,(findM K L x.mod x.name [3]).1.m,(findM K L x.mod x.name [3]).1.at_,(findM K L x.mod x.name [3]).2⟩
 else if x.op=5 then ⟨5,0,(zi3 K L x.mod x.name x.args.length).1.m,(zi3 K L x.mod x.name x.args.length).1.at_,(zi3 K L x.mod x.name x.args.length).2⟩
 else ⟨x.op,x.n,0,0,0⟩
def acM (K:Kn) (L:Lc) (s:St):Al:=
 if s.op=1 then ⟨1,0,if (findM K L s.mod s.name [0,2]).1.kind=0 then -1 else (findM K L s.mod s.name [0,2]).1.m,(findM K L s.mod s.name [0,2]).1.at_,(findM K L s.mod s.name [0,2]).2⟩
 else if s.op=2 then ⟨2,(findM K L s.mod s.name [3]).1.n,(findM K L s.mod s.name [3]).1.m,(findM K L s.mod s.name [3]).1.at_,(findM K L s.mod s.name [3]).2⟩
 else if s.op=3 then ⟨3,0,(zi3 K L s.mod s.name s.args.length).1.m,(zi3 K L s.mod s.name s.args.length).1.at_,(zi3 K L s.mod s.name s.args.length).2⟩
 else ⟨s.op,0,0,0,0⟩
def zdh {α β:Type}:Except Int α->(α->Except Int β)->Except Int β
 | .error e,_=>.error e
 | .ok a,f=>f a
def alE (a:Al):Except Int Al:=if a.err=0 then .ok a else .error a.err
mutual
def rsE (K:Kn) (L:Lc):Ex->Except Int Nd
 | .mk op n mod name args=>zdh (alE (ndM K L (.mk op n mod name args))) fun h=>zdh (zg2 K L args) fun l=>.ok (.mk h.op h.n h.m h.at_ l)
def zg2 (K:Kn) (L:Lc):List Ex->Except Int (List Nd)
 | []=>.ok []
 | x :: r=>zdh (rsE K L x) fun y=>zdh (zg2 K L r) fun l=>.ok (y :: l)
end
mutual
def rsS (K:Kn) (L:Lc):St->Except Int Ac
 | .mk op mod name args body other=>zdh (alE (acM K L (.mk op mod name args body other))) fun h=>zdh (zg2 K L args) fun l=>zdh (zfv K L body) fun b=>zdh (zfv K L other) fun o=>.ok (.mk h.op h.n h.m h.at_ l b o)
def zfv (K:Kn) (L:Lc):List St->Except Int (List Ac)
 | []=>.ok []
 | x :: r=>zdh (rsS K L x) fun y=>zdh (zfv K L r) fun l=>.ok (y :: l)
end
theorem zoy {α:Type} (x:Except Int α):zdh x .ok=x:=by cases x<;>rfl
theorem zoz (K:Kn) (L:Lc):∀ (a b:List Ex) (acc:List Nd),zg2 K L a = .ok acc->zg2 K L (a++b)=zdh (zg2 K L b) fun l=>.ok (acc++l)
 | [],b,acc,h=>by
   rw [zg2] at h;obtain rfl:=vdl h;show zg2 K L b=_;exact (zoy _).symm
 | x :: a,b,acc,h=>by
   rw [zg2] at h;show zg2 K L (x :: (a++b))=_;rw [zg2]
   cases hx:rsE K L x with
   | error e=>rw [hx] at h;cases h
   | ok y=>
     rw [hx] at h;simp only [zdh] at h ⊢
     cases ha:zg2 K L a with
     | error e=>rw [ha] at h;cases h
     | ok l=>
       rw [ha] at h;obtain rfl:=vdl h;rw [zoz K L a b l ha]
       cases zg2 K L b<;>rfl
theorem zo0 (K:Kn) (L:Lc):∀ (a b:List St) (acc:List Ac),zfv K L a = .ok acc->zfv K L (a++b)=zdh (zfv K L b) fun l=>.ok (acc++l)
 | [],b,acc,h=>by
   rw [zfv] at h;obtain rfl:=vdl h;show zfv K L b=_;exact (zoy _).symm
 | x :: a,b,acc,h=>by
   rw [zfv] at h;show zfv K L (x :: (a++b))=_;rw [zfv]
   cases hx:rsS K L x with
   | error e=>rw [hx] at h;cases h
   | ok y=>
     rw [hx] at h;simp only [zdh] at h ⊢
     cases ha:zfv K L a with
     | error e=>rw [ha] at h;cases h
     | ok l=>
       rw [ha] at h;obtain rfl:=vdl h;rw [zo0 K L a b l ha]
       cases zfv K L b<;>rfl
theorem zo1 {α:Type} (l:List α) (j:Nat) (h:j<l.length):l=l.take j++l[j] :: l.drop (j+1):=by
 rw [List.getElem_cons_drop,vca]
theorem z1b {K:Kn} {L:Lc} {l:List Ex} {j:Nat} {acc:List Nd} {e:Int} (h:j<l.length) (ha:zg2 K L (l.take j) = .ok acc) (he:rsE K L l[j] = .error e):zg2 K L l = .error e:=by
 rw [zo1 l j h,zoz K L _ _ acc ha,zg2,he];rfl
theorem zyg {K:Kn} {L:Lc} {l:List Ex} {j:Nat} {acc:List Nd} {y:Nd} (h:j<l.length) (ha:zg2 K L (l.take j) = .ok acc) (he:rsE K L l[j] = .ok y):zg2 K L (l.take (j+1)) = .ok (acc++[y]):=by
 rw [vag h,zoz K L _ _ acc ha,zg2,he];rfl
theorem z1c {K:Kn} {L:Lc} {l:List St} {j:Nat} {acc:List Ac} {e:Int} (h:j<l.length) (ha:zfv K L (l.take j) = .ok acc) (he:rsS K L l[j] = .error e):zfv K L l = .error e:=by
 rw [zo1 l j h,zo0 K L _ _ acc ha,zfv,he];rfl
theorem zyh {K:Kn} {L:Lc} {l:List St} {j:Nat} {acc:List Ac} {y:Ac} (h:j<l.length) (ha:zfv K L (l.take j) = .ok acc) (he:rsS K L l[j] = .ok y):zfv K L (l.take (j+1)) = .ok (acc++[y]):=by
 rw [vag h,zo0 K L _ _ acc ha,zfv,he];rfl
theorem zyi (K:Kn) (L:Lc) (x:Ex):rsE K L x=zdh (alE (ndM K L x)) fun h=>zdh (zg2 K L x.args) fun l=>.ok (.mk h.op h.n h.m h.at_ l):=by
 obtain ⟨op,n,mod,name,args⟩:=x;rw [rsE];rfl
theorem zqt (K:Kn) (L:Lc) (x:St):rsS K L x=zdh (alE (acM K L x)) fun h=>zdh (zg2 K L x.args) fun l=>zdh (zfv K L x.body) fun b=>zdh (zfv K L x.other) fun o=>.ok (.mk h.op h.n h.m h.at_ l b o):=by
 obtain ⟨op,mod,name,args,body,other⟩:=x;rw [rsS];rfl
structure Sh where
 named:Bool
 number:Bool
 least:Int
 most:Int
 body:Bool
 other:Bool
def Sh.val (s:Sh):Value:=.agg #[.bool s.named,.bool s.number,.int .i64 s.least,.int .i64 s.most,.bool s.body,.bool s.other]
def sh0:Sh:=⟨false,false,0,0,false,false⟩
def zi4 (op:Int):Option Sh:=
 if op=1 then some ⟨false,true,0,0,false,false⟩ else if op=2 then some sh0 else if op=3 then some ⟨true,false,0,0,false,false⟩
 else if op=4 then some ⟨true,false,1,1,false,false⟩ else if op=5 then some ⟨true,false,0,3,false,false⟩ else if op=6 then some ⟨false,false,1,1,false,false⟩
 else if 7<=op/\op<=15 then some ⟨false,false,2,2,false,false⟩ else none
def zl1 (op:Int):Option Sh:=
 if op=1 then some ⟨true,false,1,1,false,false⟩ else if op=2 then some ⟨true,false,2,2,false,false⟩ else if op=3 then some ⟨true,false,0,3,false,false⟩
 else if op=4 then some ⟨false,false,1,1,true,true⟩ else if op=5 then some ⟨false,false,1,1,true,false⟩ else if op=6 then some ⟨false,false,1,1,false,false⟩
 else if op=7 then some ⟨false,false,1,1,false,false⟩ else none
def exB (op:Int):Bool:=(zi4 op).isSome
def stB (op:Int):Bool:=(zl1 op).isSome
def exS (op:Int):Sh:=(zi4 op).getD sh0
def stS (op:Int):Sh:=(zl1 op).getD sh0
def kept:List (L8):=[[109,111,100,117,108,101],[117,115,101],[112,117,98],[99,111,110,115,116],[118,97,114],[97,114,114,97,121],[112,114,111,99],[108,111,99,97,108],[109,97,105,110],
 [105,102],[101,108,115,101],[119,104,105,108,101],[114,101,116,117,114,110],[111,117,116],[105,110]]
def zqu (s:ByteArray):Bool:=kept.contains s.data.toList
def nameOk (s:ByteArray):Bool:=!zqu s&&Lx.nameB s.data.toList
def numOkB (n:Int):Bool:=decide (0<=n)&&decide (n<=1099511627775)
def zc9 (h:Sh) (mod name:ByteArray):Bool:=if h.named then nameOk name&&(decide (mod.size=0)||nameOk mod) else decide (mod.size=0)&&decide (name.size=0)
def nOk (h:Sh) (n:Int):Bool:=if h.number then numOkB n else decide (n=0)
def zbd (h:Sh) (k:Nat):Bool:=decide (h.least<=(k:Int))&&decide ((k:Int)<=h.most)
def zbe:Nat->List Ex->Bool
 | 0,_=>true
 | k+1,l=>l.all (fun x=>exB x.op&&zbe k x.args)
def zav:Nat->List St->Bool
 | 0,_=>true
 | k+1,l=>l.all (fun s=>stB s.op&&(zbe 6 s.args&&(zav k s.body&&zav k s.other)))
def zau:Nat->List Ex->Bool
 | 0,l=>decide (0<l.length)
 | k+1,l=>decide (3<l.length)||l.any (fun x=>zau k x.args)
def zal:Nat->List St->Bool
 | 0,_=>true
 | k+1,l=>decide (10<l.length)||l.any (fun s=>zau 6 s.args||(((stS s.op).body||decide (0<s.body.length))&&zal k s.body||(decide (0<s.other.length)&&zal k s.other)))
def zbm:Nat->List Ex->Bool
 | 0,_=>true
 | k+1,l=>l.all (fun x=>zc9 (exS x.op) x.mod x.name&&(nOk (exS x.op) x.n&&(zbd (exS x.op) x.args.length&&zbm k x.args)))
def zaw:Nat->List St->Bool
 | 0,_=>true
 | k+1,l=>l.all (fun s=>zc9 (stS s.op) s.mod s.name&&(zbd (stS s.op) s.args.length&&(zbm 6 s.args&&(((stS s.op).body||decide (s.body.length=0))&&(((stS s.op).other||decide (s.other.length=0))&&(zaw k s.body&&zaw k s.other))))))
def zek (d:De):Bool:=if d.kind=1 then numOkB d.n else if d.kind=3 then decide (1<=d.n)&&decide (d.n<=32) else decide (d.n=0)
def Mo.bodies (m:Mo):List (List St):=m.procs.map Pr.body++[m.main]
def Mo.kinds (m:Mo):Bool:=m.decls.all (fun d=>decide (1<=d.kind)&&decide (d.kind<=3))&&m.bodies.all (zav 6)
def Mo.many (m:Mo):Bool:=decide (3<m.uses.length)||(decide (10<m.decls.length)||(decide (6<m.procs.length)||(m.procs.any (fun p=>decide (3<p.params.length)||decide (4<p.locals.length))||m.bodies.any (zal 6))))
def Mo.form (m:Mo):Bool:=nameOk m.name&&(m.uses.all nameOk&&(m.decls.all (fun d=>nameOk d.name&&zek d)&&(m.procs.all (fun p=>nameOk p.name&&(p.params.all nameOk&&p.locals.all nameOk))&&m.bodies.all (zaw 6))))
def Mo.err (m:Mo):Int:=if m.kinds then (if m.many then 2 else (if m.form then 0 else 1)) else 4
theorem zj5 {α:Type} (ts:List α) (p:α->Bool) (k:Nat) (h:k<ts.length):(ts.take (k+1)).any p=((ts.take k).any p||p ts[k]):=by
 rw [vag h,List.any_append];simp
theorem zuf {α:Type} (ts:List α) (p:α->Bool) (k:Nat) (h:k<ts.length) (hp:p ts[k]=true):ts.any p=true:=by
 rw [List.any_eq_true];exact ⟨ts[k],vap _,hp⟩
theorem zc3 {α:Type} {ts:List α} {p:α->Bool} {k:Nat} (h:(ts.take k).all p=true) (hk:¬ k<ts.length):ts.all p=true:=by
 rw [vav (by omega)] at h;exact h
theorem zo2 {α:Type} {ts:List α} {p:α->Bool} {k:Nat} (h:(ts.take k).any p=false) (hk:¬ k<ts.length):ts.any p=false:=by
 rw [vav (by omega)] at h;exact h
theorem z1d {n:Int} (h:(Lit.int .i64 n).wf=true) : -9223372036854775808<=n/\n<=9223372036854775807:=by
 have h1:IntKind.i64.min = -9223372036854775808:=by decide
 have h2:IntKind.i64.max=9223372036854775807:=by decide
 simp [Lit.wf,h1,h2] at h;omega
set_option maxRecDepth 100000
set_option maxHeartbeats 1600000
theorem z1e (s:ByteArray):zqu s=((s.toList == [109,111,100,117,108,101])||((s.toList == [117,115,101])||((s.toList == [112,117,98])||((s.toList == [99,111,110,115,116])||((s.toList == [118,97,114])||((s.toList == [97,114,114,97,121])||((s.toList == [112,114,111,99])||((s.toList == [108,111,99,97,108])||((s.toList == [109,97,105,110]) ||
 ((s.toList == [105,102])||((s.toList == [101,108,115,101])||((s.toList == [119,104,105,108,101])||((s.toList == [114,101,116,117,114,110])||((s.toList == [111,117,116])||((s.toList == [105,110])||false))))))))))))))):=by
 unfold zqu kept;rw [vba];simp only [List.contains_cons,List.contains_nil]
theorem zne (s:ByteArray) (w:World) :
 Calls Tryz.prog 237 #[.string s] w fun e w'=>e = .returned (.bool (zqu s))/\w'=w:=by
 go_enter Tryz.func237,Tryz.ntmps237;go_wp2_with fail
 all_goals go_ret
 all_goals refine ⟨zaa ?_,rfl⟩
 all_goals rw [z1e]
 all_goals simp only [*,Bool.true_or,veo,Bool.or_true]
 all_goals simp_all only [vcs]
theorem zug (w:World) (o:Obj):(w.alloc o).heap[w.heap.size]? = some o:=(MapKept.heap_alloc w o).1
theorem znf (t:Tk) (hk:zen t=true):(zdd [t] == 0)=t.okB:=by
 unfold zdd;simp only [vda,vek,hk,Bool.and_true,if_true,vas,vbu]
 cases t.okB<;>rfl
theorem zyj (t:Tk) (w:World) (hs:t.text.size<=maxLen):zde (w.alloc (.cells #[.int .i64 t.kind,.int .i64 t.n,.string t.text] 184)) (some ⟨w.heap.size,0,none⟩) [t]:=by
 have h:∀ j u,#[Value.int .i64 t.kind,.int .i64 t.n,.string t.text][j]? = some u->(w.alloc (.cells #[.int .i64 t.kind,.int .i64 t.n,.string t.text] 184)).cell? ⟨w.heap.size,j,none⟩=some u:=fun j u hj=>by
  rw [veq (zug w _)];exact hj
 refine Or.inr ⟨_,0,rfl,by simp,?_,?_,?_,?_⟩
 . intro i hi
   obtain rfl:i=0:=by simpa using hi
   exact h 0 _ rfl
 . intro i hi
   obtain rfl:i=0:=by simpa using hi
   exact h 1 _ rfl
 . intro i hi
   obtain rfl:i=0:=by simpa using hi
   exact h 2 _ rfl
 . intro i hi
   obtain rfl:i=0:=by simpa using hi
   exact hs
theorem zqv (t:Tk) (w:World) (hs:t.text.size<=maxLen) (hk:zen t=true) :
 Calls Tryz.prog 238 #[t.val] w fun e w'=>e = .returned (.bool t.okB)/\Below w.heap.size w w':=by
 have HK:Hid ((zdd [t] == 0)=t.okB):=znf t hk
 have HC:Hid (∀ (w1:World) (n:Nat),n=w1.heap.size->Calls Tryz.prog 116 #[.slice (some ⟨n,0,none⟩) 1 1] (w1.alloc (.cells #[.int .i64 t.kind,.int .i64 t.n,.string t.text] 184)) fun e w'=>e = .returned (.int .i64 (zdd [t]))/\Below w1.heap.size w1 w'):=
  fun w1 n hn=>by
   subst hn;refine (zqd _ 1 [t] _ (zyj t w1 hs) (by simp)).mono ?_;rintro e w' ⟨rfl,hb⟩;exact ⟨rfl,((vez _ _).alloc (vaa _) _).trans (hb.mono (by simp))⟩
 obtain ⟨K,N,S⟩:=t;simp only [Tk.val] at *;go_enter Tryz.func238,Tryz.ntmps238
 go_wp2_with (go_at_call 116;refine (HC.out _ _ (by simp)).mono ?_;rintro e w' ⟨rfl,hb⟩)
 go_ret;exact ⟨zaa HK.out,((vez _ _).alloc (vaa _) _).trans (hb.mono (by simp))⟩
theorem zuh (s:ByteArray):Tk.okB ⟨1,0,s⟩=Lx.nameB s.data.toList:=by simp [Tk.okB]
theorem z33 (n:Int):Tk.okB ⟨2,n,⟨#[]⟩⟩=numOkB n:=by simp [Tk.okB,numOkB,vba]
theorem zd9 (s:ByteArray) (w:World) (hs:s.size<=maxLen) :
 Calls Tryz.prog 186 #[.string s] w fun e w'=>e = .returned (.bool (nameOk s))/\Below w.heap.size w w':=by
 have HC:Hid (∀ w1:World,Calls Tryz.prog 238 #[.agg #[.int .i64 1,.int .i64 0,.string s]] w1 fun e w'=>e = .returned (.bool (Lx.nameB s.data.toList))/\Below w1.heap.size w1 w'):=fun w1=>by
  rw [← zuh];exact zqv ⟨1,0,s⟩ w1 hs rfl
 by_cases hk:zqu s=true
 . have HN:Hid (nameOk s=false):=by show _=_;simp [nameOk,hk]
   go_enter Tryz.func186,Tryz.ntmps186
   go_wp2_with (go_at_call 237;refine (zne s _).mono ?_;rintro e w' ⟨rfl,rfl⟩)
   go_ret;exact ⟨zaa (by rw [HN.out]),vez _ _⟩
 . have hk':zqu s=false:=by simpa using hk
   clear hk
   have HN:Hid (nameOk s=Lx.nameB s.data.toList):=by show _=_;simp [nameOk,hk']
   go_enter Tryz.func186,Tryz.ntmps186
   go_wp2_with (first | (go_at_call 237;refine (zne s _).mono ?_;rintro e w' ⟨rfl,rfl⟩) | (go_at_call 238;refine (HC.out _).mono ?_;rintro e w' ⟨rfl,hb⟩))
   go_ret;exact ⟨zaa (by rw [HN.out]),hb⟩
theorem zld (n:Int) (w:World) :
 Calls Tryz.prog 241 #[.int .i64 n] w fun e w'=>e = .returned (.bool (numOkB n))/\Below w.heap.size w w':=by
 have HC:Hid (∀ w1:World,Calls Tryz.prog 238 #[.agg #[.int .i64 2,.int .i64 n,.string ⟨#[]⟩]] w1 fun e w'=>e = .returned (.bool (numOkB n))/\Below w1.heap.size w1 w'):=fun w1=>by
  rw [← z33];exact zqv ⟨2,n,⟨#[]⟩⟩ w1 (vae _) rfl
 go_enter Tryz.func241,Tryz.ntmps241
 go_wp2_with (go_at_call 238;refine (HC.out _).mono ?_;rintro e w' ⟨rfl,hb⟩)
 go_ret;exact ⟨rfl,hb⟩
theorem zi5 (s:ByteArray):s.toList.isEmpty=decide (s.size=0):=by
 rw [vba];have h:=Lx.len_toList s
 cases hl:s.data.toList with
 | nil=>rw [hl] at h;have h':s.size=0:=h.symm;simp [h']
 | cons c r => rw [hl] at h;have h':s.size≠0:=by simp at h;omega
               simp [h']
theorem zjj (h:Sh) (mod name:ByteArray) (w:World) (h1:mod.size<=maxLen) (h2:name.size<=maxLen) :
 Calls Tryz.prog 242 #[h.val,.string mod,.string name] w fun e w'=>e = .returned (.bool (zc9 h mod name))/\Below w.heap.size w w':=by
 obtain ⟨a,b,c,d,e,f⟩:=h;simp only [Sh.val]
 cases a with
 | false=>
   have HR:Hid (zc9 ⟨false,b,c,d,e,f⟩ mod name=(mod.toList.isEmpty&&name.toList.isEmpty)):=by show _=_;simp [zc9,zi5]
   cases hm:mod.toList.isEmpty with
   | false=>
     go_enter Tryz.func242,Tryz.ntmps242;go_wp2_with fail;go_ret;exact ⟨zaa (by rw [HR.out,hm];rfl),(vez _ _).alloc (vaa _) _⟩
   | true=>
     go_enter Tryz.func242,Tryz.ntmps242;go_wp2_with fail;go_ret;exact ⟨zaa (by rw [HR.out,hm];rfl),(vez _ _).alloc (vaa _) _⟩
 | true=>
   have HR:Hid (zc9 ⟨true,b,c,d,e,f⟩ mod name=(nameOk name&&(mod.toList.isEmpty||nameOk mod))):=by show _=_;simp [zc9,zi5]
   cases hn:nameOk name with
   | false=>
     go_enter Tryz.func242,Tryz.ntmps242
     go_wp2_with (go_at_call 186;refine (zd9 name _ h2).mono ?_;rw [hn];rintro e w' ⟨rfl,hb⟩)
     go_ret;exact ⟨zaa (by rw [HR.out,hn];rfl),((vez _ _).alloc (vaa _) _).trans (hb.mono (by simp))⟩
   | true=>
     cases hm:mod.toList.isEmpty with
     | true=>
       go_enter Tryz.func242,Tryz.ntmps242
       go_wp2_with (go_at_call 186;refine (zd9 name _ h2).mono ?_;rw [hn];rintro e w' ⟨rfl,hb⟩)
       go_ret;exact ⟨zaa (by rw [HR.out,hn,hm];rfl),((vez _ _).alloc (vaa _) _).trans (hb.mono (by simp))⟩
     | false=>
       go_enter Tryz.func242,Tryz.ntmps242;go_wp2_with fail;refine (zd9 name _ h2).mono ?_;rw [hn];rintro e w1 ⟨rfl,hb⟩;go_wp2_with fail;refine (zd9 mod _ h1).mono ?_;rintro e w2 ⟨rfl,hb2⟩;go_wp2_with fail;go_ret;exact ⟨zaa (by rw [HR.out,hn,hm];simp),(((vez _ _).alloc (vaa _) _).trans (hb.mono (by simp))).trans (hb2.mono (vai (by simp) hb.size))⟩
theorem zle (h:Sh) (n:Int) (w:World) :
 Calls Tryz.prog 280 #[h.val,.int .i64 n] w fun e w'=>e = .returned (.bool (nOk h n))/\Below w.heap.size w w':=by
 obtain ⟨a,b,c,d,e,f⟩:=h;simp only [Sh.val]
 cases b with
 | false=>
   have HR:Hid (nOk ⟨a,false,c,d,e,f⟩ n=(n == 0)):=by show _=_;rw [vcq];simp [nOk]
   go_enter Tryz.func280,Tryz.ntmps280;go_wp2_with fail;go_ret;exact ⟨zaa HR.out.symm,(vez _ _).alloc (vaa _) _⟩
 | true=>
   have HR:Hid (nOk ⟨a,true,c,d,e,f⟩ n=numOkB n):=by show _=_;simp [nOk]
   go_enter Tryz.func280,Tryz.ntmps280
   go_wp2_with (go_at_call 241;refine (zld n _).mono ?_;rintro e w' ⟨rfl,hb⟩)
   go_ret;exact ⟨zaa HR.out.symm,((vez _ _).alloc (vaa _) _).trans (hb.mono (by simp))⟩
theorem zg7 (h:Sh) (aa:OA) (k cap:Nat) (w:World) :
 Calls Tryz.prog 243 #[h.val,.slice aa k cap] w fun e w'=>e = .returned (.bool (zbd h k))/\Below w.heap.size w w':=by
 obtain ⟨a,b,c,d,e,f⟩:=h;simp only [Sh.val];have HR:Hid (zbd ⟨a,b,c,d,e,f⟩ k=(decide (c<=(k:Int))&&decide ((k:Int)<=d))):=rfl
 by_cases h1:c<=(k:Int)
 . go_enter Tryz.func243,Tryz.ntmps243
   go_wp2_with fail
   all_goals go_ret
   all_goals exact ⟨zaa (by rw [HR.out];simp [*]<;>omega),(vez _ _).alloc (vaa _) _⟩
 . go_enter Tryz.func243,Tryz.ntmps243
   go_wp2_with fail
   all_goals go_ret
   all_goals exact ⟨zaa (by rw [HR.out];simp [*]<;>omega),(vez _ _).alloc (vaa _) _⟩
theorem zo3 (x:De) (w:World) :
 Calls Tryz.prog 188 #[.agg #[.int .i64 x.kind,.string x.name,.bool x.pub,.int .i64 x.n]] w fun e w'=>e = .returned (.bool (zek x))/\Below w.heap.size w w':=by
 obtain ⟨K,S,B,N⟩:=x
 by_cases k1:K=1
 . have HR:Hid (zek ⟨K,S,B,N⟩=numOkB N):=if_pos k1
   subst k1;go_enter Tryz.func188,Tryz.ntmps188
   go_wp2_with (go_at_call 241;refine (zld N _).mono ?_;rintro e w' ⟨rfl,hb⟩)
   go_ret;exact ⟨zaa HR.out.symm,((vez _ _).alloc (vaa _) _).trans (hb.mono (by simp))⟩
 . have b1:(K == 1)=false:=beq_eq_false_iff_ne.2 k1
   by_cases k3:K=3
   . have HR:Hid (zek ⟨K,S,B,N⟩=(decide (1<=N)&&decide (N<=32))):=(if_neg k1).trans (if_pos k3)
     subst k3;clear k1 b1
     by_cases n1:1<=N
     . go_enter Tryz.func188,Tryz.ntmps188
       go_wp2_with fail
       all_goals go_ret
       all_goals exact ⟨zaa (by rw [HR.out];simp [*]<;>omega),(vez _ _).alloc (vaa _) _⟩
     . go_enter Tryz.func188,Tryz.ntmps188
       go_wp2_with fail
       all_goals go_ret
       all_goals exact ⟨zaa (by rw [HR.out];simp [*]<;>omega),(vez _ _).alloc (vaa _) _⟩
   . have b3:(K == 3)=false:=beq_eq_false_iff_ne.2 k3
     have HR:Hid (zek ⟨K,S,B,N⟩=(N == 0)):=by
      show _=_
      rw [vcq];simp [zek,k1,k3]
     clear k1 k3;go_enter Tryz.func188,Tryz.ntmps188;go_wp2_with fail
     all_goals go_ret
     all_goals exact ⟨zaa (by rw [HR.out]),(vez _ _).alloc (vaa _) _⟩
end Go.Proofs.YtndkhgakfodldaaGreatDoor

namespace Go.Proofs.YtndkhgakfodldaaGreatDoor
set_option maxRecDepth 100000
set_option maxHeartbeats 1600000
open Go.RowKit Go.Maps
def zyk (v:Value):Option (DataW Value × List MemPlace):=some (.held v,[])
theorem zyl:Keyed Tryz.prog 3:=int_keyed Tryz.underlying3
theorem z2r (w:World):(zeroValue 270).run Tryz.prog w = .ok sh0.val w:=by kernel_rfl
def z1f (D:DataW Value) (f:Int->Option Sh):Prop:=∀ a:Int,has D (.int .i64 a)=(f a).isSome/\D.atKey (.int .i64 a) (.held sh0.val) = .held ((f a).getD sh0).val
def upd (f:Int->Option Sh) (k:Int) (s:Sh):Int->Option Sh:=fun a=>if a=k then some s else f a
theorem z1f.put {D:DataW Value} {f:Int->Option Sh} (h:z1f D f) (hD:IsMap D) (k:Int) (s:Sh):z1f (D.put (.int .i64 k) (.held s.val)) (upd f k s):=by
 intro a
 by_cases e:a=k
 . subst e
   simp only [upd,if_true];exact ⟨has_put_same (k:=.int .i64 a) hD trivial _,atKey_put_same (k:=.int .i64 a) hD trivial _ _⟩
 . simp only [upd,if_neg e]
   have hne:Lit.int .i64 a≠.int .i64 k:=fun h=>e (by injection h)
   rw [has_put_other hne,atKey_put_other hne];exact h a
def zda (w:World) (b n:Nat) (f:Int->Option Sh):Prop:=∃ D,w.ownsMap Tryz.prog 3 zyk b n D/\z1f D f
theorem zda.later {w w':World} {b n:Nat} {f:Int->Option Sh} (h:zda w b n f) (hb:Below w.heap.size w w'):zda w' b n f:=by
 obtain ⟨D,h1,h2⟩:=h;have hlt:=h1.lt;obtain ⟨es,clock,hb',r⟩:=h1;exact ⟨D,⟨es,clock,(hb.block b hlt).trans hb',r⟩,h2⟩
theorem zda.lt {w:World} {b n:Nat} {f:Int->Option Sh} (h:zda w b n f):b<w.heap.size:=by obtain ⟨D,h1,_⟩:=h;exact h1.lt
theorem zda.made (w:World):zda (w.alloc (.map #[] 0)) w.heap.size 0 (fun _=>none):=
 ⟨.map [],vew w _ _ _,fun _=>⟨rfl,rfl⟩⟩
theorem zda.look {w:World} {b n:Nat} {f:Int->Option Sh} (h:zda w b n f) {k:Int} (hk:(Lit.int .i64 k).wf=true) :
 (Instr.lookup 232 (.map (some b)) (.int .i64 k) false).run Tryz.prog w = .ok ((f k).getD sh0).val w:=by
 obtain ⟨D,h1,h2⟩:=h;obtain ⟨v,ps,hrun,hv⟩:=h1.lookup zyl Tryz.underlying232 (z2r w) (zd:=.held sh0.val) (zp:=[]) rfl (keyOf_int_mk Tryz.underlying3 hk);rw [(h2 k).2] at hv;simp only [zyk,vbh,vee,veg] at hv;rw [hrun,hv.1]
theorem zda.look_ok {w:World} {b n:Nat} {f:Int->Option Sh} (h:zda w b n f) {k:Int} (hk:(Lit.int .i64 k).wf=true) :
 (Instr.lookup 232 (.map (some b)) (.int .i64 k) true).run Tryz.prog w = .ok (.tuple #[((f k).getD sh0).val,.bool (f k).isSome]) w:=by
 obtain ⟨D,h1,h2⟩:=h;obtain ⟨v,ps,hrun,hv⟩:=h1.look_ok zyl Tryz.underlying232 (z2r w) (zd:=.held sh0.val) (zp:=[]) rfl (keyOf_int_mk Tryz.underlying3 hk);rw [(h2 k).2] at hv;simp only [zyk,vbh,vee,veg] at hv;rw [hrun,hv.1,(h2 k).1]
theorem zda.put {w:World} {b n:Nat} {f:Int->Option Sh} (h:zda w b n f) (hn:n<maxLen) {k:Int} (hk:(Lit.int .i64 k).wf=true) (s:Sh) :
 ∃ w',(Instr.mapUpdate 232 (.map (some b)) (.int .i64 k) s.val).run Tryz.prog w = .ok () w'/\zda w' b (n+1) (upd f k s)/\w.grownBy w' (some b):=by
 obtain ⟨D,h1,h2⟩:=h;obtain ⟨w',r1,r2,r3⟩:=h1.update zyl Tryz.underlying232 hn (keyOf_int_mk Tryz.underlying3 hk) (val:=s.val) (d:=.held s.val) (ps:=[]) rfl;exact ⟨w',r1,⟨_,r2,h2.put h1.isMap k s⟩,r3⟩
theorem zqw {ops:Array Oper} {rest:List Oper} {o:Oper} {a:Act} {w:World} {Q:Exit->Act->World->Prop} (hg:o.guard=none) (m x v:Operand) (hop:o.op=Op.insert 232 m x v) {b n:Nat} {f:Int->Option Sh} (hS:zda w b n f)
 (hm:a.eval m = .map (some b)) (k:Int) (hx:a.eval x = .int .i64 k) (x1 x2:Bool) (x3 x4:Int) (x5 x6:Bool) (hv:a.eval v = .agg #[.bool x1,.bool x2,.int .i64 x3,.int .i64 x4,.bool x5,.bool x6]) (hk:(Lit.int .i64 k).wf=true) (hn:n<maxLen)
 (hK:∀ w',zda w' b (n+1) (upd f k ⟨x1,x2,x3,x4,x5,x6⟩)->w.grownBy w' (some b)->wpList Tryz.prog ops Q rest (a.put o.dst undef) w'):wpList Tryz.prog ops Q (o :: rest) a w:=by
 refine wpList_plain hg fun K' hK'=>?_
 obtain ⟨w',hrun,r1,r2⟩:=hS.put hn hk ⟨x1,x2,x3,x4,x5,x6⟩;simp only [Sh.val] at hrun;unfold Oper.wp;simp [execOp,hop,hm,hx,hv,hrun,Result.andThen];exact hK' _ _ (hK w' r1 r2)
theorem zym {ops:Array Oper} {rest:List Oper} {o:Oper} {a:Act} {w:World} {Q:Exit->Act->World->Prop} (hg:o.guard=none) (m x v:Operand) (hop:o.op=Op.mapUpdate 232 m x v) {b n:Nat} {f:Int->Option Sh} (hS:zda w b n f)
 (hm:a.eval m = .map (some b)) (k:Int) (hx:a.eval x = .int .i64 k) (x1 x2:Bool) (x3 x4:Int) (x5 x6:Bool) (hv:a.eval v = .agg #[.bool x1,.bool x2,.int .i64 x3,.int .i64 x4,.bool x5,.bool x6]) (hk:(Lit.int .i64 k).wf=true) (hn:n<maxLen)
 (hK:∀ w',zda w' b (n+1) (upd f k ⟨x1,x2,x3,x4,x5,x6⟩)->w.grownBy w' (some b)->wpList Tryz.prog ops Q rest (a.put o.dst undef) w'):wpList Tryz.prog ops Q (o :: rest) a w:=by
 refine wpList_plain hg fun K' hK'=>?_
 obtain ⟨w',hrun,r1,r2⟩:=hS.put hn hk ⟨x1,x2,x3,x4,x5,x6⟩;simp only [Sh.val] at hrun;unfold Oper.wp;simp [execOp,hop,hm,hx,hv,hrun,Result.andThen];exact hK' _ _ (hK w' r1 r2)
def stF:Int->Option Sh:=upd (upd (upd (upd (upd (upd (upd (fun _=>none) 1 ⟨true,false,1,1,false,false⟩) 2 ⟨true,false,2,2,false,false⟩) 3 ⟨true,false,0,3,false,false⟩) 4 ⟨false,false,1,1,true,true⟩) 5 ⟨false,false,1,1,true,false⟩) 6 ⟨false,false,1,1,false,false⟩) 7 ⟨false,false,1,1,false,false⟩
theorem z52:stF=zl1:=by
 funext a
 unfold stF upd zl1
 repeat' split
 all_goals first | rfl | omega
def z7v:Int->Option Sh:=upd (upd (upd (upd (upd (upd (fun _=>none) 1 ⟨false,true,0,0,false,false⟩) 2 ⟨false,false,0,0,false,false⟩) 3 ⟨true,false,0,0,false,false⟩) 4 ⟨true,false,1,1,false,false⟩) 5 ⟨true,false,0,3,false,false⟩) 6 ⟨false,false,1,1,false,false⟩
def exF (k:Nat):Int->Option Sh:=fun a=>if 7<=a/\a<7+(k:Int) then some ⟨false,false,2,2,false,false⟩ else z7v a
theorem z1g:z7v=exF 0:=by
 funext a
 unfold exF;rw [if_neg (by omega)]
theorem z1h (k:Nat):upd (exF k) (7+(k:Int)) ⟨false,false,2,2,false,false⟩=exF (k+1):=by
 funext a
 simp only [upd,exF]
 by_cases e:a=7+(k:Int)
 . rw [if_pos e,if_pos (by omega)]
 . rw [if_neg e]
   by_cases h:7<=a/\a<7+(k:Int)
   . rw [if_pos h,if_pos (by omega)]
   . rw [if_neg h,if_neg (by omega)]
theorem z34:exF 9=zi4:=by
 funext a
 unfold exF z7v upd zi4
 repeat' split
 all_goals first | rfl | omega
theorem zmg (w:World) :
 Calls Tryz.prog 151 #[] w fun e w'=>∃ b,e = .returned (.map (some b))/\zda w' b 7 zl1/\Below w.heap.size w w':=by
 have hmm:=@run_makeMap Tryz.prog;have hS:=zda.made w;have hB:Below w.heap.size w (w.alloc (.map #[] 0)):=(vez _ _).alloc (vaa _) _;go_enter Tryz.func151,Tryz.ntmps151
 go_wp2_with (refine zqw rfl _ _ _ rfl hS rfl _ rfl _ _ _ _ _ _ rfl (by decide) (by decide) ?_;clear hS;intro w1 hS hG;replace hB:=hB.grown hG hB.size (fun j hj=>by cases hj;exact vaa _);clear hG)
 go_ret;refine ⟨_,rfl,?_,hB⟩;rw [← z52];exact hS
theorem zmh (w:World) :
 Calls Tryz.prog 150 #[] w fun e w'=>∃ b,e = .returned (.map (some b))/\zda w' b 15 zi4/\Below w.heap.size w w':=by
 have hmm:=@run_makeMap Tryz.prog;have hS:=zda.made w;have hB:Below w.heap.size w (w.alloc (.map #[] 0)):=(vez _ _).alloc (vaa _) _;go_enter Tryz.func150,Tryz.ntmps150
 go_wp2_with (refine zqw rfl _ _ _ rfl hS rfl _ rfl _ _ _ _ _ _ rfl (by decide) (by decide) ?_;clear hS;intro w1 hS hG;replace hB:=hB.grown hG hB.size (fun j hj=>by cases hj;exact vaa _);clear hG)
 have hS0:zda w1 w.heap.size 6 (exF 0):=by rw [← z1g];exact hS
 clear hS
 go_loopw [2] (fun i wr=>∃ k:Nat,k<=9/\i = .int .i64 (7+(k:Int))/\zda wr w.heap.size (6+k) (exF k)/\Below w.heap.size w wr) (fun i _=>16 - (intOf i).toNat)
 case atStart=>exact ⟨0,by omega,rfl,hS0,hB⟩
 case round=>
  clear hS0 hB;obtain ⟨k,hk,rfl,hS,hB⟩:=hrel
  by_cases hlt:k<9
  . go_wp2_with (refine zym rfl _ _ _ rfl hS rfl _ rfl _ _ _ _ _ _ rfl (WalkArith.wf_i64 (by omega)) (by unfold maxLen;omega) ?_;clear hS;intro w2 hS hG;replace hB:=hB.grown hG hB.size (fun j hj=>by cases hj;exact vaa _);clear hG)
    rw [z1h] at hS;go_roundw
    case rel=>exact ⟨k+1,by omega,by go_num,hS,hB⟩
    case measure=>simp [intOf];omega
  . obtain rfl:k=9:=by omega
    go_wp2_with fail;go_ret;refine ⟨_,rfl,?_,hB⟩;rw [← z34];exact hS
end Go.Proofs.YtndkhgakfodldaaGreatDoor
