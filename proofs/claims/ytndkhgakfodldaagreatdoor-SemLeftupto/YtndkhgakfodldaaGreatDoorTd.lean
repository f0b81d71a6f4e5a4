import Derived.Test.YtndkhgakfodldaaGreatDoorLeafc
import Derived.Deep.AppendLies
namespace Go.Proofs.YtndkhgakfodldaaGreatDoor
open Go.RowKit
inductive D where
 | int (n:Int)
 | str (s:ByteArray)
 | bool (b:Bool)
 | list (n:Nat) (ds:List D)
def zfa (w:World) (b off:Nat) (l:List Value):Prop:=∀ j u,l[j]? = some u->w.cell? ⟨b,off+j,none⟩=some u
mutual
def zck (w:World) (A:Nat->Prop):D->Value->Prop
 | .int n,v=>v = .int .i64 n/\(Lit.int .i64 n).wf=true
 | .str s,v=>v = .string s/\s.size<=maxLen
 | .bool b,v=>v = .bool b
 | .list n ds,v=>∃ a cap,v = .slice a n cap/\n<=ds.length/\ds.length<=17592186044416/\(n=0\/∃ b off cs,a=some ⟨b,off,none⟩/\A b/\b<w.heap.size/\zfa w b off cs/\DVals w A ds cs)
def DVals (w:World) (A:Nat->Prop):List D->List Value->Prop
 | [],cs=>cs=[]
 | d :: ds,cs=>∃ v r,cs=v :: r/\zck w A d v/\DVals w A ds r
end
def zfb (lo:Nat) (w w':World):Prop:=w.heap.size<=w'.heap.size/\∀ k,lo<=k->k<w.heap.size->w'.heap[k]? = w.heap[k]?
theorem zfb.refl (lo:Nat) (w:World):zfb lo w w:=⟨vaa _,fun _ _ _=>rfl⟩
theorem zfb.trans {lo:Nat} {a b c:World} (h:zfb lo a b) (k:zfb lo b c):zfb lo a c:=
 ⟨vav h.1 k.1,fun i h1 h2=>(k.2 i h1 (vac h2 h.1)).trans (h.2 i h1 h2)⟩
theorem zfb.mono {lo lo':Nat} {w w':World} (h:zfb lo w w') (hl:lo<=lo'):zfb lo' w w':=⟨h.1,fun k h1 h2=>h.2 k (vav hl h1) h2⟩
theorem zfb.of_below {w w':World} (h:Below w.heap.size w w') (lo:Nat):zfb lo w w':=⟨h.size,fun k _ h2=>h.block k h2⟩
theorem zfb.cell {lo:Nat} {w w':World} (h:zfb lo w w') {b off:Nat} (h1:lo<=b) (h2:b<w.heap.size):w'.cell? ⟨b,off,none⟩=w.cell? ⟨b,off,none⟩:=
 veh (w:=w) (h.2 b h1 h2)
theorem zfb.alloc {lo:Nat} {w w':World} (h:zfb lo w w') (o:Obj):zfb lo w (w'.alloc o):=
 h.trans (zfb.of_below ((Below.refl w'.heap.size w').alloc (vaa _) o) lo)
def zag (w:World) (A:Nat->Prop) (w':World) (A':Nat->Prop):Prop:=w.heap.size<=w'.heap.size/\∀ b,b<w.heap.size->A b->A' b/\w'.heap[b]? = w.heap[b]?
theorem zag.refl (w:World) (A:Nat->Prop):zag w A w A:=⟨vaa _,fun _ _ h=>⟨h,rfl⟩⟩
theorem zag.trans {w1 w2 w3:World} {A1 A2 A3:Nat->Prop} (h:zag w1 A1 w2 A2) (k:zag w2 A2 w3 A3):zag w1 A1 w3 A3:=
 ⟨vav h.1 k.1,fun b hb ha=>⟨(k.2 b (vac hb h.1) (h.2 b hb ha).1).1,(k.2 b (vac hb h.1) (h.2 b hb ha).1).2.trans (h.2 b hb ha).2⟩⟩
theorem zag.of_below {w w':World} (h:Below w.heap.size w w') (A:Nat->Prop):zag w A w' A:=⟨h.size,fun b hb ha=>⟨ha,h.block b hb⟩⟩
theorem zag.alloc {w w':World} {A A':Nat->Prop} (h:zag w A w' A') (o:Obj):zag w A (w'.alloc o) A':=h.trans (zag.of_below ((Below.refl w'.heap.size w').alloc (vaa _) o) A')
theorem zag.lower {w:World} {lo lo':Nat} (h:lo'<=lo):zag w (lo<=·) w (lo'<=·):=⟨vaa _,fun _ _ ha=>⟨vav h ha,rfl⟩⟩
theorem zfa.moves {A A':Nat->Prop} {w w':World} {b off:Nat} {l:List Value} (h:zfa w b off l) (hs:zag w A w' A') (h1:A b) (h2:b<w.heap.size):zfa w' b off l:=
 fun j u hj=>(veh (w:=w) (hs.2 b h2 h1).2).trans (h j u hj)
mutual
theorem zck.moves {A A':Nat->Prop} {w w':World} (hs:zag w A w' A'):∀ (d:D) (v:Value),zck w A d v->zck w' A' d v
 | .int _,_,h=>h
 | .str _,_,h=>h
 | .bool _,_,h=>h
 | .list n ds,v,h=>by
   unfold zck at h ⊢;obtain ⟨a,cap,h1,h2,h3,h4⟩:=h;refine ⟨a,cap,h1,h2,h3,?_⟩
   rcases h4 with h4 | ⟨b,off,cs,ha,hl,hb,hc,hx⟩
   . exact Or.inl h4
   . exact Or.inr ⟨b,off,cs,ha,(hs.2 b hb hl).1,vac hb hs.1,hc.moves hs hl hb,DVals.moves hs ds cs hx⟩
theorem DVals.moves {A A':Nat->Prop} {w w':World} (hs:zag w A w' A'):∀ (l:List D) (cs:List Value),DVals w A l cs->DVals w' A' l cs
 | [],_,h=>h
 | d :: ds,cs,h=>by
   unfold DVals at h ⊢;obtain ⟨v,r,h1,h2,h3⟩:=h;exact ⟨v,r,h1,zck.moves hs d v h2,DVals.moves hs ds r h3⟩
end
theorem zck.one {w:World} {lo:Nat->Prop}:∀ {d:D} {v:Value},zck w lo d v->v.oneCell'=true
 | .int _,_,h=>by unfold zck at h;rw [h.1];rfl
 | .str _,_,h=>by unfold zck at h;rw [h.1];rfl
 | .bool _,_,h=>by unfold zck at h;rw [h];rfl
 | .list _ _,_,h=>by unfold zck at h;obtain ⟨a,cap,h,_⟩:=h;rw [h];rfl
theorem DVals.one {w:World} {lo:Nat->Prop}:∀ {l:List D} {cs:List Value},DVals w lo l cs->∀ u ∈ cs,u.oneCell'=true
 | [],_,h=>by unfold DVals at h;rw [h];intro u hu;cases hu
 | d :: ds,cs,h=>by
   unfold DVals at h;obtain ⟨v,r,rfl,h2,h3⟩:=h;intro u hu
   rcases vci.1 hu with rfl | hu
   . exact h2.one
   . exact DVals.one h3 u hu
theorem DVals.len {w:World} {lo:Nat->Prop}:∀ {l:List D} {cs:List Value},DVals w lo l cs->cs.length=l.length
 | [],_,h=>by unfold DVals at h;rw [h];rfl
 | d :: ds,cs,h=>by
   unfold DVals at h;obtain ⟨v,r,rfl,h2,h3⟩:=h;simp [DVals.len h3]
theorem DVals.nil {w:World} {lo:Nat->Prop}:DVals w lo [] []:=by unfold DVals;rfl
theorem DVals.cons {w:World} {lo:Nat->Prop} {d:D} {ds:List D} {v:Value} {cs:List Value} (h:zck w lo d v) (k:DVals w lo ds cs):DVals w lo (d :: ds) (v :: cs):=by
 unfold DVals;exact ⟨v,cs,rfl,h,k⟩
theorem DVals.append {w:World} {lo:Nat->Prop}:∀ {l m:List D} {cs es:List Value},DVals w lo l cs->DVals w lo m es->DVals w lo (l++m) (cs++es)
 | [],m,cs,es,h,k=>by unfold DVals at h;subst h;exact k
 | d :: ds,m,cs,es,h,k=>by
   unfold DVals at h;obtain ⟨v,r,rfl,h2,h3⟩:=h;exact DVals.cons h2 (DVals.append h3 k)
theorem DVals.get {w:World} {lo:Nat->Prop}:∀ {l:List D} {cs:List Value},DVals w lo l cs->∀ (j:Nat) (d:D),l[j]? = some d->∃ v,cs[j]? = some v/\zck w lo d v
 | [],_,_,j,d,hj=>by simp at hj
 | e :: ds,cs,h,j,d,hj=>by
   unfold DVals at h;obtain ⟨v,r,rfl,h2,h3⟩:=h
   cases j with
   | zero=>simp at hj;subst hj;exact ⟨v,rfl,h2⟩
   | succ j=>simpa using DVals.get h3 j d (by simpa using hj)
theorem dint {w:World} {lo:Nat->Prop} {n:Int} (h:(Lit.int .i64 n).wf=true):zck w lo (.int n) (.int .i64 n):=by unfold zck;exact ⟨rfl,h⟩
theorem zd6 {w:World} {lo:Nat->Prop} {s:ByteArray} (h:s.size<=maxLen):zck w lo (.str s) (.string s):=by unfold zck;exact ⟨rfl,h⟩
theorem zx0 {w:World} {lo:Nat->Prop} {b:Bool}:zck w lo (.bool b) (.bool b):=by unfold zck;rfl
theorem zk2 {w:World} {lo:Nat->Prop} {a:OA} {cap:Nat}:zck w lo (.list 0 []) (.slice a 0 cap):=by unfold zck;exact ⟨a,cap,rfl,vaa _,by simp,Or.inl rfl⟩
theorem z18 {w:World} {lo:Nat->Prop} {n b off cap:Nat} {ds:List D} {cs:List Value} (h1:n<=ds.length) (h2:ds.length<=17592186044416) (hl:lo b) (hb:b<w.heap.size) (hc:zfa w b off cs) (hx:DVals w lo ds cs):zck w lo (.list n ds) (.slice (some ⟨b,off,none⟩) n cap):=by
 unfold zck;exact ⟨_,cap,rfl,h1,h2,Or.inr ⟨b,off,cs,rfl,hl,hb,hc,hx⟩⟩
theorem zbh {w:World} {lo:Nat->Prop} {n:Int} {v:Value} (h:zck w lo (.int n) v):v = .int .i64 n/\(Lit.int .i64 n).wf=true:=by unfold zck at h;exact h
theorem zcx {w:World} {lo:Nat->Prop} {s:ByteArray} {v:Value} (h:zck w lo (.str s) v):v = .string s/\s.size<=maxLen:=by unfold zck at h;exact h
theorem zq3 {w:World} {lo:Nat->Prop} {b:Bool} {v:Value} (h:zck w lo (.bool b) v):v = .bool b:=by unfold zck at h;exact h
def DAt (w:World) (lo:Nat->Prop) (a:OA) (n:Nat) (ds:List D):Prop:=n<=ds.length/\ds.length<=17592186044416/\(n=0\/∃ b off cs,a=some ⟨b,off,none⟩/\lo b/\b<w.heap.size/\zfa w b off cs/\DVals w lo ds cs)
theorem zaz {w:World} {lo:Nat->Prop} {n:Nat} {ds:List D} {v:Value} (h:zck w lo (.list n ds) v):∃ a cap,v = .slice a n cap/\DAt w lo a n ds:=by unfold zck at h;exact h
theorem DAt.val {w:World} {lo:Nat->Prop} {n cap:Nat} {a:OA} {ds:List D} (h:DAt w lo a n ds):zck w lo (.list n ds) (.slice a n cap):=by unfold zck;exact ⟨a,cap,rfl,h⟩
theorem DAt.moves {A A':Nat->Prop} {w w':World} {n:Nat} {a:OA} {ds:List D} (h:DAt w A a n ds) (hs:zag w A w' A'):DAt w' A' a n ds:=by
 obtain ⟨h1,h2,h3⟩:=h;refine ⟨h1,h2,?_⟩
 rcases h3 with h4 | ⟨b,off,cs,ha,hl,hb,hc,hx⟩
 . exact Or.inl h4
 . exact Or.inr ⟨b,off,cs,ha,(hs.2 b hb hl).1,vac hb hs.1,hc.moves hs hl hb,DVals.moves hs ds cs hx⟩
theorem DAt.later {A:Nat->Prop} {w w':World} {n:Nat} {a:OA} {ds:List D} (h:DAt w A a n ds) (hb:Below w.heap.size w w'):DAt w' A a n ds:=h.moves (zag.of_below hb A)
theorem DAt.bound {A:Nat->Prop} {w:World} {n:Nat} {a:OA} {ds:List D} (h:DAt w A a n ds):n<=17592186044416:=vav h.1 h.2.1
theorem DAt.cell {A:Nat->Prop} {w:World} {n:Nat} {a:OA} {ds:List D} (h:DAt w A a n ds) (hn:0<n):∃ b off,a=some ⟨b,off,none⟩/\b<w.heap.size/\∀ (j:Nat) (d:D),ds[j]? = some d->∃ v,w.cell? ⟨b,off+j,none⟩=some v/\zck w A d v:=by
 rcases h.2.2 with h0 | ⟨b,off,cs,ha,_,hb,hc,hx⟩
 . omega
 . refine ⟨b,off,ha,hb,fun j d hj=>?_⟩
   obtain ⟨v,hv,hd⟩:=hx.get j d hj;exact ⟨v,hc j v hv,hd⟩
inductive Ex where
 | mk (op n:Int) (mod name:ByteArray) (args:List Ex)
def Ex.op:Ex->Int | .mk op _ _ _ _=>op
def Ex.n:Ex->Int | .mk _ n _ _ _=>n
def Ex.mod:Ex->ByteArray | .mk _ _ m _ _=>m
def Ex.name:Ex->ByteArray | .mk _ _ _ m _=>m
def Ex.args:Ex->List Ex | .mk _ _ _ _ l=>l
inductive St where
 | mk (op:Int) (mod name:ByteArray) (args:List Ex) (body other:List St)
def St.op:St->Int | .mk op _ _ _ _ _=>op
def St.mod:St->ByteArray | .mk _ m _ _ _ _=>m
def St.name:St->ByteArray | .mk _ _ m _ _ _=>m
def St.args:St->List Ex | .mk _ _ _ l _ _=>l
def St.body:St->List St | .mk _ _ _ _ l _=>l
def St.other:St->List St | .mk _ _ _ _ _ l=>l
mutual
def Ex.ds:Ex->List D
 | .mk op n mod name args=>[.int op,.int n,.str mod,.str name,.list args.length (zbi args)]
def zbi:List Ex->List D
 | []=>[]
 | x :: r=>x.ds++zbi r
end
mutual
def St.ds:St->List D
 | .mk op mod name args body other=>[.int op,.str mod,.str name,.list args.length (zbi args),.list body.length (zbj body),.list other.length (zbj other)]
def zbj:List St->List D
 | []=>[]
 | x :: r=>x.ds++zbj r
end
theorem Ex.ds_len (x:Ex):x.ds.length=5:=by cases x;unfold Ex.ds;rfl
theorem St.ds_len (x:St):x.ds.length=6:=by cases x;unfold St.ds;rfl
theorem zgf:∀ (l m:List Ex),zbi (l++m)=zbi l++zbi m
 | [],m=>by simp [zbi]
 | x :: r,m=>by simp [zbi,zgf r m]
theorem zgg:∀ (l m:List St),zbj (l++m)=zbj l++zbj m
 | [],m=>by simp [zbj]
 | x :: r,m=>by simp [zbj,zgg r m]
theorem zid (x:Ex):zbi [x]=x.ds:=by simp [zbi]
theorem zq4 (x:St):zbj [x]=x.ds:=by simp [zbj]
theorem zq5:∀ (l:List Ex) (i:Nat) (h:i<l.length) (j:Nat),j<5->(zbi l)[i*5+j]? = (l[i].ds)[j]?
 | [],i,h,_,_=>by simp at h
 | x :: r,0,_,j,hj=>by
   have:=x.ds_len;simp only [zbi,vbn];rw [vaw (by omega),vbh,vbc]
 | x :: r,i+1,h,j,hj=>by
   have:=x.ds_len;simp only [zbi,vbo];rw [vbb (by omega),show (i+1)*5+j - x.ds.length=i*5+j from by omega];exact zq5 r i (by simpa using h) j hj
theorem zq6:∀ (l:List St) (i:Nat) (h:i<l.length) (j:Nat),j<6->(zbj l)[i*6+j]? = (l[i].ds)[j]?
 | [],i,h,_,_=>by simp at h
 | x :: r,0,_,j,hj=>by
   have:=x.ds_len;simp only [zbj,vbn];rw [vaw (by omega),vbh,vbc]
 | x :: r,i+1,h,j,hj=>by
   have:=x.ds_len;simp only [zbj,vbo];rw [vbb (by omega),show (i+1)*6+j - x.ds.length=i*6+j from by omega];exact zq6 r i (by simpa using h) j hj
structure ExAt (w:World) (A:Nat->Prop) (b o:Nat) (x:Ex) (aa:OA) (cap:Nat):Prop where
 lt:b<w.heap.size
 c0:w.cell? ⟨b,o,none⟩=some (.int .i64 x.op)
 c1:w.cell? ⟨b,o+1,none⟩=some (.int .i64 x.n)
 c2:w.cell? ⟨b,o+2,none⟩=some (.string x.mod)
 c3:w.cell? ⟨b,o+3,none⟩=some (.string x.name)
 c4:w.cell? ⟨b,o+4,none⟩=some (.slice aa x.args.length cap)
 args:DAt w A aa x.args.length (zbi x.args)
 wop:(Lit.int .i64 x.op).wf=true
 wn:(Lit.int .i64 x.n).wf=true
 wm:x.mod.size<=maxLen
 wna:x.name.size<=maxLen
structure StAt (w:World) (A:Nat->Prop) (b o:Nat) (x:St) (a1:OA) (c1':Nat) (a2:OA) (c2':Nat) (a3:OA) (c3':Nat):Prop where
 lt:b<w.heap.size
 c0:w.cell? ⟨b,o,none⟩=some (.int .i64 x.op)
 c1:w.cell? ⟨b,o+1,none⟩=some (.string x.mod)
 c2:w.cell? ⟨b,o+2,none⟩=some (.string x.name)
 c3:w.cell? ⟨b,o+3,none⟩=some (.slice a1 x.args.length c1')
 c4:w.cell? ⟨b,o+4,none⟩=some (.slice a2 x.body.length c2')
 c5:w.cell? ⟨b,o+5,none⟩=some (.slice a3 x.other.length c3')
 args:DAt w A a1 x.args.length (zbi x.args)
 body:DAt w A a2 x.body.length (zbj x.body)
 other:DAt w A a3 x.other.length (zbj x.other)
 wop:(Lit.int .i64 x.op).wf=true
 wm:x.mod.size<=maxLen
 wna:x.name.size<=maxLen
theorem DAt.ex {w:World} {A:Nat->Prop} {a:OA} {l:List Ex} (h:DAt w A a l.length (zbi l)) (i:Nat) (hi:i<l.length):∃ b off aa cap,a=some ⟨b,off,none⟩/\ExAt w A b (off+i*5) l[i] aa cap:=by
 obtain ⟨b,off,ha,hb,hc⟩:=h.cell (by omega);generalize hx:l[i]=x;obtain ⟨op,n,mod,name,args⟩:=x
 have g:∀ j d,j<5->(Ex.mk op n mod name args).ds[j]? = some d->∃ v,w.cell? ⟨b,off+i*5+j,none⟩=some v/\zck w A d v:=fun j d hj hd=>by
  rw [vbs];exact hc (i*5+j) d ((zq5 l i hi j hj).trans (by rw [hx];exact hd))
 obtain ⟨v0,k0,d0⟩:=g 0 (.int op) (by omega) (by simp [Ex.ds]);obtain ⟨v1,k1,d1⟩:=g 1 (.int n) (by omega) (by simp [Ex.ds]);obtain ⟨v2,k2,d2⟩:=g 2 (.str mod) (by omega) (by simp [Ex.ds]);obtain ⟨v3,k3,d3⟩:=g 3 (.str name) (by omega) (by simp [Ex.ds]);obtain ⟨v4,k4,d4⟩:=g 4 (.list args.length (zbi args)) (by omega) (by simp [Ex.ds]);obtain ⟨rfl,w0⟩:=zbh d0;obtain ⟨rfl,w1⟩:=zbh d1;obtain ⟨rfl,w2⟩:=zcx d2;obtain ⟨rfl,w3⟩:=zcx d3;obtain ⟨aa,cap,rfl,hA⟩:=zaz d4;exact ⟨b,off,aa,cap,ha,hb,k0,k1,k2,k3,k4,hA,w0,w1,w2,w3⟩
theorem DAt.st {w:World} {A:Nat->Prop} {a:OA} {l:List St} (h:DAt w A a l.length (zbj l)) (i:Nat) (hi:i<l.length):∃ b off a1 c1 a2 c2 a3 c3,a=some ⟨b,off,none⟩/\StAt w A b (off+i*6) l[i] a1 c1 a2 c2 a3 c3:=by
 obtain ⟨b,off,ha,hb,hc⟩:=h.cell (by omega);generalize hx:l[i]=x;obtain ⟨op,mod,name,args,body,other⟩:=x
 have g:∀ j d,j<6->(St.mk op mod name args body other).ds[j]? = some d->∃ v,w.cell? ⟨b,off+i*6+j,none⟩=some v/\zck w A d v:=fun j d hj hd=>by
  rw [vbs];exact hc (i*6+j) d ((zq6 l i hi j hj).trans (by rw [hx];exact hd))
 obtain ⟨v0,k0,d0⟩:=g 0 (.int op) (by omega) (by simp [St.ds]);obtain ⟨v1,k1,d1⟩:=g 1 (.str mod) (by omega) (by simp [St.ds]);obtain ⟨v2,k2,d2⟩:=g 2 (.str name) (by omega) (by simp [St.ds]);obtain ⟨v3,k3,d3⟩:=g 3 (.list args.length (zbi args)) (by omega) (by simp [St.ds]);obtain ⟨v4,k4,d4⟩:=g 4 (.list body.length (zbj body)) (by omega) (by simp [St.ds]);obtain ⟨v5,k5,d5⟩:=g 5 (.list other.length (zbj other)) (by omega) (by simp [St.ds]);obtain ⟨rfl,w0⟩:=zbh d0;obtain ⟨rfl,w1⟩:=zcx d1;obtain ⟨rfl,w2⟩:=zcx d2;obtain ⟨a1,c1,rfl,h1⟩:=zaz d3;obtain ⟨a2,c2,rfl,h2⟩:=zaz d4;obtain ⟨a3,c3,rfl,h3⟩:=zaz d5;exact ⟨b,off,a1,c1,a2,c2,a3,c3,ha,hb,k0,k1,k2,k3,k4,k5,h1,h2,h3,w0,w1,w2⟩
structure De where
 kind:Int
 name:ByteArray
 pub:Bool
 n:Int
structure Pr where
 name:ByteArray
 pub:Bool
 params:List ByteArray
 locals:List ByteArray
 body:List St
structure Mo where
 name:ByteArray
 uses:List ByteArray
 decls:List De
 procs:List Pr
 main:List St
def De.ds (d:De):List D:=[.int d.kind,.str d.name,.bool d.pub,.int d.n]
def zal (l:List ByteArray):List D:=l.map .str
def Pr.ds (p:Pr):List D:=[.str p.name,.bool p.pub,.list p.params.length (zal p.params),.list p.locals.length (zal p.locals),.list p.body.length (zbj p.body)]
def Mo.ds (m:Mo):List D:=[.str m.name,.list m.uses.length (zal m.uses),.list m.decls.length (m.decls.flatMap De.ds),.list m.procs.length (m.procs.flatMap Pr.ds),.list m.main.length (zbj m.main)]
def zg1 (l:List Pr):List D:=l.flatMap Pr.ds
def zie (l:List De):List D:=l.flatMap De.ds
def z4m (l:List Mo):List D:=l.flatMap Mo.ds
theorem zdk {α:Type} (f:α->List D) (k:Nat) (hf:∀ x,(f x).length=k):∀ (l:List α) (i:Nat) (h:i<l.length) (j:Nat),j<k->(l.flatMap f)[i*k+j]? = (f l[i])[j]?
 | [],i,h,_,_=>by simp at h
 | x :: r,0,_,j,hj=>by
   have:=hf x;simp only [vbw,vbn];rw [vaw (by omega),vbh,vbc]
 | x :: r,i+1,h,j,hj=>by
   have:=hf x;have e:(i+1)*k=i*k+k:=ved i k;simp only [vbw,vbo];rw [vbb (by omega),show (i+1)*k+j - (f x).length=i*k+j from by omega];exact zdk f k hf r i (by simpa using h) j hj
structure DeAt (w:World) (b o:Nat) (x:De):Prop where
 lt:b<w.heap.size
 c0:w.cell? ⟨b,o,none⟩=some (.int .i64 x.kind)
 c1:w.cell? ⟨b,o+1,none⟩=some (.string x.name)
 c2:w.cell? ⟨b,o+2,none⟩=some (.bool x.pub)
 c3:w.cell? ⟨b,o+3,none⟩=some (.int .i64 x.n)
 wk:(Lit.int .i64 x.kind).wf=true
 wn:(Lit.int .i64 x.n).wf=true
 wna:x.name.size<=maxLen
structure PrAt (w:World) (A:Nat->Prop) (b o:Nat) (x:Pr) (a1:OA) (c1':Nat) (a2:OA) (c2':Nat) (a3:OA) (c3':Nat):Prop where
 lt:b<w.heap.size
 c0:w.cell? ⟨b,o,none⟩=some (.string x.name)
 c1:w.cell? ⟨b,o+1,none⟩=some (.bool x.pub)
 c2:w.cell? ⟨b,o+2,none⟩=some (.slice a1 x.params.length c1')
 c3:w.cell? ⟨b,o+3,none⟩=some (.slice a2 x.locals.length c2')
 c4:w.cell? ⟨b,o+4,none⟩=some (.slice a3 x.body.length c3')
 params:DAt w A a1 x.params.length (zal x.params)
 locals:DAt w A a2 x.locals.length (zal x.locals)
 body:DAt w A a3 x.body.length (zbj x.body)
 wna:x.name.size<=maxLen
structure MoAt (w:World) (A:Nat->Prop) (m:Mo) (v:Value) (a1:OA) (c1:Nat) (a2:OA) (c2:Nat) (a3:OA) (c3:Nat) (a4:OA) (c4:Nat):Prop where
 val:v = .agg #[.string m.name,.slice a1 m.uses.length c1,.slice a2 m.decls.length c2,.slice a3 m.procs.length c3,.slice a4 m.main.length c4]
 wna:m.name.size<=maxLen
 uses:DAt w A a1 m.uses.length (zal m.uses)
 decls:DAt w A a2 m.decls.length (zie m.decls)
 procs:DAt w A a3 m.procs.length (zg1 m.procs)
 main:DAt w A a4 m.main.length (zbj m.main)
theorem MoAt.later {w w':World} {A:Nat->Prop} {m:Mo} {v:Value} {a1 a2 a3 a4:OA} {c1 c2 c3 c4:Nat} (h:MoAt w A m v a1 c1 a2 c2 a3 c3 a4 c4) (hb:Below w.heap.size w w'):MoAt w' A m v a1 c1 a2 c2 a3 c3 a4 c4:=
 ⟨h.val,h.wna,h.uses.later hb,h.decls.later hb,h.procs.later hb,h.main.later hb⟩
theorem DAt.str {w:World} {A:Nat->Prop} {a:OA} {l:List ByteArray} (h:DAt w A a l.length (zal l)) (i:Nat) (hi:i<l.length):∃ b off,a=some ⟨b,off,none⟩/\b<w.heap.size/\w.cell? ⟨b,off+i,none⟩=some (.string l[i])/\l[i].size<=maxLen:=by
 obtain ⟨b,off,ha,hb,hc⟩:=h.cell (by omega);obtain ⟨v,hv,hd⟩:=hc i (.str l[i]) (by simp [zal,hi]);obtain ⟨rfl,h2⟩:=zcx hd;exact ⟨b,off,ha,hb,hv,h2⟩
theorem DAt.de {w:World} {A:Nat->Prop} {a:OA} {l:List De} (h:DAt w A a l.length (zie l)) (i:Nat) (hi:i<l.length):∃ b off,a=some ⟨b,off,none⟩/\DeAt w b (off+i*4) l[i]:=by
 obtain ⟨b,off,ha,hb,hc⟩:=h.cell (by omega);generalize hx:l[i]=x;obtain ⟨kind,name,pub,n⟩:=x
 have g:∀ j d,j<4->(De.mk kind name pub n).ds[j]? = some d->∃ v,w.cell? ⟨b,off+i*4+j,none⟩=some v/\zck w A d v:=fun j d hj hd=>by
  rw [vbs];exact hc (i*4+j) d ((zdk De.ds 4 (fun _=>rfl) l i hi j hj).trans (by rw [hx];exact hd))
 obtain ⟨v0,k0,d0⟩:=g 0 (.int kind) (by omega) (by simp [De.ds]);obtain ⟨v1,k1,d1⟩:=g 1 (.str name) (by omega) (by simp [De.ds]);obtain ⟨v2,k2,d2⟩:=g 2 (.bool pub) (by omega) (by simp [De.ds]);obtain ⟨v3,k3,d3⟩:=g 3 (.int n) (by omega) (by simp [De.ds]);obtain ⟨rfl,w0⟩:=zbh d0;obtain ⟨rfl,w1⟩:=zcx d1;obtain rfl:=zq3 d2;obtain ⟨rfl,w3⟩:=zbh d3;exact ⟨b,off,ha,hb,k0,k1,k2,k3,w0,w3,w1⟩
theorem DAt.pr {w:World} {A:Nat->Prop} {a:OA} {l:List Pr} (h:DAt w A a l.length (zg1 l)) (i:Nat) (hi:i<l.length):∃ b off a1 c1 a2 c2 a3 c3,a=some ⟨b,off,none⟩/\PrAt w A b (off+i*5) l[i] a1 c1 a2 c2 a3 c3:=by
 obtain ⟨b,off,ha,hb,hc⟩:=h.cell (by omega);generalize hx:l[i]=x;obtain ⟨name,pub,params,locals,body⟩:=x
 have g:∀ j d,j<5->(Pr.mk name pub params locals body).ds[j]? = some d->∃ v,w.cell? ⟨b,off+i*5+j,none⟩=some v/\zck w A d v:=fun j d hj hd=>by
  rw [vbs];exact hc (i*5+j) d ((zdk Pr.ds 5 (fun _=>rfl) l i hi j hj).trans (by rw [hx];exact hd))
 obtain ⟨v0,k0,d0⟩:=g 0 (.str name) (by omega) (by simp [Pr.ds]);obtain ⟨v1,k1,d1⟩:=g 1 (.bool pub) (by omega) (by simp [Pr.ds]);obtain ⟨v2,k2,d2⟩:=g 2 (.list params.length (zal params)) (by omega) (by simp [Pr.ds]);obtain ⟨v3,k3,d3⟩:=g 3 (.list locals.length (zal locals)) (by omega) (by simp [Pr.ds]);obtain ⟨v4,k4,d4⟩:=g 4 (.list body.length (zbj body)) (by omega) (by simp [Pr.ds]);obtain ⟨rfl,w0⟩:=zcx d0;obtain rfl:=zq3 d1;obtain ⟨a1,c1,rfl,h1⟩:=zaz d2;obtain ⟨a2,c2,rfl,h2⟩:=zaz d3;obtain ⟨a3,c3,rfl,h3⟩:=zaz d4;exact ⟨b,off,a1,c1,a2,c2,a3,c3,ha,hb,k0,k1,k2,k3,k4,h1,h2,h3,w0⟩
theorem DAt.mo {w:World} {A:Nat->Prop} {a:OA} {l:List Mo} (h:DAt w A a l.length (z4m l)) (i:Nat) (hi:i<l.length):∃ b off v a1 c1 a2 c2 a3 c3 a4 c4,a=some ⟨b,off,none⟩/\b<w.heap.size/\MoAt w A l[i] v a1 c1 a2 c2 a3 c3 a4 c4/\
 w.cell? ⟨b,off+i*5,none⟩=some (.string l[i].name)/\w.cell? ⟨b,off+i*5+1,none⟩=some (.slice a1 l[i].uses.length c1)/\w.cell? ⟨b,off+i*5+2,none⟩=some (.slice a2 l[i].decls.length c2)/\
 w.cell? ⟨b,off+i*5+3,none⟩=some (.slice a3 l[i].procs.length c3)/\w.cell? ⟨b,off+i*5+4,none⟩=some (.slice a4 l[i].main.length c4):=by
 obtain ⟨b,off,ha,hb,hc⟩:=h.cell (by omega);generalize hx:l[i]=x;obtain ⟨name,uses,decls,procs,main⟩:=x
 have g:∀ j d,j<5->(Mo.mk name uses decls procs main).ds[j]? = some d->∃ v,w.cell? ⟨b,off+i*5+j,none⟩=some v/\zck w A d v:=fun j d hj hd=>by
  rw [vbs];exact hc (i*5+j) d ((zdk Mo.ds 5 (fun _=>rfl) l i hi j hj).trans (by rw [hx];exact hd))
 obtain ⟨v0,k0,d0⟩:=g 0 (.str name) (by omega) (by simp [Mo.ds]);obtain ⟨v1,k1,d1⟩:=g 1 (.list uses.length (zal uses)) (by omega) (by simp [Mo.ds]);obtain ⟨v2,k2,d2⟩:=g 2 (.list decls.length (zie decls)) (by omega) (by simp [Mo.ds,zie]);obtain ⟨v3,k3,d3⟩:=g 3 (.list procs.length (zg1 procs)) (by omega) (by simp [Mo.ds,zg1]);obtain ⟨v4,k4,d4⟩:=g 4 (.list main.length (zbj main)) (by omega) (by simp [Mo.ds]);obtain ⟨rfl,w0⟩:=zcx d0;obtain ⟨a1,c1,rfl,h1⟩:=zaz d1;obtain ⟨a2,c2,rfl,h2⟩:=zaz d2;obtain ⟨a3,c3,rfl,h3⟩:=zaz d3;obtain ⟨a4,c4,rfl,h4⟩:=zaz d4;exact ⟨b,off,_,a1,c1,a2,c2,a3,c3,a4,c4,ha,hb,⟨rfl,w0,h1,h2,h3,h4⟩,k0,k1,k2,k3,k4⟩
mutual
def zfo (w:World) (A:Nat->Prop):D->Value->Prop
 | .int n,v=>v = .int .i64 n
 | .str s,v=>v = .string s/\s.size<=maxLen
 | .bool b,v=>v = .bool b
 | .list n ds,v=>∃ a cap,v = .slice a n cap/\(n=0\/∃ b off cs,a=some ⟨b,off,none⟩/\A b/\b<w.heap.size/\zfa w b off cs/\zaq w A ds cs)
def zaq (w:World) (A:Nat->Prop):List D->List Value->Prop
 | [],cs=>cs=[]
 | d :: ds,cs=>∃ v r,cs=v :: r/\zfo w A d v/\zaq w A ds r
end
mutual
theorem zfo.moves {A A':Nat->Prop} {w w':World} (hs:zag w A w' A'):∀ (d:D) (v:Value),zfo w A d v->zfo w' A' d v
 | .int _,_,h=>h
 | .str _,_,h=>h
 | .bool _,_,h=>h
 | .list n ds,v,h=>by
   unfold zfo at h ⊢;obtain ⟨a,cap,h1,h4⟩:=h;refine ⟨a,cap,h1,?_⟩
   rcases h4 with h4 | ⟨b,off,cs,ha,hl,hb,hc,hx⟩
   . exact Or.inl h4
   . exact Or.inr ⟨b,off,cs,ha,(hs.2 b hb hl).1,vac hb hs.1,hc.moves hs hl hb,zaq.moves hs ds cs hx⟩
theorem zaq.moves {A A':Nat->Prop} {w w':World} (hs:zag w A w' A'):∀ (l:List D) (cs:List Value),zaq w A l cs->zaq w' A' l cs
 | [],_,h=>h
 | d :: ds,cs,h=>by
   unfold zaq at h ⊢;obtain ⟨v,r,h1,h2,h3⟩:=h;exact ⟨v,r,h1,zfo.moves hs d v h2,zaq.moves hs ds r h3⟩
end
theorem zfo.one {w:World} {lo:Nat->Prop}:∀ {d:D} {v:Value},zfo w lo d v->v.oneCell'=true
 | .int _,_,h=>by unfold zfo at h;rw [h];rfl
 | .str _,_,h=>by unfold zfo at h;rw [h.1];rfl
 | .bool _,_,h=>by unfold zfo at h;rw [h];rfl
 | .list _ _,_,h=>by unfold zfo at h;obtain ⟨a,cap,h,_⟩:=h;rw [h];rfl
theorem zaq.one {w:World} {lo:Nat->Prop}:∀ {l:List D} {cs:List Value},zaq w lo l cs->∀ u ∈ cs,u.oneCell'=true
 | [],_,h=>by unfold zaq at h;rw [h];intro u hu;cases hu
 | d :: ds,cs,h=>by
   unfold zaq at h;obtain ⟨v,r,rfl,h2,h3⟩:=h;intro u hu
   rcases vci.1 hu with rfl | hu
   . exact h2.one
   . exact zaq.one h3 u hu
theorem zaq.len {w:World} {lo:Nat->Prop}:∀ {l:List D} {cs:List Value},zaq w lo l cs->cs.length=l.length
 | [],_,h=>by unfold zaq at h;rw [h];rfl
 | d :: ds,cs,h=>by
   unfold zaq at h;obtain ⟨v,r,rfl,h2,h3⟩:=h;simp [zaq.len h3]
theorem zaq.nil {w:World} {lo:Nat->Prop}:zaq w lo [] []:=by unfold zaq;rfl
theorem zaq.cons {w:World} {lo:Nat->Prop} {d:D} {ds:List D} {v:Value} {cs:List Value} (h:zfo w lo d v) (k:zaq w lo ds cs):zaq w lo (d :: ds) (v :: cs):=by
 unfold zaq;exact ⟨v,cs,rfl,h,k⟩
theorem zaq.append {w:World} {lo:Nat->Prop}:∀ {l m:List D} {cs es:List Value},zaq w lo l cs->zaq w lo m es->zaq w lo (l++m) (cs++es)
 | [],m,cs,es,h,k=>by unfold zaq at h;subst h;exact k
 | d :: ds,m,cs,es,h,k=>by
   unfold zaq at h;obtain ⟨v,r,rfl,h2,h3⟩:=h;exact zaq.cons h2 (zaq.append h3 k)
theorem zaq.get {w:World} {lo:Nat->Prop}:∀ {l:List D} {cs:List Value},zaq w lo l cs->∀ (j:Nat) (d:D),l[j]? = some d->∃ v,cs[j]? = some v/\zfo w lo d v
 | [],_,_,j,d,hj=>by simp at hj
 | e :: ds,cs,h,j,d,hj=>by
   unfold zaq at h;obtain ⟨v,r,rfl,h2,h3⟩:=h
   cases j with
   | zero=>simp at hj;subst hj;exact ⟨v,rfl,h2⟩
   | succ j=>simpa using zaq.get h3 j d (by simpa using hj)
theorem zmx {w:World} {lo:Nat->Prop} {n:Int}:zfo w lo (.int n) (.int .i64 n):=by unfold zfo;rfl
theorem zte {w:World} {lo:Nat->Prop} {s:ByteArray} (h:s.size<=maxLen):zfo w lo (.str s) (.string s):=by unfold zfo;exact ⟨rfl,h⟩
theorem z19 {w:World} {lo:Nat->Prop} {b:Bool}:zfo w lo (.bool b) (.bool b):=by unfold zfo;rfl
theorem zl7 {w:World} {lo:Nat->Prop} {n:Int} {v:Value} (h:zfo w lo (.int n) v):v = .int .i64 n:=by unfold zfo at h;exact h
theorem zvd {w:World} {lo:Nat->Prop} {s:ByteArray} {v:Value} (h:zfo w lo (.str s) v):v = .string s/\s.size<=maxLen:=by unfold zfo at h;exact h
def EAt (w:World) (lo:Nat->Prop) (a:OA) (n:Nat) (ds:List D):Prop:=n=0\/∃ b off cs,a=some ⟨b,off,none⟩/\lo b/\b<w.heap.size/\zfa w b off cs/\zaq w lo ds cs
theorem EAt.val {w:World} {lo:Nat->Prop} {n cap:Nat} {a:OA} {ds:List D} (h:EAt w lo a n ds):zfo w lo (.list n ds) (.slice a n cap):=by unfold zfo;exact ⟨a,cap,rfl,h⟩
theorem EAt.moves {A A':Nat->Prop} {w w':World} {n:Nat} {a:OA} {ds:List D} (h:EAt w A a n ds) (hs:zag w A w' A'):EAt w' A' a n ds:=by
 rcases h with h4 | ⟨b,off,cs,ha,hl,hb,hc,hx⟩
 . exact Or.inl h4
 . exact Or.inr ⟨b,off,cs,ha,(hs.2 b hb hl).1,vac hb hs.1,hc.moves hs hl hb,zaq.moves hs ds cs hx⟩
theorem EAt.of_own {w:World} {A:Nat->Prop} {base n cap:Nat} {a:OA} {e:TypeId} {size:Nat} {ds:List D} {xs:List Value} (h:w.ownsRow base e size (.slice a n cap) n xs) (hl:∀ b,base<=b->A b) (hx:zaq w A ds xs):EAt w A a n ds:=by
 rcases h.2 with ⟨h1,h2⟩ | ⟨g,cap',cur,h1,hb,hg,hn,hc,hs,ht⟩
 . exact Or.inl h2
 . injection h1 with h1 _ _
   refine Or.inr ⟨g,0,xs,h1,hl g hb,zab hg,fun j u hj=>?_,hx⟩;have:=h.cells (g:=g) (by rw [h1];rfl) j u hj;rw [vbc]
   have e:(⟨g,0,none⟩:Addr).add j=⟨g,j,none⟩:=by unfold Addr.add;split<;>simp_all
   rwa [e] at this
mutual
def D.fine:D->Prop
 | .int n=>(Lit.int .i64 n).wf=true
 | .str _=>True
 | .bool _=>True
 | .list n ds=>n<=ds.length/\ds.length<=17592186044416/\D.fines ds
def D.fines:List D->Prop
 | []=>True
 | d :: ds=>d.fine/\D.fines ds
end
mutual
theorem zfo.toD {A:Nat->Prop} {w:World}:∀ (d:D) (v:Value),zfo w A d v->d.fine->zck w A d v
 | .int _,_,h,k=>by unfold zfo at h;unfold D.fine at k;unfold zck;exact ⟨h,k⟩
 | .str _,_,h,_=>by unfold zfo at h;unfold zck;exact h
 | .bool _,_,h,_=>by unfold zfo at h;unfold zck;exact h
 | .list n ds,v,h,k=>by
   unfold zfo at h;unfold D.fine at k;unfold zck;obtain ⟨a,cap,h1,h4⟩:=h;refine ⟨a,cap,h1,k.1,k.2.1,?_⟩
   rcases h4 with h4 | ⟨b,off,cs,ha,hl,hb,hc,hx⟩
   . exact Or.inl h4
   . exact Or.inr ⟨b,off,cs,ha,hl,hb,hc,zaq.toD ds cs hx k.2.2⟩
theorem zaq.toD {A:Nat->Prop} {w:World}:∀ (l:List D) (cs:List Value),zaq w A l cs->D.fines l->DVals w A l cs
 | [],_,h,_=>by unfold zaq at h;unfold DVals;exact h
 | d :: ds,cs,h,k=>by
   unfold zaq at h;unfold D.fines at k;unfold DVals;obtain ⟨v,r,h1,h2,h3⟩:=h;exact ⟨v,r,h1,zfo.toD d v h2 k.1,zaq.toD ds r h3 k.2⟩
end
theorem EAt.toD {A:Nat->Prop} {w:World} {a:OA} {n:Nat} {ds:List D} (h:EAt w A a n ds) (h1:n<=ds.length) (h2:ds.length<=17592186044416) (k:D.fines ds):DAt w A a n ds:=by
 refine ⟨h1,h2,?_⟩
 rcases h with h | ⟨b,off,cs,ha,hl,hb,hc,hx⟩
 . exact Or.inl h
 . exact Or.inr ⟨b,off,cs,ha,hl,hb,hc,hx.toD _ _ k⟩
theorem D.fines_append:∀ {l m:List D},D.fines l->D.fines m->D.fines (l++m)
 | [],_,_,k=>k
 | d :: ds,m,h,k=>by
   unfold D.fines at h;show D.fines (d :: (ds++m));unfold D.fines;exact ⟨h.1,D.fines_append h.2 k⟩
inductive Nd where
 | mk (op n m at_:Int) (args:List Nd)
def Nd.op:Nd->Int | .mk op _ _ _ _=>op
def Nd.n:Nd->Int | .mk _ n _ _ _=>n
def Nd.m:Nd->Int | .mk _ _ m _ _=>m
def Nd.at_:Nd->Int | .mk _ _ _ a _=>a
def Nd.args:Nd->List Nd | .mk _ _ _ _ l=>l
inductive Ac where
 | mk (op n m at_:Int) (args:List Nd) (body other:List Ac)
def Ac.op:Ac->Int | .mk op _ _ _ _ _ _=>op
def Ac.n:Ac->Int | .mk _ n _ _ _ _ _=>n
def Ac.m:Ac->Int | .mk _ _ m _ _ _ _=>m
def Ac.at_:Ac->Int | .mk _ _ _ a _ _ _=>a
def Ac.args:Ac->List Nd | .mk _ _ _ _ l _ _=>l
def Ac.body:Ac->List Ac | .mk _ _ _ _ _ l _=>l
def Ac.other:Ac->List Ac | .mk _ _ _ _ _ _ l=>l
mutual
def Nd.ds:Nd->List D
 | .mk op n m a args=>[.int op,.int n,.int m,.int a,.list args.length (zcl args)]
def zcl:List Nd->List D
 | []=>[]
 | x :: r=>x.ds++zcl r
end
mutual
def Ac.ds:Ac->List D
 | .mk op n m a args body other=>[.int op,.int n,.int m,.int a,.list args.length (zcl args),.list body.length (zcg body),.list other.length (zcg other)]
def zcg:List Ac->List D
 | []=>[]
 | x :: r=>x.ds++zcg r
end
theorem Nd.ds_len (x:Nd):x.ds.length=5:=by cases x;unfold Nd.ds;rfl
theorem Ac.ds_len (x:Ac):x.ds.length=7:=by cases x;unfold Ac.ds;rfl
theorem zi8:∀ (l m:List Nd),zcl (l++m)=zcl l++zcl m
 | [],m=>by simp [zcl]
 | x :: r,m=>by simp [zcl,zi8 r m]
theorem zi9:∀ (l m:List Ac),zcg (l++m)=zcg l++zcg m
 | [],m=>by simp [zcg]
 | x :: r,m=>by simp [zcg,zi9 r m]
theorem zx1 (x:Nd):zcl [x]=x.ds:=by simp [zcl]
theorem zx2 (x:Ac):zcg [x]=x.ds:=by simp [zcg]
structure Pt where
 params:Int
 locals:Int
 body:List Ac
def Pt.ds (p:Pt):List D:=[.int p.params,.int p.locals,.list p.body.length (zcg p.body)]
def zjt (l:List Pt):List D:=l.flatMap Pt.ds
structure Un where
 name:ByteArray
 uses:List ByteArray
 data:Int
 parts:List Pt
 main:List Ac
structure Mg where
 kind:Int
 n:Int
 m:Int
 at_:Int
def mg0:Mg:=⟨0,0,0,0⟩
abbrev Kn:=ByteArray->ByteArray->Option Mg
abbrev Lc:=ByteArray->Option Int
def z2a (K:Kn) (L:Lc) (mod name:ByteArray):Option Mg:=
 if mod.size=0 then (match L name with | some a=>some ⟨0,0,0,a⟩ | none=>K mod name) else K mod name
def findM (K:Kn) (L:Lc) (mod name:ByteArray) (ks:List Int):Mg × Int:=
 match z2a K L mod name with
 | none=>(mg0,5)
 | some x=>if ks.contains x.kind then (x,0) else (mg0,7)
def zhk (K:Kn) (L:Lc) (mod name:ByteArray) (handed:Int):Mg × Int:=
 if (findM K L mod name [4]).2=0/\(findM K L mod name [4]).1.n≠handed then (mg0,8) else findM K L mod name [4]
structure Al where
 op:Int
 n:Int
 m:Int
 at_:Int
 err:Int
def z1b (K:Kn) (L:Lc) (mod name:ByteArray):Al:=
 if (findM K L mod name [0,1,2]).2≠0 then ⟨0,0,0,0,(findM K L mod name [0,1,2]).2⟩
 else if (findM K L mod name [0,1,2]).1.kind=1 then ⟨1,(findM K L mod name [0,1,2]).1.n,0,0,0⟩
 else if (findM K L mod name [0,1,2]).1.kind=2 then ⟨3,0,(findM K L mod name [0,1,2]).1.m,(findM K L mod name [0,1,2]).1.at_,0⟩
 else ⟨16,0,0,(findM K L mod name [0,1,2]).1.at_,0⟩
def ndM (K:Kn) (L:Lc) (x:Ex):Al:=
 if x.op=3 then z1b K L x.mod x.name
 else if x.op=4 then ⟨4,(findM K L x.mod x.name [3]).1.n,(findM K L x.mod x.name [3]).1.m,(findM K L x.mod x.name [3]).1.at_,(findM K L x.mod x.name [3]).2⟩
 else if x.op=5 then ⟨5,0,(zhk K L x.mod x.name x.args.length).1.m,(zhk K L x.mod x.name x.args.length).1.at_,(zhk K L x.mod x.name x.args.length).2⟩
 else ⟨x.op,x.n,0,0,0⟩
def acM (K:Kn) (L:Lc) (s:St):Al:=
 if s.op=1 then ⟨1,0,if (findM K L s.mod s.name [0,2]).1.kind=0 then -1 else (findM K L s.mod s.name [0,2]).1.m,(findM K L s.mod s.name [0,2]).1.at_,(findM K L s.mod s.name [0,2]).2⟩
 else if s.op=2 then ⟨2,(findM K L s.mod s.name [3]).1.n,(findM K L s.mod s.name [3]).1.m,(findM K L s.mod s.name [3]).1.at_,(findM K L s.mod s.name [3]).2⟩
 else if s.op=3 then ⟨3,0,(zhk K L s.mod s.name s.args.length).1.m,(zhk K L s.mod s.name s.args.length).1.at_,(zhk K L s.mod s.name s.args.length).2⟩
 else ⟨s.op,0,0,0,0⟩
def zcq {α β:Type}:Except Int α->(α->Except Int β)->Except Int β
 | .error e,_=>.error e
 | .ok a,f=>f a
def alE (a:Al):Except Int Al:=if a.err=0 then .ok a else .error a.err
mutual
def rsE (K:Kn) (L:Lc):Ex->Except Int Nd
 | .mk op n mod name args=>zcq (alE (ndM K L (.mk op n mod name args))) fun h=>zcq (zfy K L args) fun l=>.ok (.mk h.op h.n h.m h.at_ l)
def zfy (K:Kn) (L:Lc):List Ex->Except Int (List Nd)
 | []=>.ok []
 | x :: r=>zcq (rsE K L x) fun y=>zcq (zfy K L r) fun l=>.ok (y :: l)
end
mutual
def rsS (K:Kn) (L:Lc):St->Except Int Ac
 | .mk op mod name args body other=>zcq (alE (acM K L (.mk op mod name args body other))) fun h=>zcq (zfy K L args) fun l=>zcq (zes K L body) fun b=>zcq (zes K L other) fun o=>.ok (.mk h.op h.n h.m h.at_ l b o)
def zes (K:Kn) (L:Lc):List St->Except Int (List Ac)
 | []=>.ok []
 | x :: r=>zcq (rsS K L x) fun y=>zcq (zes K L r) fun l=>.ok (y :: l)
end
theorem zl8 {α:Type} (x:Except Int α):zcq x .ok=x:=by cases x<;>rfl
theorem zl9 (K:Kn) (L:Lc):∀ (a b:List Ex) (acc:List Nd),zfy K L a = .ok acc->zfy K L (a++b)=zcq (zfy K L b) fun l=>.ok (acc++l)
 | [],b,acc,h=>by
   rw [zfy] at h;obtain rfl:=vcx h;show zfy K L b=_;exact (zl8 _).symm
 | x :: a,b,acc,h=>by
   rw [zfy] at h;show zfy K L (x :: (a++b))=_;rw [zfy]
   cases hx:rsE K L x with
   | error e=>rw [hx] at h;cases h
   | ok y=>
     rw [hx] at h;simp only [zcq] at h ⊢
     cases ha:zfy K L a with
     | error e=>rw [ha] at h;cases h
     | ok l=>
       rw [ha] at h;obtain rfl:=vcx h;rw [zl9 K L a b l ha]
       cases zfy K L b<;>rfl
theorem zma (K:Kn) (L:Lc):∀ (a b:List St) (acc:List Ac),zes K L a = .ok acc->zes K L (a++b)=zcq (zes K L b) fun l=>.ok (acc++l)
 | [],b,acc,h=>by
   rw [zes] at h;obtain rfl:=vcx h;show zes K L b=_;exact (zl8 _).symm
 | x :: a,b,acc,h=>by
   rw [zes] at h;show zes K L (x :: (a++b))=_;rw [zes]
   cases hx:rsS K L x with
   | error e=>rw [hx] at h;cases h
   | ok y=>
     rw [hx] at h;simp only [zcq] at h ⊢
     cases ha:zes K L a with
     | error e=>rw [ha] at h;cases h
     | ok l=>
       rw [ha] at h;obtain rfl:=vcx h;rw [zma K L a b l ha]
       cases zes K L b<;>rfl
theorem zmb {α:Type} (l:List α) (j:Nat) (h:j<l.length):l=l.take j++l[j] :: l.drop (j+1):=by
 rw [List.getElem_cons_drop,vde]
theorem zx3 {K:Kn} {L:Lc} {l:List Ex} {j:Nat} {acc:List Nd} {e:Int} (h:j<l.length) (ha:zfy K L (l.take j) = .ok acc) (he:rsE K L l[j] = .error e):zfy K L l = .error e:=by
 rw [zmb l j h,zl9 K L _ _ acc ha,zfy,he];rfl
theorem zve {K:Kn} {L:Lc} {l:List Ex} {j:Nat} {acc:List Nd} {y:Nd} (h:j<l.length) (ha:zfy K L (l.take j) = .ok acc) (he:rsE K L l[j] = .ok y):zfy K L (l.take (j+1)) = .ok (acc++[y]):=by
 rw [vaf h,zl9 K L _ _ acc ha,zfy,he];rfl
theorem zx4 {K:Kn} {L:Lc} {l:List St} {j:Nat} {acc:List Ac} {e:Int} (h:j<l.length) (ha:zes K L (l.take j) = .ok acc) (he:rsS K L l[j] = .error e):zes K L l = .error e:=by
 rw [zmb l j h,zma K L _ _ acc ha,zes,he];rfl
theorem zvf {K:Kn} {L:Lc} {l:List St} {j:Nat} {acc:List Ac} {y:Ac} (h:j<l.length) (ha:zes K L (l.take j) = .ok acc) (he:rsS K L l[j] = .ok y):zes K L (l.take (j+1)) = .ok (acc++[y]):=by
 rw [vaf h,zma K L _ _ acc ha,zes,he];rfl
theorem zvg (K:Kn) (L:Lc) (x:Ex):rsE K L x=zcq (alE (ndM K L x)) fun h=>zcq (zfy K L x.args) fun l=>.ok (.mk h.op h.n h.m h.at_ l):=by
 obtain ⟨op,n,mod,name,args⟩:=x;rw [rsE];rfl
theorem znw (K:Kn) (L:Lc) (x:St):rsS K L x=zcq (alE (acM K L x)) fun h=>zcq (zfy K L x.args) fun l=>zcq (zes K L x.body) fun b=>zcq (zes K L x.other) fun o=>.ok (.mk h.op h.n h.m h.at_ l b o):=by
 obtain ⟨op,mod,name,args,body,other⟩:=x;rw [rsS];rfl
structure Sh where
 named:Bool
 number:Bool
 least:Int
 most:Int
 body:Bool
 other:Bool
def Sh.val (s:Sh):Value:=.agg #[.bool s.named,.bool s.number,.int .i64 s.least,.int .i64 s.most,.bool s.body,.bool s.other]
def sh0:Sh:=⟨false,false,0,0,false,false⟩
def zhl (op:Int):Option Sh:=
 if op=1 then some ⟨false,true,0,0,false,false⟩ else if op=2 then some sh0 else if op=3 then some ⟨true,false,0,0,false,false⟩
 else if op=4 then some ⟨true,false,1,1,false,false⟩ else if op=5 then some ⟨true,false,0,3,false,false⟩ else if op=6 then some ⟨false,false,1,1,false,false⟩
 else if 7<=op/\op<=15 then some ⟨false,false,2,2,false,false⟩ else none
def zju (op:Int):Option Sh:=
 if op=1 then some ⟨true,false,1,1,false,false⟩ else if op=2 then some ⟨true,false,2,2,false,false⟩ else if op=3 then some ⟨true,false,0,3,false,false⟩
 else if op=4 then some ⟨false,false,1,1,true,true⟩ else if op=5 then some ⟨false,false,1,1,true,false⟩ else if op=6 then some ⟨false,false,1,1,false,false⟩
 else if op=7 then some ⟨false,false,1,1,false,false⟩ else none
def exB (op:Int):Bool:=(zhl op).isSome
def stB (op:Int):Bool:=(zju op).isSome
def exS (op:Int):Sh:=(zhl op).getD sh0
def stS (op:Int):Sh:=(zju op).getD sh0
def kept:List (L8):=[[109,111,100,117,108,101],[117,115,101],[112,117,98],[99,111,110,115,116],[118,97,114],[97,114,114,97,121],[112,114,111,99],[108,111,99,97,108],[109,97,105,110],
 [105,102],[101,108,115,101],[119,104,105,108,101],[114,101,116,117,114,110],[111,117,116],[105,110]]
def znx (s:ByteArray):Bool:=kept.contains s.data.toList
def nameOk (s:ByteArray):Bool:=!znx s&&Lx.zcc s.data.toList
def numOkB (n:Int):Bool:=decide (0<=n)&&decide (n<=1099511627775)
def zci (h:Sh) (mod name:ByteArray):Bool:=if h.named then nameOk name&&(decide (mod.size=0)||nameOk mod) else decide (mod.size=0)&&decide (name.size=0)
def nOk (h:Sh) (n:Int):Bool:=if h.number then numOkB n else decide (n=0)
def za3 (h:Sh) (k:Nat):Bool:=decide (h.least<=(k:Int))&&decide ((k:Int)<=h.most)
def za4:Nat->List Ex->Bool
 | 0,_=>true
 | k+1,l=>l.all (fun x=>exB x.op&&za4 k x.args)
def zao:Nat->List St->Bool
 | 0,_=>true
 | k+1,l=>l.all (fun s=>stB s.op&&(za4 6 s.args&&(zao k s.body&&zao k s.other)))
def zan:Nat->List Ex->Bool
 | 0,l=>decide (0<l.length)
 | k+1,l=>decide (3<l.length)||l.any (fun x=>zan k x.args)
def zah:Nat->List St->Bool
 | 0,_=>true
 | k+1,l=>decide (10<l.length)||l.any (fun s=>zan 6 s.args||(((stS s.op).body||decide (0<s.body.length))&&zah k s.body||(decide (0<s.other.length)&&zah k s.other)))
def za9:Nat->List Ex->Bool
 | 0,_=>true
 | k+1,l=>l.all (fun x=>zci (exS x.op) x.mod x.name&&(nOk (exS x.op) x.n&&(za3 (exS x.op) x.args.length&&za9 k x.args)))
def zap:Nat->List St->Bool
 | 0,_=>true
 | k+1,l=>l.all (fun s=>zci (stS s.op) s.mod s.name&&(za3 (stS s.op) s.args.length&&(za9 6 s.args&&(((stS s.op).body||decide (s.body.length=0))&&(((stS s.op).other||decide (s.other.length=0))&&(zap k s.body&&zap k s.other))))))
def zdf (d:De):Bool:=if d.kind=1 then numOkB d.n else if d.kind=3 then decide (1<=d.n)&&decide (d.n<=32) else decide (d.n=0)
def Mo.bodies (m:Mo):List (List St):=m.procs.map Pr.body++[m.main]
def Mo.kinds (m:Mo):Bool:=m.decls.all (fun d=>decide (1<=d.kind)&&decide (d.kind<=3))&&m.bodies.all (zao 6)
def Mo.many (m:Mo):Bool:=decide (3<m.uses.length)||(decide (10<m.decls.length)||(decide (6<m.procs.length)||(m.procs.any (fun p=>decide (3<p.params.length)||decide (4<p.locals.length))||m.bodies.any (zah 6))))
def Mo.form (m:Mo):Bool:=nameOk m.name&&(m.uses.all nameOk&&(m.decls.all (fun d=>nameOk d.name&&zdf d)&&(m.procs.all (fun p=>nameOk p.name&&(p.params.all nameOk&&p.locals.all nameOk))&&m.bodies.all (zap 6))))
def Mo.err (m:Mo):Int:=if m.kinds then (if m.many then 2 else (if m.form then 0 else 1)) else 4
theorem zif {α:Type} (ts:List α) (p:α->Bool) (k:Nat) (h:k<ts.length):(ts.take (k+1)).any p=((ts.take k).any p||p ts[k]):=by
 rw [vaf h,List.any_append];simp
theorem zq7 {α:Type} (ts:List α) (p:α->Bool) (k:Nat) (h:k<ts.length) (hp:p ts[k]=true):ts.any p=true:=by
 rw [vdr];exact ⟨ts[k],vah _,hp⟩
theorem zb1 {α:Type} {ts:List α} {p:α->Bool} {k:Nat} (h:(ts.take k).all p=true) (hk:¬ k<ts.length):ts.all p=true:=by
 rw [vao (by omega)] at h;exact h
theorem zmc {α:Type} {ts:List α} {p:α->Bool} {k:Nat} (h:(ts.take k).any p=false) (hk:¬ k<ts.length):ts.any p=false:=by
 rw [vao (by omega)] at h;exact h
set_option maxRecDepth 100000
set_option maxHeartbeats 1600000
theorem zx5 (s:ByteArray):znx s=((s.toList == [109,111,100,117,108,101])||((s.toList == [117,115,101])||((s.toList == [112,117,98])||((s.toList == [99,111,110,115,116])||((s.toList == [118,97,114])||((s.toList == [97,114,114,97,121])||((s.toList == [112,114,111,99])||((s.toList == [108,111,99,97,108])||((s.toList == [109,97,105,110]) ||
 ((s.toList == [105,102])||((s.toList == [101,108,115,101])||((s.toList == [119,104,105,108,101])||((s.toList == [114,101,116,117,114,110])||((s.toList == [111,117,116])||((s.toList == [105,110])||false))))))))))))))):=by
 unfold znx kept;rw [vax];simp only [List.contains_cons,List.contains_nil]
theorem zk3 (s:ByteArray) (w:World) :
 Calls Tryz.prog 237 #[.string s] w fun e w'=>e = .returned (.bool (znx s))/\w'=w:=by
 go_enter Tryz.func237,Tryz.ntmps237;go_wp2_with fail
 all_goals go_ret
 all_goals refine ⟨zaa ?_,rfl⟩
 all_goals rw [zx5]
 all_goals simp only [*,Bool.true_or,Bool.false_or,Bool.or_true]
 all_goals simp_all only [vco]
theorem zq8 (w:World) (o:Obj):(w.alloc o).heap[w.heap.size]? = some o:=(MapKept.heap_alloc w o).1
theorem zsr (t:Tk) (hk:zdh t=true):(zc4 [t] == 0)=t.okB:=by
 unfold zc4;simp only [vcm,vdk,hk,Bool.and_true,if_true,vat,vdu]
 cases t.okB<;>rfl
theorem z0c (t:Tk) (w:World) (hs:t.text.size<=maxLen):zcn (w.alloc (.cells #[.int .i64 t.kind,.int .i64 t.n,.string t.text] 184)) (some ⟨w.heap.size,0,none⟩) [t]:=by
 have h:∀ j u,#[Value.int .i64 t.kind,.int .i64 t.n,.string t.text][j]? = some u->(w.alloc (.cells #[.int .i64 t.kind,.int .i64 t.n,.string t.text] 184)).cell? ⟨w.heap.size,j,none⟩=some u:=fun j u hj=>by
  rw [vee (zq8 w _)];exact hj
 refine Or.inr ⟨_,0,rfl,by simp,?_,?_,?_,?_⟩
 . intro i hi
   obtain rfl:i=0:=by simpa using hi
   exact h 0 _ rfl
 . intro i hi
   obtain rfl:i=0:=by simpa using hi
   exact h 1 _ rfl
 . intro i hi
   obtain rfl:i=0:=by simpa using hi
   exact h 2 _ rfl
 . intro i hi
   obtain rfl:i=0:=by simpa using hi
   exact hs
theorem zny (t:Tk) (w:World) (hs:t.text.size<=maxLen) (hk:zdh t=true) :
 Calls Tryz.prog 238 #[t.val] w fun e w'=>e = .returned (.bool t.okB)/\Below w.heap.size w w':=by
 have HK:Hid ((zc4 [t] == 0)=t.okB):=zsr t hk
 have HC:Hid (∀ (w1:World) (n:Nat),n=w1.heap.size->Calls Tryz.prog 116 #[.slice (some ⟨n,0,none⟩) 1 1] (w1.alloc (.cells #[.int .i64 t.kind,.int .i64 t.n,.string t.text] 184)) fun e w'=>e = .returned (.int .i64 (zc4 [t]))/\Below w1.heap.size w1 w'):=
  fun w1 n hn=>by
   subst hn;refine (zub _ 1 [t] _ (z0c t w1 hs) (by simp)).mono ?_;rintro e w' ⟨rfl,hb⟩;exact ⟨rfl,((Below.refl _ _).alloc (vaa _) _).trans (hb.mono (by simp))⟩
 obtain ⟨K,N,S⟩:=t;simp only [Tk.val] at *;go_enter Tryz.func238,Tryz.ntmps238
 go_wp2_with (go_at_call 116;refine (HC.out _ _ (by simp)).mono ?_;rintro e w' ⟨rfl,hb⟩)
 go_ret;exact ⟨zaa HK.out,((Below.refl _ _).alloc (vaa _) _).trans (hb.mono (by simp))⟩
theorem zx6 (s:ByteArray):Tk.okB ⟨1,0,s⟩=Lx.zcc s.data.toList:=by simp [Tk.okB]
theorem z0d (n:Int):Tk.okB ⟨2,n,⟨#[]⟩⟩=numOkB n:=by simp [Tk.okB,numOkB,vax]
theorem zc7 (s:ByteArray) (w:World) (hs:s.size<=maxLen) :
 Calls Tryz.prog 186 #[.string s] w fun e w'=>e = .returned (.bool (nameOk s))/\Below w.heap.size w w':=by
 have HC:Hid (∀ w1:World,Calls Tryz.prog 238 #[.agg #[.int .i64 1,.int .i64 0,.string s]] w1 fun e w'=>e = .returned (.bool (Lx.zcc s.data.toList))/\Below w1.heap.size w1 w'):=fun w1=>by
  rw [← zx6];exact zny ⟨1,0,s⟩ w1 hs rfl
 by_cases hk:znx s=true
 . have HN:Hid (nameOk s=false):=by show _=_;simp [nameOk,hk]
   go_enter Tryz.func186,Tryz.ntmps186
   go_wp2_with (go_at_call 237;refine (zk3 s _).mono ?_;rintro e w' ⟨rfl,rfl⟩)
   go_ret;exact ⟨zaa (by rw [HN.out]),Below.refl _ _⟩
 . have hk':znx s=false:=by simpa using hk
   clear hk
   have HN:Hid (nameOk s=Lx.zcc s.data.toList):=by show _=_;simp [nameOk,hk']
   go_enter Tryz.func186,Tryz.ntmps186
   go_wp2_with (first | (go_at_call 237;refine (zk3 s _).mono ?_;rintro e w' ⟨rfl,rfl⟩) | (go_at_call 238;refine (HC.out _).mono ?_;rintro e w' ⟨rfl,hb⟩))
   go_ret;exact ⟨zaa (by rw [HN.out]),hb⟩
theorem zja (n:Int) (w:World) :
 Calls Tryz.prog 241 #[.int .i64 n] w fun e w'=>e = .returned (.bool (numOkB n))/\Below w.heap.size w w':=by
 have HC:Hid (∀ w1:World,Calls Tryz.prog 238 #[.agg #[.int .i64 2,.int .i64 n,.string ⟨#[]⟩]] w1 fun e w'=>e = .returned (.bool (numOkB n))/\Below w1.heap.size w1 w'):=fun w1=>by
  rw [← z0d];exact zny ⟨2,n,⟨#[]⟩⟩ w1 (vad _) rfl
 go_enter Tryz.func241,Tryz.ntmps241
 go_wp2_with (go_at_call 238;refine (HC.out _).mono ?_;rintro e w' ⟨rfl,hb⟩)
 go_ret;exact ⟨rfl,hb⟩
theorem zhm (s:ByteArray):s.toList.isEmpty=decide (s.size=0):=by
 rw [vax];have h:=Lx.zau s
 cases hl:s.data.toList with
 | nil=>rw [hl] at h;have h':s.size=0:=h.symm;simp [h']
 | cons c r => rw [hl] at h;have h':s.size≠0:=by simp at h;omega
               simp [h']
theorem zhx (h:Sh) (mod name:ByteArray) (w:World) (h1:mod.size<=maxLen) (h2:name.size<=maxLen) :
 Calls Tryz.prog 242 #[h.val,.string mod,.string name] w fun e w'=>e = .returned (.bool (zci h mod name))/\Below w.heap.size w w':=by
 obtain ⟨a,b,c,d,e,f⟩:=h;simp only [Sh.val]
 cases a with
 | false=>
   have HR:Hid (zci ⟨false,b,c,d,e,f⟩ mod name=(mod.toList.isEmpty&&name.toList.isEmpty)):=by show _=_;simp [zci,zhm]
   cases hm:mod.toList.isEmpty with
   | false=>
     go_enter Tryz.func242,Tryz.ntmps242;go_wp2_with fail;go_ret;exact ⟨zaa (by rw [HR.out,hm];rfl),(Below.refl _ _).alloc (vaa _) _⟩
   | true=>
     go_enter Tryz.func242,Tryz.ntmps242;go_wp2_with fail;go_ret;exact ⟨zaa (by rw [HR.out,hm];rfl),(Below.refl _ _).alloc (vaa _) _⟩
 | true=>
   have HR:Hid (zci ⟨true,b,c,d,e,f⟩ mod name=(nameOk name&&(mod.toList.isEmpty||nameOk mod))):=by show _=_;simp [zci,zhm]
   cases hn:nameOk name with
   | false=>
     go_enter Tryz.func242,Tryz.ntmps242
     go_wp2_with (go_at_call 186;refine (zc7 name _ h2).mono ?_;rw [hn];rintro e w' ⟨rfl,hb⟩)
     go_ret;exact ⟨zaa (by rw [HR.out,hn];rfl),((Below.refl _ _).alloc (vaa _) _).trans (hb.mono (by simp))⟩
   | true=>
     cases hm:mod.toList.isEmpty with
     | true=>
       go_enter Tryz.func242,Tryz.ntmps242
       go_wp2_with (go_at_call 186;refine (zc7 name _ h2).mono ?_;rw [hn];rintro e w' ⟨rfl,hb⟩)
       go_ret;exact ⟨zaa (by rw [HR.out,hn,hm];rfl),((Below.refl _ _).alloc (vaa _) _).trans (hb.mono (by simp))⟩
     | false=>
       go_enter Tryz.func242,Tryz.ntmps242;go_wp2_with fail;refine (zc7 name _ h2).mono ?_;rw [hn];rintro e w1 ⟨rfl,hb⟩;go_wp2_with fail;refine (zc7 mod _ h1).mono ?_;rintro e w2 ⟨rfl,hb2⟩;go_wp2_with fail;go_ret;exact ⟨zaa (by rw [HR.out,hn,hm];simp),(((Below.refl _ _).alloc (vaa _) _).trans (hb.mono (by simp))).trans (hb2.mono (vav (by simp) hb.size))⟩
theorem zjb (h:Sh) (n:Int) (w:World) :
 Calls Tryz.prog 280 #[h.val,.int .i64 n] w fun e w'=>e = .returned (.bool (nOk h n))/\Below w.heap.size w w':=by
 obtain ⟨a,b,c,d,e,f⟩:=h;simp only [Sh.val]
 cases b with
 | false=>
   have HR:Hid (nOk ⟨a,false,c,d,e,f⟩ n=(n == 0)):=by show _=_;rw [vcr];simp [nOk]
   go_enter Tryz.func280,Tryz.ntmps280;go_wp2_with fail;go_ret;exact ⟨zaa HR.out.symm,(Below.refl _ _).alloc (vaa _) _⟩
 | true=>
   have HR:Hid (nOk ⟨a,true,c,d,e,f⟩ n=numOkB n):=by show _=_;simp [nOk]
   go_enter Tryz.func280,Tryz.ntmps280
   go_wp2_with (go_at_call 241;refine (zja n _).mono ?_;rintro e w' ⟨rfl,hb⟩)
   go_ret;exact ⟨zaa HR.out.symm,((Below.refl _ _).alloc (vaa _) _).trans (hb.mono (by simp))⟩
theorem zf2 (h:Sh) (aa:OA) (k cap:Nat) (w:World) :
 Calls Tryz.prog 243 #[h.val,.slice aa k cap] w fun e w'=>e = .returned (.bool (za3 h k))/\Below w.heap.size w w':=by
 obtain ⟨a,b,c,d,e,f⟩:=h;simp only [Sh.val];have HR:Hid (za3 ⟨a,b,c,d,e,f⟩ k=(decide (c<=(k:Int))&&decide ((k:Int)<=d))):=rfl
 by_cases h1:c<=(k:Int)
 . go_enter Tryz.func243,Tryz.ntmps243
   go_wp2_with fail
   all_goals go_ret
   all_goals exact ⟨zaa (by rw [HR.out];simp [*]<;>omega),(Below.refl _ _).alloc (vaa _) _⟩
 . go_enter Tryz.func243,Tryz.ntmps243
   go_wp2_with fail
   all_goals go_ret
   all_goals exact ⟨zaa (by rw [HR.out];simp [*]<;>omega),(Below.refl _ _).alloc (vaa _) _⟩
theorem zmd (x:De) (w:World) :
 Calls Tryz.prog 188 #[.agg #[.int .i64 x.kind,.string x.name,.bool x.pub,.int .i64 x.n]] w fun e w'=>e = .returned (.bool (zdf x))/\Below w.heap.size w w':=by
 obtain ⟨K,S,B,N⟩:=x
 by_cases k1:K=1
 . have HR:Hid (zdf ⟨K,S,B,N⟩=numOkB N):=if_pos k1
   subst k1;go_enter Tryz.func188,Tryz.ntmps188
   go_wp2_with (go_at_call 241;refine (zja N _).mono ?_;rintro e w' ⟨rfl,hb⟩)
   go_ret;exact ⟨zaa HR.out.symm,((Below.refl _ _).alloc (vaa _) _).trans (hb.mono (by simp))⟩
 . have b1:(K == 1)=false:=beq_eq_false_iff_ne.2 k1
   by_cases k3:K=3
   . have HR:Hid (zdf ⟨K,S,B,N⟩=(decide (1<=N)&&decide (N<=32))):=(if_neg k1).trans (if_pos k3)
     subst k3;clear k1 b1
     by_cases n1:1<=N
     . go_enter Tryz.func188,Tryz.ntmps188
       go_wp2_with fail
       all_goals go_ret
       all_goals exact ⟨zaa (by rw [HR.out];simp [*]<;>omega),(Below.refl _ _).alloc (vaa _) _⟩
     . go_enter Tryz.func188,Tryz.ntmps188
       go_wp2_with fail
       all_goals go_ret
       all_goals exact ⟨zaa (by rw [HR.out];simp [*]<;>omega),(Below.refl _ _).alloc (vaa _) _⟩
   . have b3:(K == 3)=false:=beq_eq_false_iff_ne.2 k3
     have HR:Hid (zdf ⟨K,S,B,N⟩=(N == 0)):=by
      show _=_
      rw [vcr];simp [zdf,k1,k3]
     clear k1 k3;go_enter Tryz.func188,Tryz.ntmps188;go_wp2_with fail
     all_goals go_ret
     all_goals exact ⟨zaa (by rw [HR.out]),(Below.refl _ _).alloc (vaa _) _⟩
end Go.Proofs.YtndkhgakfodldaaGreatDoor
