import Derived.Test.YtndkhgakfodldaaGreatDoorLeafc
import Derived.Deep.AppendLies
namespace Go.Proofs.YtndkhgakfodldaaGreatDoor
open Go.RowKit
inductive D where
 | int (n:Int)
 | str (s:ByteArray)
 | bool (b:Bool)
 | list (n:Nat) (ds:List D)
def zfa (w:World) (b off:Nat) (l:List Value):Prop:=∀ j u,l[j]? = some u->w.cell? ⟨b,off+j,none⟩=some u
mutual
def zcl (w:World) (A:Nat->Prop):D->Value->Prop
 | .int n,v=>v = .int .i64 n/\(Lit.int .i64 n).wf=true
 | .str s,v=>v = .string s/\s.size<=maxLen
 | .bool b,v=>v = .bool b
 | .list n ds,v=>∃ a cap,v = .slice a n cap/\n<=ds.length/\ds.length<=17592186044416/\(n=0\/∃ b off cs,a=some ⟨b,off,none⟩/\A b/\b<w.heap.size/\zfa w b off cs/\zao w A ds cs)
def zao (w:World) (A:Nat->Prop):List D->List Value->Prop
 | [],cs=>cs=[]
 | d :: ds,cs=>∃ v r,cs=v :: r/\zcl w A d v/\zao w A ds r
end
def zfb (lo:Nat) (w w':World):Prop:=w.heap.size<=w'.heap.size/\∀ k,lo<=k->k<w.heap.size->w'.heap[k]? = w.heap[k]?
theorem zfb.refl (lo:Nat) (w:World):zfb lo w w:=⟨vaa _,fun _ _ _=>rfl⟩
theorem zfb.trans {lo:Nat} {a b c:World} (h:zfb lo a b) (k:zfb lo b c):zfb lo a c:=
 ⟨vav h.1 k.1,fun i h1 h2=>(k.2 i h1 (vac h2 h.1)).trans (h.2 i h1 h2)⟩
theorem zfb.mono {lo lo':Nat} {w w':World} (h:zfb lo w w') (hl:lo<=lo'):zfb lo' w w':=⟨h.1,fun k h1 h2=>h.2 k (vav hl h1) h2⟩
theorem zfb.of_below {w w':World} (h:Below w.heap.size w w') (lo:Nat):zfb lo w w':=⟨h.size,fun k _ h2=>h.block k h2⟩
theorem zfb.cell {lo:Nat} {w w':World} (h:zfb lo w w') {b off:Nat} (h1:lo<=b) (h2:b<w.heap.size):w'.cell? ⟨b,off,none⟩=w.cell? ⟨b,off,none⟩:=
 veg (w:=w) (h.2 b h1 h2)
theorem zfb.alloc {lo:Nat} {w w':World} (h:zfb lo w w') (o:Obj):zfb lo w (w'.alloc o):=
 h.trans (zfb.of_below ((Below.refl w'.heap.size w').alloc (vaa _) o) lo)
def zag (w:World) (A:Nat->Prop) (w':World) (A':Nat->Prop):Prop:=w.heap.size<=w'.heap.size/\∀ b,b<w.heap.size->A b->A' b/\w'.heap[b]? = w.heap[b]?
theorem zag.refl (w:World) (A:Nat->Prop):zag w A w A:=⟨vaa _,fun _ _ h=>⟨h,rfl⟩⟩
theorem zag.trans {w1 w2 w3:World} {A1 A2 A3:Nat->Prop} (h:zag w1 A1 w2 A2) (k:zag w2 A2 w3 A3):zag w1 A1 w3 A3:=
 ⟨vav h.1 k.1,fun b hb ha=>⟨(k.2 b (vac hb h.1) (h.2 b hb ha).1).1,(k.2 b (vac hb h.1) (h.2 b hb ha).1).2.trans (h.2 b hb ha).2⟩⟩
theorem zag.of_below {w w':World} (h:Below w.heap.size w w') (A:Nat->Prop):zag w A w' A:=⟨h.size,fun b hb ha=>⟨ha,h.block b hb⟩⟩
theorem zag.alloc {w w':World} {A A':Nat->Prop} (h:zag w A w' A') (o:Obj):zag w A (w'.alloc o) A':=h.trans (zag.of_below ((Below.refl w'.heap.size w').alloc (vaa _) o) A')
theorem zag.lower {w:World} {lo lo':Nat} (h:lo'<=lo):zag w (lo<=·) w (lo'<=·):=⟨vaa _,fun _ _ ha=>⟨vav h ha,rfl⟩⟩
theorem zfa.moves {A A':Nat->Prop} {w w':World} {b off:Nat} {l:List Value} (h:zfa w b off l) (hs:zag w A w' A') (h1:A b) (h2:b<w.heap.size):zfa w' b off l:=
 fun j u hj=>(veg (w:=w) (hs.2 b h2 h1).2).trans (h j u hj)
mutual
theorem zcl.moves {A A':Nat->Prop} {w w':World} (hs:zag w A w' A'):∀ (d:D) (v:Value),zcl w A d v->zcl w' A' d v
 | .int _,_,h=>h
 | .str _,_,h=>h
 | .bool _,_,h=>h
 | .list n ds,v,h=>by
   unfold zcl at h ⊢;obtain ⟨a,cap,h1,h2,h3,h4⟩:=h;refine ⟨a,cap,h1,h2,h3,?_⟩
   rcases h4 with h4 | ⟨b,off,cs,ha,hl,hb,hc,hx⟩
   . exact Or.inl h4
   . exact Or.inr ⟨b,off,cs,ha,(hs.2 b hb hl).1,vac hb hs.1,hc.moves hs hl hb,zao.moves hs ds cs hx⟩
theorem zao.moves {A A':Nat->Prop} {w w':World} (hs:zag w A w' A'):∀ (l:List D) (cs:List Value),zao w A l cs->zao w' A' l cs
 | [],_,h=>h
 | d :: ds,cs,h=>by
   unfold zao at h ⊢;obtain ⟨v,r,h1,h2,h3⟩:=h;exact ⟨v,r,h1,zcl.moves hs d v h2,zao.moves hs ds r h3⟩
end
theorem zcl.one {w:World} {lo:Nat->Prop}:∀ {d:D} {v:Value},zcl w lo d v->v.oneCell'=true
 | .int _,_,h=>by unfold zcl at h;rw [h.1];rfl
 | .str _,_,h=>by unfold zcl at h;rw [h.1];rfl
 | .bool _,_,h=>by unfold zcl at h;rw [h];rfl
 | .list _ _,_,h=>by unfold zcl at h;obtain ⟨a,cap,h,_⟩:=h;rw [h];rfl
theorem zao.one {w:World} {lo:Nat->Prop}:∀ {l:List D} {cs:List Value},zao w lo l cs->∀ u ∈ cs,u.oneCell'=true
 | [],_,h=>by unfold zao at h;rw [h];intro u hu;cases hu
 | d :: ds,cs,h=>by
   unfold zao at h;obtain ⟨v,r,rfl,h2,h3⟩:=h;intro u hu
   rcases vci.1 hu with rfl | hu
   . exact h2.one
   . exact zao.one h3 u hu
theorem zao.len {w:World} {lo:Nat->Prop}:∀ {l:List D} {cs:List Value},zao w lo l cs->cs.length=l.length
 | [],_,h=>by unfold zao at h;rw [h];rfl
 | d :: ds,cs,h=>by
   unfold zao at h;obtain ⟨v,r,rfl,h2,h3⟩:=h;simp [zao.len h3]
theorem zao.nil {w:World} {lo:Nat->Prop}:zao w lo [] []:=by unfold zao;rfl
theorem zao.cons {w:World} {lo:Nat->Prop} {d:D} {ds:List D} {v:Value} {cs:List Value} (h:zcl w lo d v) (k:zao w lo ds cs):zao w lo (d :: ds) (v :: cs):=by
 unfold zao;exact ⟨v,cs,rfl,h,k⟩
theorem zao.append {w:World} {lo:Nat->Prop}:∀ {l m:List D} {cs es:List Value},zao w lo l cs->zao w lo m es->zao w lo (l++m) (cs++es)
 | [],m,cs,es,h,k=>by unfold zao at h;subst h;exact k
 | d :: ds,m,cs,es,h,k=>by
   unfold zao at h;obtain ⟨v,r,rfl,h2,h3⟩:=h;exact zao.cons h2 (zao.append h3 k)
theorem zao.get {w:World} {lo:Nat->Prop}:∀ {l:List D} {cs:List Value},zao w lo l cs->∀ (j:Nat) (d:D),l[j]? = some d->∃ v,cs[j]? = some v/\zcl w lo d v
 | [],_,_,j,d,hj=>by simp at hj
 | e :: ds,cs,h,j,d,hj=>by
   unfold zao at h;obtain ⟨v,r,rfl,h2,h3⟩:=h
   cases j with
   | zero=>simp at hj;subst hj;exact ⟨v,rfl,h2⟩
   | succ j=>simpa using zao.get h3 j d (by simpa using hj)
theorem zcv {w:World} {lo:Nat->Prop} {n:Int} (h:(Lit.int .i64 n).wf=true):zcl w lo (.int n) (.int .i64 n):=by unfold zcl;exact ⟨rfl,h⟩
theorem zd6 {w:World} {lo:Nat->Prop} {s:ByteArray} (h:s.size<=maxLen):zcl w lo (.str s) (.string s):=by unfold zcl;exact ⟨rfl,h⟩
theorem zx4 {w:World} {lo:Nat->Prop} {b:Bool}:zcl w lo (.bool b) (.bool b):=by unfold zcl;rfl
theorem zk5 {w:World} {lo:Nat->Prop} {a:OA} {cap:Nat}:zcl w lo (.list 0 []) (.slice a 0 cap):=by unfold zcl;exact ⟨a,cap,rfl,vaa _,by simp,Or.inl rfl⟩
theorem z19 {w:World} {lo:Nat->Prop} {n b off cap:Nat} {ds:List D} {cs:List Value} (h1:n<=ds.length) (h2:ds.length<=17592186044416) (hl:lo b) (hb:b<w.heap.size) (hc:zfa w b off cs) (hx:zao w lo ds cs):zcl w lo (.list n ds) (.slice (some ⟨b,off,none⟩) n cap):=by
 unfold zcl;exact ⟨_,cap,rfl,h1,h2,Or.inr ⟨b,off,cs,rfl,hl,hb,hc,hx⟩⟩
theorem zbi {w:World} {lo:Nat->Prop} {n:Int} {v:Value} (h:zcl w lo (.int n) v):v = .int .i64 n/\(Lit.int .i64 n).wf=true:=by unfold zcl at h;exact h
theorem zcz {w:World} {lo:Nat->Prop} {s:ByteArray} {v:Value} (h:zcl w lo (.str s) v):v = .string s/\s.size<=maxLen:=by unfold zcl at h;exact h
theorem zq7 {w:World} {lo:Nat->Prop} {b:Bool} {v:Value} (h:zcl w lo (.bool b) v):v = .bool b:=by unfold zcl at h;exact h
def DAt (w:World) (lo:Nat->Prop) (a:OA) (n:Nat) (ds:List D):Prop:=n<=ds.length/\ds.length<=17592186044416/\(n=0\/∃ b off cs,a=some ⟨b,off,none⟩/\lo b/\b<w.heap.size/\zfa w b off cs/\zao w lo ds cs)
theorem za0 {w:World} {lo:Nat->Prop} {n:Nat} {ds:List D} {v:Value} (h:zcl w lo (.list n ds) v):∃ a cap,v = .slice a n cap/\DAt w lo a n ds:=by unfold zcl at h;exact h
theorem DAt.val {w:World} {lo:Nat->Prop} {n cap:Nat} {a:OA} {ds:List D} (h:DAt w lo a n ds):zcl w lo (.list n ds) (.slice a n cap):=by unfold zcl;exact ⟨a,cap,rfl,h⟩
theorem DAt.moves {A A':Nat->Prop} {w w':World} {n:Nat} {a:OA} {ds:List D} (h:DAt w A a n ds) (hs:zag w A w' A'):DAt w' A' a n ds:=by
 obtain ⟨h1,h2,h3⟩:=h;refine ⟨h1,h2,?_⟩
 rcases h3 with h4 | ⟨b,off,cs,ha,hl,hb,hc,hx⟩
 . exact Or.inl h4
 . exact Or.inr ⟨b,off,cs,ha,(hs.2 b hb hl).1,vac hb hs.1,hc.moves hs hl hb,zao.moves hs ds cs hx⟩
theorem DAt.later {A:Nat->Prop} {w w':World} {n:Nat} {a:OA} {ds:List D} (h:DAt w A a n ds) (hb:Below w.heap.size w w'):DAt w' A a n ds:=h.moves (zag.of_below hb A)
theorem DAt.bound {A:Nat->Prop} {w:World} {n:Nat} {a:OA} {ds:List D} (h:DAt w A a n ds):n<=17592186044416:=vav h.1 h.2.1
theorem DAt.cell {A:Nat->Prop} {w:World} {n:Nat} {a:OA} {ds:List D} (h:DAt w A a n ds) (hn:0<n):∃ b off,a=some ⟨b,off,none⟩/\b<w.heap.size/\∀ (j:Nat) (d:D),ds[j]? = some d->∃ v,w.cell? ⟨b,off+j,none⟩=some v/\zcl w A d v:=by
 rcases h.2.2 with h0 | ⟨b,off,cs,ha,_,hb,hc,hx⟩
 . omega
 . refine ⟨b,off,ha,hb,fun j d hj=>?_⟩
   obtain ⟨v,hv,hd⟩:=hx.get j d hj;exact ⟨v,hc j v hv,hd⟩
inductive Ex where
 | mk (op n:Int) (mod name:ByteArray) (args:List Ex)
def Ex.op:Ex->Int | .mk op _ _ _ _=>op
def Ex.n:Ex->Int | .mk _ n _ _ _=>n
def Ex.mod:Ex->ByteArray | .mk _ _ m _ _=>m
def Ex.name:Ex->ByteArray | .mk _ _ _ m _=>m
def Ex.args:Ex->List Ex | .mk _ _ _ _ l=>l
inductive St where
 | mk (op:Int) (mod name:ByteArray) (args:List Ex) (body other:List St)
def St.op:St->Int | .mk op _ _ _ _ _=>op
def St.mod:St->ByteArray | .mk _ m _ _ _ _=>m
def St.name:St->ByteArray | .mk _ _ m _ _ _=>m
def St.args:St->List Ex | .mk _ _ _ l _ _=>l
def St.body:St->List St | .mk _ _ _ _ l _=>l
def St.other:St->List St | .mk _ _ _ _ _ l=>l
mutual
def Ex.ds:Ex->List D
 | .mk op n mod name args=>[.int op,.int n,.str mod,.str name,.list args.length (zbj args)]
def zbj:List Ex->List D
 | []=>[]
 | x :: r=>x.ds++zbj r
end
mutual
def St.ds:St->List D
 | .mk op mod name args body other=>[.int op,.str mod,.str name,.list args.length (zbj args),.list body.length (zbk body),.list other.length (zbk other)]
def zbk:List St->List D
 | []=>[]
 | x :: r=>x.ds++zbk r
end
theorem Ex.ds_len (x:Ex):x.ds.length=5:=by cases x;unfold Ex.ds;rfl
theorem St.ds_len (x:St):x.ds.length=6:=by cases x;unfold St.ds;rfl
theorem zgi:∀ (l m:List Ex),zbj (l++m)=zbj l++zbj m
 | [],m=>by simp [zbj]
 | x :: r,m=>by simp [zbj,zgi r m]
theorem zgj:∀ (l m:List St),zbk (l++m)=zbk l++zbk m
 | [],m=>by simp [zbk]
 | x :: r,m=>by simp [zbk,zgj r m]
theorem zif (x:Ex):zbj [x]=x.ds:=by simp [zbj]
theorem zq8 (x:St):zbk [x]=x.ds:=by simp [zbk]
theorem zq9:∀ (l:List Ex) (i:Nat) (h:i<l.length) (j:Nat),j<5->(zbj l)[i*5+j]? = (l[i].ds)[j]?
 | [],i,h,_,_=>by simp at h
 | x :: r,0,_,j,hj=>by
   have:=x.ds_len;simp only [zbj,vbn];rw [vaw (by omega),vbg,vbd]
 | x :: r,i+1,h,j,hj=>by
   have:=x.ds_len;simp only [zbj,vbo];rw [vbb (by omega),show (i+1)*5+j - x.ds.length=i*5+j from by omega];exact zq9 r i (by simpa using h) j hj
theorem zra:∀ (l:List St) (i:Nat) (h:i<l.length) (j:Nat),j<6->(zbk l)[i*6+j]? = (l[i].ds)[j]?
 | [],i,h,_,_=>by simp at h
 | x :: r,0,_,j,hj=>by
   have:=x.ds_len;simp only [zbk,vbn];rw [vaw (by omega),vbg,vbd]
 | x :: r,i+1,h,j,hj=>by
   have:=x.ds_len;simp only [zbk,vbo];rw [vbb (by omega),show (i+1)*6+j - x.ds.length=i*6+j from by omega];exact zra r i (by simpa using h) j hj
structure ExAt (w:World) (A:Nat->Prop) (b o:Nat) (x:Ex) (aa:OA) (cap:Nat):Prop where
 lt:b<w.heap.size
 c0:w.cell? ⟨b,o,none⟩=some (.int .i64 x.op)
 c1:w.cell? ⟨b,o+1,none⟩=some (.int .i64 x.n)
 c2:w.cell? ⟨b,o+2,none⟩=some (.string x.mod)
 c3:w.cell? ⟨b,o+3,none⟩=some (.string x.name)
 c4:w.cell? ⟨b,o+4,none⟩=some (.slice aa x.args.length cap)
 args:DAt w A aa x.args.length (zbj x.args)
 wop:(Lit.int .i64 x.op).wf=true
 wn:(Lit.int .i64 x.n).wf=true
 wm:x.mod.size<=maxLen
 wna:x.name.size<=maxLen
structure StAt (w:World) (A:Nat->Prop) (b o:Nat) (x:St) (a1:OA) (c1':Nat) (a2:OA) (c2':Nat) (a3:OA) (c3':Nat):Prop where
 lt:b<w.heap.size
 c0:w.cell? ⟨b,o,none⟩=some (.int .i64 x.op)
 c1:w.cell? ⟨b,o+1,none⟩=some (.string x.mod)
 c2:w.cell? ⟨b,o+2,none⟩=some (.string x.name)
 c3:w.cell? ⟨b,o+3,none⟩=some (.slice a1 x.args.length c1')
 c4:w.cell? ⟨b,o+4,none⟩=some (.slice a2 x.body.length c2')
 c5:w.cell? ⟨b,o+5,none⟩=some (.slice a3 x.other.length c3')
 args:DAt w A a1 x.args.length (zbj x.args)
 body:DAt w A a2 x.body.length (zbk x.body)
 other:DAt w A a3 x.other.length (zbk x.other)
 wop:(Lit.int .i64 x.op).wf=true
 wm:x.mod.size<=maxLen
 wna:x.name.size<=maxLen
theorem DAt.ex {w:World} {A:Nat->Prop} {a:OA} {l:List Ex} (h:DAt w A a l.length (zbj l)) (i:Nat) (hi:i<l.length):∃ b off aa cap,a=some ⟨b,off,none⟩/\ExAt w A b (off+i*5) l[i] aa cap:=by
 obtain ⟨b,off,ha,hb,hc⟩:=h.cell (by omega);generalize hx:l[i]=x;obtain ⟨op,n,mod,name,args⟩:=x
 have g:∀ j d,j<5->(Ex.mk op n mod name args).ds[j]? = some d->∃ v,w.cell? ⟨b,off+i*5+j,none⟩=some v/\zcl w A d v:=fun j d hj hd=>by
  rw [vbr];exact hc (i*5+j) d ((zq9 l i hi j hj).trans (by rw [hx];exact hd))
 obtain ⟨v0,k0,d0⟩:=g 0 (.int op) (by omega) (by simp [Ex.ds]);obtain ⟨v1,k1,d1⟩:=g 1 (.int n) (by omega) (by simp [Ex.ds]);obtain ⟨v2,k2,d2⟩:=g 2 (.str mod) (by omega) (by simp [Ex.ds]);obtain ⟨v3,k3,d3⟩:=g 3 (.str name) (by omega) (by simp [Ex.ds]);obtain ⟨v4,k4,d4⟩:=g 4 (.list args.length (zbj args)) (by omega) (by simp [Ex.ds]);obtain ⟨rfl,w0⟩:=zbi d0;obtain ⟨rfl,w1⟩:=zbi d1;obtain ⟨rfl,w2⟩:=zcz d2;obtain ⟨rfl,w3⟩:=zcz d3;obtain ⟨aa,cap,rfl,hA⟩:=za0 d4;exact ⟨b,off,aa,cap,ha,hb,k0,k1,k2,k3,k4,hA,w0,w1,w2,w3⟩
theorem DAt.st {w:World} {A:Nat->Prop} {a:OA} {l:List St} (h:DAt w A a l.length (zbk l)) (i:Nat) (hi:i<l.length):∃ b off a1 c1 a2 c2 a3 c3,a=some ⟨b,off,none⟩/\StAt w A b (off+i*6) l[i] a1 c1 a2 c2 a3 c3:=by
 obtain ⟨b,off,ha,hb,hc⟩:=h.cell (by omega);generalize hx:l[i]=x;obtain ⟨op,mod,name,args,body,other⟩:=x
 have g:∀ j d,j<6->(St.mk op mod name args body other).ds[j]? = some d->∃ v,w.cell? ⟨b,off+i*6+j,none⟩=some v/\zcl w A d v:=fun j d hj hd=>by
  rw [vbr];exact hc (i*6+j) d ((zra l i hi j hj).trans (by rw [hx];exact hd))
 obtain ⟨v0,k0,d0⟩:=g 0 (.int op) (by omega) (by simp [St.ds]);obtain ⟨v1,k1,d1⟩:=g 1 (.str mod) (by omega) (by simp [St.ds]);obtain ⟨v2,k2,d2⟩:=g 2 (.str name) (by omega) (by simp [St.ds]);obtain ⟨v3,k3,d3⟩:=g 3 (.list args.length (zbj args)) (by omega) (by simp [St.ds]);obtain ⟨v4,k4,d4⟩:=g 4 (.list body.length (zbk body)) (by omega) (by simp [St.ds]);obtain ⟨v5,k5,d5⟩:=g 5 (.list other.length (zbk other)) (by omega) (by simp [St.ds]);obtain ⟨rfl,w0⟩:=zbi d0;obtain ⟨rfl,w1⟩:=zcz d1;obtain ⟨rfl,w2⟩:=zcz d2;obtain ⟨a1,c1,rfl,h1⟩:=za0 d3;obtain ⟨a2,c2,rfl,h2⟩:=za0 d4;obtain ⟨a3,c3,rfl,h3⟩:=za0 d5;exact ⟨b,off,a1,c1,a2,c2,a3,c3,ha,hb,k0,k1,k2,k3,k4,k5,h1,h2,h3,w0,w1,w2⟩
structure De where
 kind:Int
 name:ByteArray
 pub:Bool
 n:Int
structure Pr where
 name:ByteArray
 pub:Bool
 params:List ByteArray
 locals:List ByteArray
 body:List St
structure Mo where
 name:ByteArray
 uses:List ByteArray
 decls:List De
 procs:List Pr
 main:List St
def De.ds (d:De):List D:=[.int d.kind,.str d.name,.bool d.pub,.int d.n]
def zal (l:List ByteArray):List D:=l.map .str
def Pr.ds (p:Pr):List D:=[.str p.name,.bool p.pub,.list p.params.length (zal p.params),.list p.locals.length (zal p.locals),.list p.body.length (zbk p.body)]
def Mo.ds (m:Mo):List D:=[.str m.name,.list m.uses.length (zal m.uses),.list m.decls.length (m.decls.flatMap De.ds),.list m.procs.length (m.procs.flatMap Pr.ds),.list m.main.length (zbk m.main)]
def zg5 (l:List Pr):List D:=l.flatMap Pr.ds
def zig (l:List De):List D:=l.flatMap De.ds
def z4m (l:List Mo):List D:=l.flatMap Mo.ds
theorem zdm {α:Type} (f:α->List D) (k:Nat) (hf:∀ x,(f x).length=k):∀ (l:List α) (i:Nat) (h:i<l.length) (j:Nat),j<k->(l.flatMap f)[i*k+j]? = (f l[i])[j]?
 | [],i,h,_,_=>by simp at h
 | x :: r,0,_,j,hj=>by
   have:=hf x;simp only [vbu,vbn];rw [vaw (by omega),vbg,vbd]
 | x :: r,i+1,h,j,hj=>by
   have:=hf x;have e:(i+1)*k=i*k+k:=vec i k;simp only [vbu,vbo];rw [vbb (by omega),show (i+1)*k+j - (f x).length=i*k+j from by omega];exact zdm f k hf r i (by simpa using h) j hj
structure DeAt (w:World) (b o:Nat) (x:De):Prop where
 lt:b<w.heap.size
 c0:w.cell? ⟨b,o,none⟩=some (.int .i64 x.kind)
 c1:w.cell? ⟨b,o+1,none⟩=some (.string x.name)
 c2:w.cell? ⟨b,o+2,none⟩=some (.bool x.pub)
 c3:w.cell? ⟨b,o+3,none⟩=some (.int .i64 x.n)
 wk:(Lit.int .i64 x.kind).wf=true
 wn:(Lit.int .i64 x.n).wf=true
 wna:x.name.size<=maxLen
structure PrAt (w:World) (A:Nat->Prop) (b o:Nat) (x:Pr) (a1:OA) (c1':Nat) (a2:OA) (c2':Nat) (a3:OA) (c3':Nat):Prop where
 lt:b<w.heap.size
 c0:w.cell? ⟨b,o,none⟩=some (.string x.name)
 c1:w.cell? ⟨b,o+1,none⟩=some (.bool x.pub)
 c2:w.cell? ⟨b,o+2,none⟩=some (.slice a1 x.params.length c1')
 c3:w.cell? ⟨b,o+3,none⟩=some (.slice a2 x.locals.length c2')
 c4:w.cell? ⟨b,o+4,none⟩=some (.slice a3 x.body.length c3')
 params:DAt w A a1 x.params.length (zal x.params)
 locals:DAt w A a2 x.locals.length (zal x.locals)
 body:DAt w A a3 x.body.length (zbk x.body)
 wna:x.name.size<=maxLen
structure MoAt (w:World) (A:Nat->Prop) (m:Mo) (v:Value) (a1:OA) (c1:Nat) (a2:OA) (c2:Nat) (a3:OA) (c3:Nat) (a4:OA) (c4:Nat):Prop where
 val:v = .agg #[.string m.name,.slice a1 m.uses.length c1,.slice a2 m.decls.length c2,.slice a3 m.procs.length c3,.slice a4 m.main.length c4]
 wna:m.name.size<=maxLen
 uses:DAt w A a1 m.uses.length (zal m.uses)
 decls:DAt w A a2 m.decls.length (zig m.decls)
 procs:DAt w A a3 m.procs.length (zg5 m.procs)
 main:DAt w A a4 m.main.length (zbk m.main)
theorem MoAt.later {w w':World} {A:Nat->Prop} {m:Mo} {v:Value} {a1 a2 a3 a4:OA} {c1 c2 c3 c4:Nat} (h:MoAt w A m v a1 c1 a2 c2 a3 c3 a4 c4) (hb:Below w.heap.size w w'):MoAt w' A m v a1 c1 a2 c2 a3 c3 a4 c4:=
 ⟨h.val,h.wna,h.uses.later hb,h.decls.later hb,h.procs.later hb,h.main.later hb⟩
theorem DAt.str {w:World} {A:Nat->Prop} {a:OA} {l:List ByteArray} (h:DAt w A a l.length (zal l)) (i:Nat) (hi:i<l.length):∃ b off,a=some ⟨b,off,none⟩/\b<w.heap.size/\w.cell? ⟨b,off+i,none⟩=some (.string l[i])/\l[i].size<=maxLen:=by
 obtain ⟨b,off,ha,hb,hc⟩:=h.cell (by omega);obtain ⟨v,hv,hd⟩:=hc i (.str l[i]) (by simp [zal,hi]);obtain ⟨rfl,h2⟩:=zcz hd;exact ⟨b,off,ha,hb,hv,h2⟩
theorem DAt.de {w:World} {A:Nat->Prop} {a:OA} {l:List De} (h:DAt w A a l.length (zig l)) (i:Nat) (hi:i<l.length):∃ b off,a=some ⟨b,off,none⟩/\DeAt w b (off+i*4) l[i]:=by
 obtain ⟨b,off,ha,hb,hc⟩:=h.cell (by omega);generalize hx:l[i]=x;obtain ⟨kind,name,pub,n⟩:=x
 have g:∀ j d,j<4->(De.mk kind name pub n).ds[j]? = some d->∃ v,w.cell? ⟨b,off+i*4+j,none⟩=some v/\zcl w A d v:=fun j d hj hd=>by
  rw [vbr];exact hc (i*4+j) d ((zdm De.ds 4 (fun _=>rfl) l i hi j hj).trans (by rw [hx];exact hd))
 obtain ⟨v0,k0,d0⟩:=g 0 (.int kind) (by omega) (by simp [De.ds]);obtain ⟨v1,k1,d1⟩:=g 1 (.str name) (by omega) (by simp [De.ds]);obtain ⟨v2,k2,d2⟩:=g 2 (.bool pub) (by omega) (by simp [De.ds]);obtain ⟨v3,k3,d3⟩:=g 3 (.int n) (by omega) (by simp [De.ds]);obtain ⟨rfl,w0⟩:=zbi d0;obtain ⟨rfl,w1⟩:=zcz d1;obtain rfl:=zq7 d2;obtain ⟨rfl,w3⟩:=zbi d3;exact ⟨b,off,ha,hb,k0,k1,k2,k3,w0,w3,w1⟩
theorem DAt.pr {w:World} {A:Nat->Prop} {a:OA} {l:List Pr} (h:DAt w A a l.length (zg5 l)) (i:Nat) (hi:i<l.length):∃ b off a1 c1 a2 c2 a3 c3,a=some ⟨b,off,none⟩/\PrAt w A b (off+i*5) l[i] a1 c1 a2 c2 a3 c3:=by
 obtain ⟨b,off,ha,hb,hc⟩:=h.cell (by omega);generalize hx:l[i]=x;obtain ⟨name,pub,params,locals,body⟩:=x
 have g:∀ j d,j<5->(Pr.mk name pub params locals body).ds[j]? = some d->∃ v,w.cell? ⟨b,off+i*5+j,none⟩=some v/\zcl w A d v:=fun j d hj hd=>by
  rw [vbr];exact hc (i*5+j) d ((zdm Pr.ds 5 (fun _=>rfl) l i hi j hj).trans (by rw [hx];exact hd))
 obtain ⟨v0,k0,d0⟩:=g 0 (.str name) (by omega) (by simp [Pr.ds]);obtain ⟨v1,k1,d1⟩:=g 1 (.bool pub) (by omega) (by simp [Pr.ds]);obtain ⟨v2,k2,d2⟩:=g 2 (.list params.length (zal params)) (by omega) (by simp [Pr.ds]);obtain ⟨v3,k3,d3⟩:=g 3 (.list locals.length (zal locals)) (by omega) (by simp [Pr.ds]);obtain ⟨v4,k4,d4⟩:=g 4 (.list body.length (zbk body)) (by omega) (by simp [Pr.ds]);obtain ⟨rfl,w0⟩:=zcz d0;obtain rfl:=zq7 d1;obtain ⟨a1,c1,rfl,h1⟩:=za0 d2;obtain ⟨a2,c2,rfl,h2⟩:=za0 d3;obtain ⟨a3,c3,rfl,h3⟩:=za0 d4;exact ⟨b,off,a1,c1,a2,c2,a3,c3,ha,hb,k0,k1,k2,k3,k4,h1,h2,h3,w0⟩
theorem DAt.mo {w:World} {A:Nat->Prop} {a:OA} {l:List Mo} (h:DAt w A a l.length (z4m l)) (i:Nat) (hi:i<l.length):∃ b off v a1 c1 a2 c2 a3 c3 a4 c4,a=some ⟨b,off,none⟩/\b<w.heap.size/\MoAt w A l[i] v a1 c1 a2 c2 a3 c3 a4 c4/\
 w.cell? ⟨b,off+i*5,none⟩=some (.string l[i].name)/\w.cell? ⟨b,off+i*5+1,none⟩=some (.slice a1 l[i].uses.length c1)/\w.cell? ⟨b,off+i*5+2,none⟩=some (.slice a2 l[i].decls.length c2)/\
 w.cell? ⟨b,off+i*5+3,none⟩=some (.slice a3 l[i].procs.length c3)/\w.cell? ⟨b,off+i*5+4,none⟩=some (.slice a4 l[i].main.length c4):=by
 obtain ⟨b,off,ha,hb,hc⟩:=h.cell (by omega);generalize hx:l[i]=x;obtain ⟨name,uses,decls,procs,main⟩:=x
 have g:∀ j d,j<5->(Mo.mk name uses decls procs main).ds[j]? = some d->∃ v,w.cell? ⟨b,off+i*5+j,none⟩=some v/\zcl w A d v:=fun j d hj hd=>by
  rw [vbr];exact hc (i*5+j) d ((zdm Mo.ds 5 (fun _=>rfl) l i hi j hj).trans (by rw [hx];exact hd))
 obtain ⟨v0,k0,d0⟩:=g 0 (.str name) (by omega) (by simp [Mo.ds]);obtain ⟨v1,k1,d1⟩:=g 1 (.list uses.length (zal uses)) (by omega) (by simp [Mo.ds]);obtain ⟨v2,k2,d2⟩:=g 2 (.list decls.length (zig decls)) (by omega) (by simp [Mo.ds,zig]);obtain ⟨v3,k3,d3⟩:=g 3 (.list procs.length (zg5 procs)) (by omega) (by simp [Mo.ds,zg5]);obtain ⟨v4,k4,d4⟩:=g 4 (.list main.length (zbk main)) (by omega) (by simp [Mo.ds]);obtain ⟨rfl,w0⟩:=zcz d0;obtain ⟨a1,c1,rfl,h1⟩:=za0 d1;obtain ⟨a2,c2,rfl,h2⟩:=za0 d2;obtain ⟨a3,c3,rfl,h3⟩:=za0 d3;obtain ⟨a4,c4,rfl,h4⟩:=za0 d4;exact ⟨b,off,_,a1,c1,a2,c2,a3,c3,a4,c4,ha,hb,⟨rfl,w0,h1,h2,h3,h4⟩,k0,k1,k2,k3,k4⟩
mutual
def zfp (w:World) (A:Nat->Prop):D->Value->Prop
 | .int n,v=>v = .int .i64 n
 | .str s,v=>v = .string s/\s.size<=maxLen
 | .bool b,v=>v = .bool b
 | .list n ds,v=>∃ a cap,v = .slice a n cap/\(n=0\/∃ b off cs,a=some ⟨b,off,none⟩/\A b/\b<w.heap.size/\zfa w b off cs/\zar w A ds cs)
def zar (w:World) (A:Nat->Prop):List D->List Value->Prop
 | [],cs=>cs=[]
 | d :: ds,cs=>∃ v r,cs=v :: r/\zfp w A d v/\zar w A ds r
end
mutual
theorem zfp.moves {A A':Nat->Prop} {w w':World} (hs:zag w A w' A'):∀ (d:D) (v:Value),zfp w A d v->zfp w' A' d v
 | .int _,_,h=>h
 | .str _,_,h=>h
 | .bool _,_,h=>h
 | .list n ds,v,h=>by
   unfold zfp at h ⊢;obtain ⟨a,cap,h1,h4⟩:=h;refine ⟨a,cap,h1,?_⟩
   rcases h4 with h4 | ⟨b,off,cs,ha,hl,hb,hc,hx⟩
   . exact Or.inl h4
   . exact Or.inr ⟨b,off,cs,ha,(hs.2 b hb hl).1,vac hb hs.1,hc.moves hs hl hb,zar.moves hs ds cs hx⟩
theorem zar.moves {A A':Nat->Prop} {w w':World} (hs:zag w A w' A'):∀ (l:List D) (cs:List Value),zar w A l cs->zar w' A' l cs
 | [],_,h=>h
 | d :: ds,cs,h=>by
   unfold zar at h ⊢;obtain ⟨v,r,h1,h2,h3⟩:=h;exact ⟨v,r,h1,zfp.moves hs d v h2,zar.moves hs ds r h3⟩
end
theorem zfp.one {w:World} {lo:Nat->Prop}:∀ {d:D} {v:Value},zfp w lo d v->v.oneCell'=true
 | .int _,_,h=>by unfold zfp at h;rw [h];rfl
 | .str _,_,h=>by unfold zfp at h;rw [h.1];rfl
 | .bool _,_,h=>by unfold zfp at h;rw [h];rfl
 | .list _ _,_,h=>by unfold zfp at h;obtain ⟨a,cap,h,_⟩:=h;rw [h];rfl
theorem zar.one {w:World} {lo:Nat->Prop}:∀ {l:List D} {cs:List Value},zar w lo l cs->∀ u ∈ cs,u.oneCell'=true
 | [],_,h=>by unfold zar at h;rw [h];intro u hu;cases hu
 | d :: ds,cs,h=>by
   unfold zar at h;obtain ⟨v,r,rfl,h2,h3⟩:=h;intro u hu
   rcases vci.1 hu with rfl | hu
   . exact h2.one
   . exact zar.one h3 u hu
theorem zar.len {w:World} {lo:Nat->Prop}:∀ {l:List D} {cs:List Value},zar w lo l cs->cs.length=l.length
 | [],_,h=>by unfold zar at h;rw [h];rfl
 | d :: ds,cs,h=>by
   unfold zar at h;obtain ⟨v,r,rfl,h2,h3⟩:=h;simp [zar.len h3]
theorem zar.nil {w:World} {lo:Nat->Prop}:zar w lo [] []:=by unfold zar;rfl
theorem zar.cons {w:World} {lo:Nat->Prop} {d:D} {ds:List D} {v:Value} {cs:List Value} (h:zfp w lo d v) (k:zar w lo ds cs):zar w lo (d :: ds) (v :: cs):=by
 unfold zar;exact ⟨v,cs,rfl,h,k⟩
theorem zar.append {w:World} {lo:Nat->Prop}:∀ {l m:List D} {cs es:List Value},zar w lo l cs->zar w lo m es->zar w lo (l++m) (cs++es)
 | [],m,cs,es,h,k=>by unfold zar at h;subst h;exact k
 | d :: ds,m,cs,es,h,k=>by
   unfold zar at h;obtain ⟨v,r,rfl,h2,h3⟩:=h;exact zar.cons h2 (zar.append h3 k)
theorem zar.get {w:World} {lo:Nat->Prop}:∀ {l:List D} {cs:List Value},zar w lo l cs->∀ (j:Nat) (d:D),l[j]? = some d->∃ v,cs[j]? = some v/\zfp w lo d v
 | [],_,_,j,d,hj=>by simp at hj
 | e :: ds,cs,h,j,d,hj=>by
   unfold zar at h;obtain ⟨v,r,rfl,h2,h3⟩:=h
   cases j with
   | zero=>simp at hj;subst hj;exact ⟨v,rfl,h2⟩
   | succ j=>simpa using zar.get h3 j d (by simpa using hj)
theorem zmz {w:World} {lo:Nat->Prop} {n:Int}:zfp w lo (.int n) (.int .i64 n):=by unfold zfp;rfl
theorem ztj {w:World} {lo:Nat->Prop} {s:ByteArray} (h:s.size<=maxLen):zfp w lo (.str s) (.string s):=by unfold zfp;exact ⟨rfl,h⟩
theorem z2a {w:World} {lo:Nat->Prop} {b:Bool}:zfp w lo (.bool b) (.bool b):=by unfold zfp;rfl
theorem zma {w:World} {lo:Nat->Prop} {n:Int} {v:Value} (h:zfp w lo (.int n) v):v = .int .i64 n:=by unfold zfp at h;exact h
theorem zvj {w:World} {lo:Nat->Prop} {s:ByteArray} {v:Value} (h:zfp w lo (.str s) v):v = .string s/\s.size<=maxLen:=by unfold zfp at h;exact h
def EAt (w:World) (lo:Nat->Prop) (a:OA) (n:Nat) (ds:List D):Prop:=n=0\/∃ b off cs,a=some ⟨b,off,none⟩/\lo b/\b<w.heap.size/\zfa w b off cs/\zar w lo ds cs
theorem EAt.val {w:World} {lo:Nat->Prop} {n cap:Nat} {a:OA} {ds:List D} (h:EAt w lo a n ds):zfp w lo (.list n ds) (.slice a n cap):=by unfold zfp;exact ⟨a,cap,rfl,h⟩
theorem EAt.moves {A A':Nat->Prop} {w w':World} {n:Nat} {a:OA} {ds:List D} (h:EAt w A a n ds) (hs:zag w A w' A'):EAt w' A' a n ds:=by
 rcases h with h4 | ⟨b,off,cs,ha,hl,hb,hc,hx⟩
 . exact Or.inl h4
 . exact Or.inr ⟨b,off,cs,ha,(hs.2 b hb hl).1,vac hb hs.1,hc.moves hs hl hb,zar.moves hs ds cs hx⟩
theorem EAt.of_own {w:World} {A:Nat->Prop} {base n cap:Nat} {a:OA} {e:TypeId} {size:Nat} {ds:List D} {xs:List Value} (h:w.ownsRow base e size (.slice a n cap) n xs) (hl:∀ b,base<=b->A b) (hx:zar w A ds xs):EAt w A a n ds:=by
 rcases h.2 with ⟨h1,h2⟩ | ⟨g,cap',cur,h1,hb,hg,hn,hc,hs,ht⟩
 . exact Or.inl h2
 . injection h1 with h1 _ _
   refine Or.inr ⟨g,0,xs,h1,hl g hb,zab hg,fun j u hj=>?_,hx⟩;have:=h.cells (g:=g) (by rw [h1];rfl) j u hj;rw [vbd]
   have e:(⟨g,0,none⟩:Addr).add j=⟨g,j,none⟩:=by unfold Addr.add;split<;>simp_all
   rwa [e] at this
mutual
def D.fine:D->Prop
 | .int n=>(Lit.int .i64 n).wf=true
 | .str _=>True
 | .bool _=>True
 | .list n ds=>n<=ds.length/\ds.length<=17592186044416/\D.fines ds
def D.fines:List D->Prop
 | []=>True
 | d :: ds=>d.fine/\D.fines ds
end
mutual
theorem zfp.toD {A:Nat->Prop} {w:World}:∀ (d:D) (v:Value),zfp w A d v->d.fine->zcl w A d v
 | .int _,_,h,k=>by unfold zfp at h;unfold D.fine at k;unfold zcl;exact ⟨h,k⟩
 | .str _,_,h,_=>by unfold zfp at h;unfold zcl;exact h
 | .bool _,_,h,_=>by unfold zfp at h;unfold zcl;exact h
 | .list n ds,v,h,k=>by
   unfold zfp at h;unfold D.fine at k;unfold zcl;obtain ⟨a,cap,h1,h4⟩:=h;refine ⟨a,cap,h1,k.1,k.2.1,?_⟩
   rcases h4 with h4 | ⟨b,off,cs,ha,hl,hb,hc,hx⟩
   . exact Or.inl h4
   . exact Or.inr ⟨b,off,cs,ha,hl,hb,hc,zar.toD ds cs hx k.2.2⟩
theorem zar.toD {A:Nat->Prop} {w:World}:∀ (l:List D) (cs:List Value),zar w A l cs->D.fines l->zao w A l cs
 | [],_,h,_=>by unfold zar at h;unfold zao;exact h
 | d :: ds,cs,h,k=>by
   unfold zar at h;unfold D.fines at k;unfold zao;obtain ⟨v,r,h1,h2,h3⟩:=h;exact ⟨v,r,h1,zfp.toD d v h2 k.1,zar.toD ds r h3 k.2⟩
end
theorem EAt.toD {A:Nat->Prop} {w:World} {a:OA} {n:Nat} {ds:List D} (h:EAt w A a n ds) (h1:n<=ds.length) (h2:ds.length<=17592186044416) (k:D.fines ds):DAt w A a n ds:=by
 refine ⟨h1,h2,?_⟩
 rcases h with h | ⟨b,off,cs,ha,hl,hb,hc,hx⟩
 . exact Or.inl h
 . exact Or.inr ⟨b,off,cs,ha,hl,hb,hc,hx.toD _ _ k⟩
theorem D.fines_append:∀ {l m:List D},D.fines l->D.fines m->D.fines (l++m)
 | [],_,_,k=>k
 | d :: ds,m,h,k=>by
   unfold D.fines at h;show D.fines (d :: (ds++m));unfold D.fines;exact ⟨h.1,D.fines_append h.2 k⟩
inductive Nd where
 | mk (op n m at_:Int) (args:List Nd)
def Nd.op:Nd->Int | .mk op _ _ _ _=>op
def Nd.n:Nd->Int | .mk _ n _ _ _=>n
def Nd.m:Nd->Int | .mk _ _ m _ _=>m
def Nd.at_:Nd->Int | .mk _ _ _ a _=>a
def Nd.args:Nd->List Nd | .mk _ _ _ _ l=>l
inductive Ac where
 | mk (op n m at_:Int) (args:List Nd) (body other:List Ac)
def Ac.op:Ac->Int | .mk op _ _ _ _ _ _=>op
def Ac.n:Ac->Int | .mk _ n _ _ _ _ _=>n
def Ac.m:Ac->Int | .mk _ _ m _ _ _ _=>m
def Ac.at_:Ac->Int | .mk _ _ _ a _ _ _=>a
def Ac.args:Ac->List Nd | .mk _ _ _ _ l _ _=>l
def Ac.body:Ac->List Ac | .mk _ _ _ _ _ l _=>l
def Ac.other:Ac->List Ac | .mk _ _ _ _ _ _ l=>l
mutual
def Nd.ds:Nd->List D
 | .mk op n m a args=>[.int op,.int n,.int m,.int a,.list args.length (zcm args)]
def zcm:List Nd->List D
 | []=>[]
 | x :: r=>x.ds++zcm r
end
mutual
def Ac.ds:Ac->List D
 | .mk op n m a args body other=>[.int op,.int n,.int m,.int a,.list args.length (zcm args),.list body.length (zch body),.list other.length (zch other)]
def zch:List Ac->List D
 | []=>[]
 | x :: r=>x.ds++zch r
end
theorem Nd.ds_len (x:Nd):x.ds.length=5:=by cases x;unfold Nd.ds;rfl
theorem Ac.ds_len (x:Ac):x.ds.length=7:=by cases x;unfold Ac.ds;rfl
theorem zja:∀ (l m:List Nd),zcm (l++m)=zcm l++zcm m
 | [],m=>by simp [zcm]
 | x :: r,m=>by simp [zcm,zja r m]
theorem zjb:∀ (l m:List Ac),zch (l++m)=zch l++zch m
 | [],m=>by simp [zch]
 | x :: r,m=>by simp [zch,zjb r m]
theorem zx5 (x:Nd):zcm [x]=x.ds:=by simp [zcm]
theorem zx6 (x:Ac):zch [x]=x.ds:=by simp [zch]
structure Pt where
 params:Int
 locals:Int
 body:List Ac
def Pt.ds (p:Pt):List D:=[.int p.params,.int p.locals,.list p.body.length (zch p.body)]
def zjw (l:List Pt):List D:=l.flatMap Pt.ds
structure Un where
 name:ByteArray
 uses:List ByteArray
 data:Int
 parts:List Pt
 main:List Ac
structure Mg where
 kind:Int
 n:Int
 m:Int
 at_:Int
def mg0:Mg:=⟨0,0,0,0⟩
abbrev Kn:=ByteArray->ByteArray->Option Mg
abbrev Lc:=ByteArray->Option Int
def z2b (K:Kn) (L:Lc) (mod name:ByteArray):Option Mg:=
 if mod.size=0 then (match L name with | some a=>some ⟨0,0,0,a⟩ | none=>K mod name) else K mod name
def findM (K:Kn) (L:Lc) (mod name:ByteArray) (ks:List Int):Mg × Int:=
 match z2b K L mod name with
 | none=>(mg0,5)
 | some x=>if ks.contains x.kind then (x,0) else (mg0,7)
def zhp (K:Kn) (L:Lc) (mod name:ByteArray) (handed:Int):Mg × Int:=
 if (findM K L mod name [4]).2=0/\(findM K L mod name [4]).1.n≠handed then (mg0,8) else findM K L mod name [4]
structure Al where
 op:Int
 n:Int
 m:Int
 at_:Int
 err:Int
def z1c (K:Kn) (L:Lc) (mod name:ByteArray):Al:=
 if (findM K L mod name [0,1,2]).2≠0 then ⟨0,0,0,0,(findM K L mod name [0,1,2]).2⟩
 else if (findM K L mod name [0,1,2]).1.kind=1 then ⟨1,(findM K L mod name [0,1,2]).1.n,0,0,0⟩
 else if (findM K L mod name [0,1,2]).1.kind=2 then ⟨3,0,(findM K L mod name [0,1,2]).1.m,(findM K L mod name [0,1,2]).1.at_,0⟩
 else ⟨16,0,0,(findM K L mod name [0,1,2]).1.at_,0⟩
def ndM (K:Kn) (L:Lc) (x:Ex):Al:=
 if x.op=3 then z1c K L x.mod x.name
 else if x.op=4 then ⟨4,(findM K L x.mod x.name [3]).1.n,(findM K L x.mod x.name [3]).1.m,(findM K L x.mod x.name [3]).1.at_,(findM K L x.mod x.name [3]).2⟩
 else if x.op=5 then ⟨5,0,(zhp K L x.mod x.name x.args.length).1.m,(zhp K L x.mod x.name x.args.length).1.at_,(zhp K L x.mod x.name x.args.length).2⟩
 else ⟨x.op,x.n,0,0,0⟩
def acM (K:Kn) (L:Lc) (s:St):Al:=
 if s.op=1 then ⟨1,0,if (findM K L s.mod s.name [0,2]).1.kind=0 then -1 else (findM K L s.mod s.name [0,2]).1.m,(findM K L s.mod s.name [0,2]).1.at_,(findM K L s.mod s.name [0,2]).2⟩
 else if s.op=2 then ⟨2,(findM K L s.mod s.name [3]).1.n,(findM K L s.mod s.name [3]).1.m,(findM K L s.mod s.name [3]).1.at_,(findM K L s.mod s.name [3]).2⟩
 else if s.op=3 then ⟨3,0,(zhp K L s.mod s.name s.args.length).1.m,(zhp K L s.mod s.name s.args.length).1.at_,(zhp K L s.mod s.name s.args.length).2⟩
 else ⟨s.op,0,0,0,0⟩
def zcr {α β:Type}:Except Int α->(α->Except Int β)->Except Int β
 | .error e,_=>.error e
 | .ok a,f=>f a
def alE (a:Al):Except Int Al:=if a.err=0 then .ok a else .error a.err
mutual
def rsE (K:Kn) (L:Lc):Ex->Except Int Nd
 | .mk op n mod name args=>zcr (alE (ndM K L (.mk op n mod name args))) fun h=>zcr (zf0 K L args) fun l=>.ok (.mk h.op h.n h.m h.at_ l)
def zf0 (K:Kn) (L:Lc):List Ex->Except Int (List Nd)
 | []=>.ok []
 | x :: r=>zcr (rsE K L x) fun y=>zcr (zf0 K L r) fun l=>.ok (y :: l)
end
mutual
def rsS (K:Kn) (L:Lc):St->Except Int Ac
 | .mk op mod name args body other=>zcr (alE (acM K L (.mk op mod name args body other))) fun h=>zcr (zf0 K L args) fun l=>zcr (zeq K L body) fun b=>zcr (zeq K L other) fun o=>.ok (.mk h.op h.n h.m h.at_ l b o)
def zeq (K:Kn) (L:Lc):List St->Except Int (List Ac)
 | []=>.ok []
 | x :: r=>zcr (rsS K L x) fun y=>zcr (zeq K L r) fun l=>.ok (y :: l)
end
theorem zmb {α:Type} (x:Except Int α):zcr x .ok=x:=by cases x<;>rfl
theorem zmc (K:Kn) (L:Lc):∀ (a b:List Ex) (acc:List Nd),zf0 K L a = .ok acc->zf0 K L (a++b)=zcr (zf0 K L b) fun l=>.ok (acc++l)
 | [],b,acc,h=>by
   rw [zf0] at h;obtain rfl:=vcx h;show zf0 K L b=_;exact (zmb _).symm
 | x :: a,b,acc,h=>by
   rw [zf0] at h;show zf0 K L (x :: (a++b))=_;rw [zf0]
   cases hx:rsE K L x with
   | error e=>rw [hx] at h;cases h
   | ok y=>
     rw [hx] at h;simp only [zcr] at h ⊢
     cases ha:zf0 K L a with
     | error e=>rw [ha] at h;cases h
     | ok l=>
       rw [ha] at h;obtain rfl:=vcx h;rw [zmc K L a b l ha]
       cases zf0 K L b<;>rfl
theorem zmd (K:Kn) (L:Lc):∀ (a b:List St) (acc:List Ac),zeq K L a = .ok acc->zeq K L (a++b)=zcr (zeq K L b) fun l=>.ok (acc++l)
 | [],b,acc,h=>by
   rw [zeq] at h;obtain rfl:=vcx h;show zeq K L b=_;exact (zmb _).symm
 | x :: a,b,acc,h=>by
   rw [zeq] at h;show zeq K L (x :: (a++b))=_;rw [zeq]
   cases hx:rsS K L x with
   | error e=>rw [hx] at h;cases h
   | ok y=>
     rw [hx] at h;simp only [zcr] at h ⊢
     cases ha:zeq K L a with
     | error e=>rw [ha] at h;cases h
     | ok l=>
       rw [ha] at h;obtain rfl:=vcx h;rw [zmd K L a b l ha]
       cases zeq K L b<;>rfl
theorem zme {α:Type} (l:List α) (j:Nat) (h:j<l.length):l=l.take j++l[j] :: l.drop (j+1):=by
 rw [List.getElem_cons_drop,vde]
theorem zx7 {K:Kn} {L:Lc} {l:List Ex} {j:Nat} {acc:List Nd} {e:Int} (h:j<l.length) (ha:zf0 K L (l.take j) = .ok acc) (he:rsE K L l[j] = .error e):zf0 K L l = .error e:=by
 rw [zme l j h,zmc K L _ _ acc ha,zf0,he];rfl
theorem zvk {K:Kn} {L:Lc} {l:List Ex} {j:Nat} {acc:List Nd} {y:Nd} (h:j<l.length) (ha:zf0 K L (l.take j) = .ok acc) (he:rsE K L l[j] = .ok y):zf0 K L (l.take (j+1)) = .ok (acc++[y]):=by
 rw [vaf h,zmc K L _ _ acc ha,zf0,he];rfl
theorem zx8 {K:Kn} {L:Lc} {l:List St} {j:Nat} {acc:List Ac} {e:Int} (h:j<l.length) (ha:zeq K L (l.take j) = .ok acc) (he:rsS K L l[j] = .error e):zeq K L l = .error e:=by
 rw [zme l j h,zmd K L _ _ acc ha,zeq,he];rfl
theorem zvl {K:Kn} {L:Lc} {l:List St} {j:Nat} {acc:List Ac} {y:Ac} (h:j<l.length) (ha:zeq K L (l.take j) = .ok acc) (he:rsS K L l[j] = .ok y):zeq K L (l.take (j+1)) = .ok (acc++[y]):=by
 rw [vaf h,zmd K L _ _ acc ha,zeq,he];rfl
theorem zvm (K:Kn) (L:Lc) (x:Ex):rsE K L x=zcr (alE (ndM K L x)) fun h=>zcr (zf0 K L x.args) fun l=>.ok (.mk h.op h.n h.m h.at_ l):=by
 obtain ⟨op,n,mod,name,args⟩:=x;rw [rsE];rfl
theorem znz (K:Kn) (L:Lc) (x:St):rsS K L x=zcr (alE (acM K L x)) fun h=>zcr (zf0 K L x.args) fun l=>zcr (zeq K L x.body) fun b=>zcr (zeq K L x.other) fun o=>.ok (.mk h.op h.n h.m h.at_ l b o):=by
 obtain ⟨op,mod,name,args,body,other⟩:=x;rw [rsS];rfl
structure Sh where
 named:Bool
 number:Bool
 least:Int
 most:Int
 body:Bool
 other:Bool
def Sh.val (s:Sh):Value:=.agg #[.bool s.named,.bool s.number,.int .i64 s.least,.int .i64 s.most,.bool s.body,.bool s.other]
def sh0:Sh:=⟨false,false,0,0,false,false⟩
def zhq (op:Int):Option Sh:=
 if op=1 then some ⟨false,true,0,0,false,false⟩ else if op=2 then some sh0 else if op=3 then some ⟨true,false,0,0,false,false⟩
 else if op=4 then some ⟨true,false,1,1,false,false⟩ else if op=5 then some ⟨true,false,0,3,false,false⟩ else if op=6 then some ⟨false,false,1,1,false,false⟩
 else if 7<=op/\op<=15 then some ⟨false,false,2,2,false,false⟩ else none
def zjx (op:Int):Option Sh:=
 if op=1 then some ⟨true,false,1,1,false,false⟩ else if op=2 then some ⟨true,false,2,2,false,false⟩ else if op=3 then some ⟨true,false,0,3,false,false⟩
 else if op=4 then some ⟨false,false,1,1,true,true⟩ else if op=5 then some ⟨false,false,1,1,true,false⟩ else if op=6 then some ⟨false,false,1,1,false,false⟩
 else if op=7 then some ⟨false,false,1,1,false,false⟩ else none
def exB (op:Int):Bool:=(zhq op).isSome
def stB (op:Int):Bool:=(zjx op).isSome
def exS (op:Int):Sh:=(zhq op).getD sh0
def stS (op:Int):Sh:=(zjx op).getD sh0
def kept:List (L8):=[[109,111,100,117,108,101],[117,115,101],[112,117,98],[99,111,110,115,116],[118,97,114],[97,114,114,97,121],[112,114,111,99],[108,111,99,97,108],[109,97,105,110],
 [105,102],[101,108,115,101],[119,104,105,108,101],[114,101,116,117,114,110],[111,117,116],[105,110]]
def zn0 (s:ByteArray):Bool:=kept.contains s.data.toList
def nameOk (s:ByteArray):Bool:=!zn0 s&&Lx.zcd s.data.toList
def numOkB (n:Int):Bool:=decide (0<=n)&&decide (n<=1099511627775)
def zcj (h:Sh) (mod name:ByteArray):Bool:=if h.named then nameOk name&&(decide (mod.size=0)||nameOk mod) else decide (mod.size=0)&&decide (name.size=0)
def nOk (h:Sh) (n:Int):Bool:=if h.number then numOkB n else decide (n=0)
def za4 (h:Sh) (k:Nat):Bool:=decide (h.least<=(k:Int))&&decide ((k:Int)<=h.most)
def za5:Nat->List Ex->Bool
 | 0,_=>true
 | k+1,l=>l.all (fun x=>exB x.op&&za5 k x.args)
def zap:Nat->List St->Bool
 | 0,_=>true
 | k+1,l=>l.all (fun s=>stB s.op&&(za5 6 s.args&&(zap k s.body&&zap k s.other)))
def zan:Nat->List Ex->Bool
 | 0,l=>decide (0<l.length)
 | k+1,l=>decide (3<l.length)||l.any (fun x=>zan k x.args)
def zah:Nat->List St->Bool
 | 0,_=>true
 | k+1,l=>decide (10<l.length)||l.any (fun s=>zan 6 s.args||(((stS s.op).body||decide (0<s.body.length))&&zah k s.body||(decide (0<s.other.length)&&zah k s.other)))
def zba:Nat->List Ex->Bool
 | 0,_=>true
 | k+1,l=>l.all (fun x=>zcj (exS x.op) x.mod x.name&&(nOk (exS x.op) x.n&&(za4 (exS x.op) x.args.length&&zba k x.args)))
def zaq:Nat->List St->Bool
 | 0,_=>true
 | k+1,l=>l.all (fun s=>zcj (stS s.op) s.mod s.name&&(za4 (stS s.op) s.args.length&&(zba 6 s.args&&(((stS s.op).body||decide (s.body.length=0))&&(((stS s.op).other||decide (s.other.length=0))&&(zaq k s.body&&zaq k s.other))))))
def zdh (d:De):Bool:=if d.kind=1 then numOkB d.n else if d.kind=3 then decide (1<=d.n)&&decide (d.n<=32) else decide (d.n=0)
def Mo.bodies (m:Mo):List (List St):=m.procs.map Pr.body++[m.main]
def Mo.kinds (m:Mo):Bool:=m.decls.all (fun d=>decide (1<=d.kind)&&decide (d.kind<=3))&&m.bodies.all (zap 6)
def Mo.many (m:Mo):Bool:=decide (3<m.uses.length)||(decide (10<m.decls.length)||(decide (6<m.procs.length)||(m.procs.any (fun p=>decide (3<p.params.length)||decide (4<p.locals.length))||m.bodies.any (zah 6))))
def Mo.form (m:Mo):Bool:=nameOk m.name&&(m.uses.all nameOk&&(m.decls.all (fun d=>nameOk d.name&&zdh d)&&(m.procs.all (fun p=>nameOk p.name&&(p.params.all nameOk&&p.locals.all nameOk))&&m.bodies.all (zaq 6))))
def Mo.err (m:Mo):Int:=if m.kinds then (if m.many then 2 else (if m.form then 0 else 1)) else 4
theorem zih {α:Type} (ts:List α) (p:α->Bool) (k:Nat) (h:k<ts.length):(ts.take (k+1)).any p=((ts.take k).any p||p ts[k]):=by
 rw [vaf h,List.any_append];simp
theorem zrb {α:Type} (ts:List α) (p:α->Bool) (k:Nat) (h:k<ts.length) (hp:p ts[k]=true):ts.any p=true:=by
 rw [vdr];exact ⟨ts[k],vah _,hp⟩
theorem zb2 {α:Type} {ts:List α} {p:α->Bool} {k:Nat} (h:(ts.take k).all p=true) (hk:¬ k<ts.length):ts.all p=true:=by
 rw [vao (by omega)] at h;exact h
theorem zmf {α:Type} {ts:List α} {p:α->Bool} {k:Nat} (h:(ts.take k).any p=false) (hk:¬ k<ts.length):ts.any p=false:=by
 rw [vao (by omega)] at h;exact h
theorem zx9 {n:Int} (h:(Lit.int .i64 n).wf=true) : -9223372036854775808<=n/\n<=9223372036854775807:=by
 have h1:IntKind.i64.min = -9223372036854775808:=by decide
 have h2:IntKind.i64.max=9223372036854775807:=by decide
 simp [Lit.wf,h1,h2] at h;omega
set_option maxRecDepth 100000
set_option maxHeartbeats 1600000
theorem zya (s:ByteArray):zn0 s=((s.toList == [109,111,100,117,108,101])||((s.toList == [117,115,101])||((s.toList == [112,117,98])||((s.toList == [99,111,110,115,116])||((s.toList == [118,97,114])||((s.toList == [97,114,114,97,121])||((s.toList == [112,114,111,99])||((s.toList == [108,111,99,97,108])||((s.toList == [109,97,105,110]) ||
 ((s.toList == [105,102])||((s.toList == [101,108,115,101])||((s.toList == [119,104,105,108,101])||((s.toList == [114,101,116,117,114,110])||((s.toList == [111,117,116])||((s.toList == [105,110])||false))))))))))))))):=by
 unfold zn0 kept;rw [vax];simp only [List.contains_cons,List.contains_nil]
theorem zk6 (s:ByteArray) (w:World) :
 Calls Tryz.prog 237 #[.string s] w fun e w'=>e = .returned (.bool (zn0 s))/\w'=w:=by
 go_enter Tryz.func237,Tryz.ntmps237;go_wp2_with fail
 all_goals go_ret
 all_goals refine ⟨zaa ?_,rfl⟩
 all_goals rw [zya]
 all_goals simp only [*,Bool.true_or,Bool.false_or,Bool.or_true]
 all_goals simp_all only [vcp]
theorem zrc (w:World) (o:Obj):(w.alloc o).heap[w.heap.size]? = some o:=(MapKept.heap_alloc w o).1
theorem zsv (t:Tk) (hk:zdj t=true):(zc6 [t] == 0)=t.okB:=by
 unfold zc6;simp only [vcn,vdk,hk,Bool.and_true,if_true,vat,vdu]
 cases t.okB<;>rfl
theorem z0h (t:Tk) (w:World) (hs:t.text.size<=maxLen):zco (w.alloc (.cells #[.int .i64 t.kind,.int .i64 t.n,.string t.text] 184)) (some ⟨w.heap.size,0,none⟩) [t]:=by
 have h:∀ j u,#[Value.int .i64 t.kind,.int .i64 t.n,.string t.text][j]? = some u->(w.alloc (.cells #[.int .i64 t.kind,.int .i64 t.n,.string t.text] 184)).cell? ⟨w.heap.size,j,none⟩=some u:=fun j u hj=>by
  rw [ved (zrc w _)];exact hj
 refine Or.inr ⟨_,0,rfl,by simp,?_,?_,?_,?_⟩
 . intro i hi
   obtain rfl:i=0:=by simpa using hi
   exact h 0 _ rfl
 . intro i hi
   obtain rfl:i=0:=by simpa using hi
   exact h 1 _ rfl
 . intro i hi
   obtain rfl:i=0:=by simpa using hi
   exact h 2 _ rfl
 . intro i hi
   obtain rfl:i=0:=by simpa using hi
   exact hs
theorem zn1 (t:Tk) (w:World) (hs:t.text.size<=maxLen) (hk:zdj t=true) :
 Calls Tryz.prog 238 #[t.val] w fun e w'=>e = .returned (.bool t.okB)/\Below w.heap.size w w':=by
 have HK:Hid ((zc6 [t] == 0)=t.okB):=zsv t hk
 have HC:Hid (∀ (w1:World) (n:Nat),n=w1.heap.size->Calls Tryz.prog 116 #[.slice (some ⟨n,0,none⟩) 1 1] (w1.alloc (.cells #[.int .i64 t.kind,.int .i64 t.n,.string t.text] 184)) fun e w'=>e = .returned (.int .i64 (zc6 [t]))/\Below w1.heap.size w1 w'):=
  fun w1 n hn=>by
   subst hn;refine (zuh _ 1 [t] _ (z0h t w1 hs) (by simp)).mono ?_;rintro e w' ⟨rfl,hb⟩;exact ⟨rfl,((Below.refl _ _).alloc (vaa _) _).trans (hb.mono (by simp))⟩
 obtain ⟨K,N,S⟩:=t;simp only [Tk.val] at *;go_enter Tryz.func238,Tryz.ntmps238
 go_wp2_with (go_at_call 116;refine (HC.out _ _ (by simp)).mono ?_;rintro e w' ⟨rfl,hb⟩)
 go_ret;exact ⟨zaa HK.out,((Below.refl _ _).alloc (vaa _) _).trans (hb.mono (by simp))⟩
theorem zyb (s:ByteArray):Tk.okB ⟨1,0,s⟩=Lx.zcd s.data.toList:=by simp [Tk.okB]
theorem z0i (n:Int):Tk.okB ⟨2,n,⟨#[]⟩⟩=numOkB n:=by simp [Tk.okB,numOkB,vax]
theorem zc9 (s:ByteArray) (w:World) (hs:s.size<=maxLen) :
 Calls Tryz.prog 186 #[.string s] w fun e w'=>e = .returned (.bool (nameOk s))/\Below w.heap.size w w':=by
 have HC:Hid (∀ w1:World,Calls Tryz.prog 238 #[.agg #[.int .i64 1,.int .i64 0,.string s]] w1 fun e w'=>e = .returned (.bool (Lx.zcd s.data.toList))/\Below w1.heap.size w1 w'):=fun w1=>by
  rw [← zyb];exact zn1 ⟨1,0,s⟩ w1 hs rfl
 by_cases hk:zn0 s=true
 . have HN:Hid (nameOk s=false):=by show _=_;simp [nameOk,hk]
   go_enter Tryz.func186,Tryz.ntmps186
   go_wp2_with (go_at_call 237;refine (zk6 s _).mono ?_;rintro e w' ⟨rfl,rfl⟩)
   go_ret;exact ⟨zaa (by rw [HN.out]),Below.refl _ _⟩
 . have hk':zn0 s=false:=by simpa using hk
   clear hk
   have HN:Hid (nameOk s=Lx.zcd s.data.toList):=by show _=_;simp [nameOk,hk']
   go_enter Tryz.func186,Tryz.ntmps186
   go_wp2_with (first | (go_at_call 237;refine (zk6 s _).mono ?_;rintro e w' ⟨rfl,rfl⟩) | (go_at_call 238;refine (HC.out _).mono ?_;rintro e w' ⟨rfl,hb⟩))
   go_ret;exact ⟨zaa (by rw [HN.out]),hb⟩
theorem zjc (n:Int) (w:World) :
 Calls Tryz.prog 241 #[.int .i64 n] w fun e w'=>e = .returned (.bool (numOkB n))/\Below w.heap.size w w':=by
 have HC:Hid (∀ w1:World,Calls Tryz.prog 238 #[.agg #[.int .i64 2,.int .i64 n,.string ⟨#[]⟩]] w1 fun e w'=>e = .returned (.bool (numOkB n))/\Below w1.heap.size w1 w'):=fun w1=>by
  rw [← z0i];exact zn1 ⟨2,n,⟨#[]⟩⟩ w1 (vad _) rfl
 go_enter Tryz.func241,Tryz.ntmps241
 go_wp2_with (go_at_call 238;refine (HC.out _).mono ?_;rintro e w' ⟨rfl,hb⟩)
 go_ret;exact ⟨rfl,hb⟩
theorem zhr (s:ByteArray):s.toList.isEmpty=decide (s.size=0):=by
 rw [vax];have h:=Lx.zav s
 cases hl:s.data.toList with
 | nil=>rw [hl] at h;have h':s.size=0:=h.symm;simp [h']
 | cons c r => rw [hl] at h;have h':s.size≠0:=by simp at h;omega
               simp [h']
theorem zh0 (h:Sh) (mod name:ByteArray) (w:World) (h1:mod.size<=maxLen) (h2:name.size<=maxLen) :
 Calls Tryz.prog 242 #[h.val,.string mod,.string name] w fun e w'=>e = .returned (.bool (zcj h mod name))/\Below w.heap.size w w':=by
 obtain ⟨a,b,c,d,e,f⟩:=h;simp only [Sh.val]
 cases a with
 | false=>
   have HR:Hid (zcj ⟨false,b,c,d,e,f⟩ mod name=(mod.toList.isEmpty&&name.toList.isEmpty)):=by show _=_;simp [zcj,zhr]
   cases hm:mod.toList.isEmpty with
   | false=>
     go_enter Tryz.func242,Tryz.ntmps242;go_wp2_with fail;go_ret;exact ⟨zaa (by rw [HR.out,hm];rfl),(Below.refl _ _).alloc (vaa _) _⟩
   | true=>
     go_enter Tryz.func242,Tryz.ntmps242;go_wp2_with fail;go_ret;exact ⟨zaa (by rw [HR.out,hm];rfl),(Below.refl _ _).alloc (vaa _) _⟩
 | true=>
   have HR:Hid (zcj ⟨true,b,c,d,e,f⟩ mod name=(nameOk name&&(mod.toList.isEmpty||nameOk mod))):=by show _=_;simp [zcj,zhr]
   cases hn:nameOk name with
   | false=>
     go_enter Tryz.func242,Tryz.ntmps242
     go_wp2_with (go_at_call 186;refine (zc9 name _ h2).mono ?_;rw [hn];rintro e w' ⟨rfl,hb⟩)
     go_ret;exact ⟨zaa (by rw [HR.out,hn];rfl),((Below.refl _ _).alloc (vaa _) _).trans (hb.mono (by simp))⟩
   | true=>
     cases hm:mod.toList.isEmpty with
     | true=>
       go_enter Tryz.func242,Tryz.ntmps242
       go_wp2_with (go_at_call 186;refine (zc9 name _ h2).mono ?_;rw [hn];rintro e w' ⟨rfl,hb⟩)
       go_ret;exact ⟨zaa (by rw [HR.out,hn,hm];rfl),((Below.refl _ _).alloc (vaa _) _).trans (hb.mono (by simp))⟩
     | false=>
       go_enter Tryz.func242,Tryz.ntmps242;go_wp2_with fail;refine (zc9 name _ h2).mono ?_;rw [hn];rintro e w1 ⟨rfl,hb⟩;go_wp2_with fail;refine (zc9 mod _ h1).mono ?_;rintro e w2 ⟨rfl,hb2⟩;go_wp2_with fail;go_ret;exact ⟨zaa (by rw [HR.out,hn,hm];simp),(((Below.refl _ _).alloc (vaa _) _).trans (hb.mono (by simp))).trans (hb2.mono (vav (by simp) hb.size))⟩
theorem zjd (h:Sh) (n:Int) (w:World) :
 Calls Tryz.prog 280 #[h.val,.int .i64 n] w fun e w'=>e = .returned (.bool (nOk h n))/\Below w.heap.size w w':=by
 obtain ⟨a,b,c,d,e,f⟩:=h;simp only [Sh.val]
 cases b with
 | false=>
   have HR:Hid (nOk ⟨a,false,c,d,e,f⟩ n=(n == 0)):=by show _=_;rw [vcs];simp [nOk]
   go_enter Tryz.func280,Tryz.ntmps280;go_wp2_with fail;go_ret;exact ⟨zaa HR.out.symm,(Below.refl _ _).alloc (vaa _) _⟩
 | true=>
   have HR:Hid (nOk ⟨a,true,c,d,e,f⟩ n=numOkB n):=by show _=_;simp [nOk]
   go_enter Tryz.func280,Tryz.ntmps280
   go_wp2_with (go_at_call 241;refine (zjc n _).mono ?_;rintro e w' ⟨rfl,hb⟩)
   go_ret;exact ⟨zaa HR.out.symm,((Below.refl _ _).alloc (vaa _) _).trans (hb.mono (by simp))⟩
theorem zf4 (h:Sh) (aa:OA) (k cap:Nat) (w:World) :
 Calls Tryz.prog 243 #[h.val,.slice aa k cap] w fun e w'=>e = .returned (.bool (za4 h k))/\Below w.heap.size w w':=by
 obtain ⟨a,b,c,d,e,f⟩:=h;simp only [Sh.val];have HR:Hid (za4 ⟨a,b,c,d,e,f⟩ k=(decide (c<=(k:Int))&&decide ((k:Int)<=d))):=rfl
 by_cases h1:c<=(k:Int)
 . go_enter Tryz.func243,Tryz.ntmps243
   go_wp2_with fail
   all_goals go_ret
   all_goals exact ⟨zaa (by rw [HR.out];simp [*]<;>omega),(Below.refl _ _).alloc (vaa _) _⟩
 . go_enter Tryz.func243,Tryz.ntmps243
   go_wp2_with fail
   all_goals go_ret
   all_goals exact ⟨zaa (by rw [HR.out];simp [*]<;>omega),(Below.refl _ _).alloc (vaa _) _⟩
theorem zmg (x:De) (w:World) :
 Calls Tryz.prog 188 #[.agg #[.int .i64 x.kind,.string x.name,.bool x.pub,.int .i64 x.n]] w fun e w'=>e = .returned (.bool (zdh x))/\Below w.heap.size w w':=by
 obtain ⟨K,S,B,N⟩:=x
 by_cases k1:K=1
 . have HR:Hid (zdh ⟨K,S,B,N⟩=numOkB N):=if_pos k1
   subst k1;go_enter Tryz.func188,Tryz.ntmps188
   go_wp2_with (go_at_call 241;refine (zjc N _).mono ?_;rintro e w' ⟨rfl,hb⟩)
   go_ret;exact ⟨zaa HR.out.symm,((Below.refl _ _).alloc (vaa _) _).trans (hb.mono (by simp))⟩
 . have b1:(K == 1)=false:=beq_eq_false_iff_ne.2 k1
   by_cases k3:K=3
   . have HR:Hid (zdh ⟨K,S,B,N⟩=(decide (1<=N)&&decide (N<=32))):=(if_neg k1).trans (if_pos k3)
     subst k3;clear k1 b1
     by_cases n1:1<=N
     . go_enter Tryz.func188,Tryz.ntmps188
       go_wp2_with fail
       all_goals go_ret
       all_goals exact ⟨zaa (by rw [HR.out];simp [*]<;>omega),(Below.refl _ _).alloc (vaa _) _⟩
     . go_enter Tryz.func188,Tryz.ntmps188
       go_wp2_with fail
       all_goals go_ret
       all_goals exact ⟨zaa (by rw [HR.out];simp [*]<;>omega),(Below.refl _ _).alloc (vaa _) _⟩
   . have b3:(K == 3)=false:=beq_eq_false_iff_ne.2 k3
     have HR:Hid (zdh ⟨K,S,B,N⟩=(N == 0)):=by
      show _=_
      rw [vcs];simp [zdh,k1,k3]
     clear k1 k3;go_enter Tryz.func188,Tryz.ntmps188;go_wp2_with fail
     all_goals go_ret
     all_goals exact ⟨zaa (by rw [HR.out]),(Below.refl _ _).alloc (vaa _) _⟩
end Go.Proofs.YtndkhgakfodldaaGreatDoor
