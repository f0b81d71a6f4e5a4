import Derived.Test.YtndkhgakfodldaaGreatDoorLeafc
import Derived.Deep.AppendLies
namespace Go.Proofs.YtndkhgakfodldaaGreatDoor
open Go.RowKit
inductive D where
 | int (n:Int)
 | str (s:ByteArray)
 | bool (b:Bool)
 | list (n:Nat) (ds:List D)
def zfy (w:World) (b off:Nat) (l:List Value):Prop:=∀ j u,l[j]? = some u->w.cell? ⟨b,off+j,none⟩=some u
mutual
def zcv (w:World) (A:Nat->Prop):D->Value->Prop
 | .int n,v=>v = .int .i64 n/\(Lit.int .i64 n).wf=true
 | .str s,v=>v = .string s/\s.size<=maxLen
 | .bool b,v=>v = .bool b
 | .list n ds,v=>∃ a cap,v = .slice a n cap/\n<=ds.length/\ds.length<=17592186044416/\(n=0\/∃ b off cs,a=some ⟨b,off,none⟩/\A b/\b<w.heap.size/\zfy w b off cs/\zan w A ds cs)
def zan (w:World) (A:Nat->Prop):List D->List Value->Prop
 | [],cs=>cs=[]
 | d :: ds,cs=>∃ v r,cs=v :: r/\zcv w A d v/\zan w A ds r
end
def zfl (lo:Nat) (w w':World):Prop:=w.heap.size<=w'.heap.size/\∀ k,lo<=k->k<w.heap.size->w'.heap[k]? = w.heap[k]?
theorem zfl.refl (lo:Nat) (w:World):zfl lo w w:=⟨vaa _,fun _ _ _=>rfl⟩
theorem zfl.trans {lo:Nat} {a b c:World} (h:zfl lo a b) (k:zfl lo b c):zfl lo a c:=
 ⟨vbd h.1 k.1,fun i h1 h2=>(k.2 i h1 (vah h2 h.1)).trans (h.2 i h1 h2)⟩
theorem zfl.mono {lo lo':Nat} {w w':World} (h:zfl lo w w') (hl:lo<=lo'):zfl lo' w w':=⟨h.1,fun k h1 h2=>h.2 k (vbd hl h1) h2⟩
theorem zfl.of_below {w w':World} (h:qb w w') (lo:Nat):zfl lo w w':=⟨h.size,fun k _ h2=>h.block k h2⟩
theorem zfl.cell {lo:Nat} {w w':World} (h:zfl lo w w') {b off:Nat} (h1:lo<=b) (h2:b<w.heap.size):w'.cell? (qa b off)=w.cell? (qa b off):=
 ves (w:=w) (h.2 b h1 h2)
theorem zfl.alloc {lo:Nat} {w w':World} (h:zfl lo w w') (o:Obj):zfl lo w (w'.alloc o):=
 h.trans (zfl.of_below ((Below.refl w'.heap.size w').alloc (vaa _) o) lo)
def zad (w:World) (A:Nat->Prop) (w':World) (A':Nat->Prop):Prop:=w.heap.size<=w'.heap.size/\∀ b,b<w.heap.size->A b->A' b/\w'.heap[b]? = w.heap[b]?
theorem zad.refl (w:World) (A:Nat->Prop):zad w A w A:=⟨vaa _,fun _ _ h=>⟨h,rfl⟩⟩
theorem zad.trans {w1 w2 w3:World} {A1 A2 A3:Nat->Prop} (h:zad w1 A1 w2 A2) (k:zad w2 A2 w3 A3):zad w1 A1 w3 A3:=
 ⟨vbd h.1 k.1,fun b hb ha=>⟨(k.2 b (vah hb h.1) (h.2 b hb ha).1).1,(k.2 b (vah hb h.1) (h.2 b hb ha).1).2.trans (h.2 b hb ha).2⟩⟩
theorem zad.of_below {w w':World} (h:qb w w') (A:Nat->Prop):zad w A w' A:=⟨h.size,fun b hb ha=>⟨ha,h.block b hb⟩⟩
theorem zad.alloc {w w':World} {A A':Nat->Prop} (h:zad w A w' A') (o:Obj):zad w A (w'.alloc o) A':=h.trans (zad.of_below ((Below.refl w'.heap.size w').alloc (vaa _) o) A')
theorem zad.lower {w:World} {lo lo':Nat} (h:lo'<=lo):zad w (lo<=·) w (lo'<=·):=⟨vaa _,fun _ _ ha=>⟨vbd h ha,rfl⟩⟩
theorem zfy.moves {A A':Nat->Prop} {w w':World} {b off:Nat} {l:List Value} (h:zfy w b off l) (hs:zad w A w' A') (h1:A b) (h2:b<w.heap.size):zfy w' b off l:=
 fun j u hj=>(ves (w:=w) (hs.2 b h2 h1).2).trans (h j u hj)
mutual
theorem zcv.moves {A A':Nat->Prop} {w w':World} (hs:zad w A w' A'):∀ (d:D) (v:Value),zcv w A d v->zcv w' A' d v
 | .int _,_,h=>h
 | .str _,_,h=>h
 | .bool _,_,h=>h
 | .list n ds,v,h=>by
   unfold zcv at h ⊢;obtain ⟨a,cap,h1,h2,h3,h4⟩:=h;refine ⟨a,cap,h1,h2,h3,?_⟩
   rcases h4 with h4 | ⟨b,off,cs,ha,hl,hb,hc,hx⟩
   . exact Or.inl h4
   . exact Or.inr ⟨b,off,cs,ha,(hs.2 b hb hl).1,vah hb hs.1,hc.moves hs hl hb,zan.moves hs ds cs hx⟩
theorem zan.moves {A A':Nat->Prop} {w w':World} (hs:zad w A w' A'):∀ (l:List D) (cs:List Value),zan w A l cs->zan w' A' l cs
 | [],_,h=>h
 | d :: ds,cs,h=>by
   unfold zan at h ⊢;obtain ⟨v,r,h1,h2,h3⟩:=h;exact ⟨v,r,h1,zcv.moves hs d v h2,zan.moves hs ds r h3⟩
end
theorem zcv.one {w:World} {lo:Nat->Prop}:∀ {d:D} {v:Value},zcv w lo d v->v.oneCell'=true
 | .int _,_,h=>by unfold zcv at h;rw [h.1];rfl
 | .str _,_,h=>by unfold zcv at h;rw [h.1];rfl
 | .bool _,_,h=>by unfold zcv at h;rw [h];rfl
 | .list _ _,_,h=>by unfold zcv at h;obtain ⟨a,cap,h,_⟩:=h;rw [h];rfl
theorem zan.one {w:World} {lo:Nat->Prop}:∀ {l:List D} {cs:List Value},zan w lo l cs->∀ u ∈ cs,u.oneCell'=true
 | [],_,h=>by unfold zan at h;rw [h];intro u hu;cases hu
 | d :: ds,cs,h=>by
   unfold zan at h;obtain ⟨v,r,rfl,h2,h3⟩:=h;intro u hu
   rcases vby.1 hu with rfl | hu
   . exact h2.one
   . exact zan.one h3 u hu
theorem zan.len {w:World} {lo:Nat->Prop}:∀ {l:List D} {cs:List Value},zan w lo l cs->cs.length=l.length
 | [],_,h=>by unfold zan at h;rw [h];rfl
 | d :: ds,cs,h=>by
   unfold zan at h;obtain ⟨v,r,rfl,h2,h3⟩:=h;simp [zan.len h3]
theorem zan.nil {w:World} {lo:Nat->Prop}:zan w lo [] []:=by unfold zan;rfl
theorem zan.cons {w:World} {lo:Nat->Prop} {d:D} {ds:List D} {v:Value} {cs:List Value} (h:zcv w lo d v) (k:zan w lo ds cs):zan w lo (d :: ds) (v :: cs):=by
 unfold zan;exact ⟨v,cs,rfl,h,k⟩
theorem zan.append {w:World} {lo:Nat->Prop}:∀ {l m:List D} {cs es:List Value},zan w lo l cs->zan w lo m es->zan w lo (l++m) (cs++es)
 | [],m,cs,es,h,k=>by unfold zan at h;subst h;exact k
 | d :: ds,m,cs,es,h,k=>by
   unfold zan at h;obtain ⟨v,r,rfl,h2,h3⟩:=h;exact zan.cons h2 (zan.append h3 k)
theorem zan.get {w:World} {lo:Nat->Prop}:∀ {l:List D} {cs:List Value},zan w lo l cs->∀ (j:Nat) (d:D),l[j]? = some d->∃ v,cs[j]? = some v/\zcv w lo d v
 | [],_,_,j,d,hj=>by simp at hj
 | e :: ds,cs,h,j,d,hj=>by
   unfold zan at h;obtain ⟨v,r,rfl,h2,h3⟩:=h
   cases j with
   | zero=>simp at hj;subst hj;exact ⟨v,rfl,h2⟩
   | succ j=>simpa using zan.get h3 j d (by simpa using hj)
theorem zc6 {w:World} {lo:Nat->Prop} {n:Int} (h:(Lit.int .i64 n).wf=true):zcv w lo (.int n) (qi n):=by unfold zcv;exact ⟨rfl,h⟩
theorem zed {w:World} {lo:Nat->Prop} {s:ByteArray} (h:s.size<=maxLen):zcv w lo (.str s) (.string s):=by unfold zcv;exact ⟨rfl,h⟩
theorem z0s {w:World} {lo:Nat->Prop} {b:Bool}:zcv w lo (.bool b) (.bool b):=by unfold zcv;rfl
theorem zov {w:World} {lo:Nat->Prop} {a:OA} {cap:Nat}:zcv w lo (.list 0 []) (.slice a 0 cap):=by unfold zcv;exact ⟨a,cap,rfl,vaa _,by simp,Or.inl rfl⟩
theorem z7x {w:World} {lo:Nat->Prop} {n b off cap:Nat} {ds:List D} {cs:List Value} (h1:n<=ds.length) (h2:ds.length<=17592186044416) (hl:lo b) (hb:b<w.heap.size) (hc:zfy w b off cs) (hx:zan w lo ds cs):zcv w lo (.list n ds) (.slice (some (qa b off)) n cap):=by
 unfold zcv;exact ⟨_,cap,rfl,h1,h2,Or.inr ⟨b,off,cs,rfl,hl,hb,hc,hx⟩⟩
theorem zaz {w:World} {lo:Nat->Prop} {n:Int} {v:Value} (h:zcv w lo (.int n) v):v=qi n/\(Lit.int .i64 n).wf=true:=by unfold zcv at h;exact h
theorem zcw {w:World} {lo:Nat->Prop} {s:ByteArray} {v:Value} (h:zcv w lo (.str s) v):v = .string s/\s.size<=maxLen:=by unfold zcv at h;exact h
theorem ztg {w:World} {lo:Nat->Prop} {b:Bool} {v:Value} (h:zcv w lo (.bool b) v):v = .bool b:=by unfold zcv at h;exact h
def DAt (w:World) (lo:Nat->Prop) (a:OA) (n:Nat) (ds:List D):Prop:=n<=ds.length/\ds.length<=17592186044416/\(n=0\/∃ b off cs,a=some (qa b off)/\lo b/\b<w.heap.size/\zfy w b off cs/\zan w lo ds cs)
theorem zav {w:World} {lo:Nat->Prop} {n:Nat} {ds:List D} {v:Value} (h:zcv w lo (.list n ds) v):∃ a cap,v = .slice a n cap/\DAt w lo a n ds:=by unfold zcv at h;exact h
theorem DAt.val {w:World} {lo:Nat->Prop} {n cap:Nat} {a:OA} {ds:List D} (h:DAt w lo a n ds):zcv w lo (.list n ds) (.slice a n cap):=by unfold zcv;exact ⟨a,cap,rfl,h⟩
theorem DAt.moves {A A':Nat->Prop} {w w':World} {n:Nat} {a:OA} {ds:List D} (h:DAt w A a n ds) (hs:zad w A w' A'):DAt w' A' a n ds:=by
 obtain ⟨h1,h2,h3⟩:=h;refine ⟨h1,h2,?_⟩
 rcases h3 with h4 | ⟨b,off,cs,ha,hl,hb,hc,hx⟩
 . exact Or.inl h4
 . exact Or.inr ⟨b,off,cs,ha,(hs.2 b hb hl).1,vah hb hs.1,hc.moves hs hl hb,zan.moves hs ds cs hx⟩
theorem DAt.later {A:Nat->Prop} {w w':World} {n:Nat} {a:OA} {ds:List D} (h:DAt w A a n ds) (hb:qb w w'):DAt w' A a n ds:=h.moves (zad.of_below hb A)
theorem DAt.bound {A:Nat->Prop} {w:World} {n:Nat} {a:OA} {ds:List D} (h:DAt w A a n ds):n<=17592186044416:=vbd h.1 h.2.1
theorem DAt.cell {A:Nat->Prop} {w:World} {n:Nat} {a:OA} {ds:List D} (h:DAt w A a n ds) (hn:0<n):∃ b off,a=some (qa b off)/\b<w.heap.size/\∀ (j:Nat) (d:D),ds[j]? = some d->∃ v,w.cell? ⟨b,off+j,none⟩=some v/\zcv w A d v:=by
 rcases h.2.2 with h0 | ⟨b,off,cs,ha,_,hb,hc,hx⟩
 . omega
 . refine ⟨b,off,ha,hb,fun j d hj=>?_⟩
   obtain ⟨v,hv,hd⟩:=hx.get j d hj;exact ⟨v,hc j v hv,hd⟩
inductive Ex where
 | mk (op n:Int) (mod name:ByteArray) (args:List Ex)
def Ex.op:Ex->Int | .mk op _ _ _ _=>op
def Ex.n:Ex->Int | .mk _ n _ _ _=>n
def Ex.mod:Ex->ByteArray | .mk _ _ m _ _=>m
def Ex.name:Ex->ByteArray | .mk _ _ _ m _=>m
def Ex.args:Ex->List Ex | .mk _ _ _ _ l=>l
inductive St where
 | mk (op:Int) (mod name:ByteArray) (args:List Ex) (body other:List St)
def St.op:St->Int | .mk op _ _ _ _ _=>op
def St.mod:St->ByteArray | .mk _ m _ _ _ _=>m
def St.name:St->ByteArray | .mk _ _ m _ _ _=>m
def St.args:St->List Ex | .mk _ _ _ l _ _=>l
def St.body:St->List St | .mk _ _ _ _ l _=>l
def St.other:St->List St | .mk _ _ _ _ _ l=>l
mutual
def Ex.ds:Ex->List D
 | .mk op n mod name args=>[.int op,.int n,.str mod,.str name,.list args.length (zb0 args)]
def zb0:List Ex->List D
 | []=>[]
 | x :: r=>x.ds++zb0 r
end
mutual
def St.ds:St->List D
 | .mk op mod name args body other=>[.int op,.str mod,.str name,.list args.length (zb0 args),.list body.length (zby body),.list other.length (zby other)]
def zby:List St->List D
 | []=>[]
 | x :: r=>x.ds++zby r
end
theorem Ex.ds_len (x:Ex):x.ds.length=5:=by cases x;unfold Ex.ds;rfl
theorem St.ds_len (x:St):x.ds.length=6:=by cases x;unfold St.ds;rfl
theorem zka:∀ (l m:List Ex),zb0 (l++m)=zb0 l++zb0 m
 | [],m=>by simp [zb0]
 | x :: r,m=>by simp [zb0,zka r m]
theorem zkb:∀ (l m:List St),zby (l++m)=zby l++zby m
 | [],m=>by simp [zby]
 | x :: r,m=>by simp [zby,zkb r m]
theorem zns (x:Ex):zb0 [x]=x.ds:=by simp [zb0]
theorem z0t (x:St):zby [x]=x.ds:=by simp [zby]
theorem zth:∀ (l:List Ex) (i:Nat) (h:i<l.length) (j:Nat),j<5->(zb0 l)[i*5+j]? = (l[i].ds)[j]?
 | [],i,h,_,_=>by simp at h
 | x :: r,0,_,j,hj=>by
   have:=x.ds_len;simp only [zb0,vbl];rw [vba (by omega),vbk,vax]
 | x :: r,i+1,h,j,hj=>by
   have:=x.ds_len;simp only [zb0,vbt];rw [vbh (by omega),show (i+1)*5+j - x.ds.length=i*5+j from by omega];exact zth r i (by simpa using h) j hj
theorem zti:∀ (l:List St) (i:Nat) (h:i<l.length) (j:Nat),j<6->(zby l)[i*6+j]? = (l[i].ds)[j]?
 | [],i,h,_,_=>by simp at h
 | x :: r,0,_,j,hj=>by
   have:=x.ds_len;simp only [zby,vbl];rw [vba (by omega),vbk,vax]
 | x :: r,i+1,h,j,hj=>by
   have:=x.ds_len;simp only [zby,vbt];rw [vbh (by omega),show (i+1)*6+j - x.ds.length=i*6+j from by omega];exact zti r i (by simpa using h) j hj
structure ExAt (w:World) (A:Nat->Prop) (b o:Nat) (x:Ex) (aa:OA) (cap:Nat):Prop where
 lt:b<w.heap.size
 c0:w.cell? (qa b o)=some (qi x.op)
 c1:w.cell? ⟨b,o+1,none⟩=some (qi x.n)
 c2:w.cell? ⟨b,o+2,none⟩=some (.string x.mod)
 c3:w.cell? ⟨b,o+3,none⟩=some (.string x.name)
 c4:w.cell? ⟨b,o+4,none⟩=some (.slice aa x.args.length cap)
 args:DAt w A aa x.args.length (zb0 x.args)
 wop:(Lit.int .i64 x.op).wf=true
 wn:(Lit.int .i64 x.n).wf=true
 wm:x.mod.size<=maxLen
 wna:x.name.size<=maxLen
structure StAt (w:World) (A:Nat->Prop) (b o:Nat) (x:St) (a1:OA) (c1':Nat) (a2:OA) (c2':Nat) (a3:OA) (c3':Nat):Prop where
 lt:b<w.heap.size
 c0:w.cell? (qa b o)=some (qi x.op)
 c1:w.cell? ⟨b,o+1,none⟩=some (.string x.mod)
 c2:w.cell? ⟨b,o+2,none⟩=some (.string x.name)
 c3:w.cell? ⟨b,o+3,none⟩=some (.slice a1 x.args.length c1')
 c4:w.cell? ⟨b,o+4,none⟩=some (.slice a2 x.body.length c2')
 c5:w.cell? ⟨b,o+5,none⟩=some (.slice a3 x.other.length c3')
 args:DAt w A a1 x.args.length (zb0 x.args)
 body:DAt w A a2 x.body.length (zby x.body)
 other:DAt w A a3 x.other.length (zby x.other)
 wop:(Lit.int .i64 x.op).wf=true
 wm:x.mod.size<=maxLen
 wna:x.name.size<=maxLen
theorem DAt.ex {w:World} {A:Nat->Prop} {a:OA} {l:List Ex} (h:DAt w A a l.length (zb0 l)) (i:Nat) (hi:i<l.length):∃ b off aa cap,a=some (qa b off)/\ExAt w A b (off+i*5) l[i] aa cap:=by
 obtain ⟨b,off,ha,hb,hc⟩:=h.cell (by omega);generalize hx:l[i]=x;obtain ⟨op,n,mod,name,args⟩:=x
 have g:∀ j d,j<5->(Ex.mk op n mod name args).ds[j]? = some d->∃ v,w.cell? ⟨b,off+i*5+j,none⟩=some v/\zcv w A d v:=fun j d hj hd=>by
  rw [vbm];exact hc (i*5+j) d ((zth l i hi j hj).trans (by rw [hx];exact hd))
 obtain ⟨v0,k0,d0⟩:=g 0 (.int op) (by omega) (by simp [Ex.ds]);obtain ⟨v1,k1,d1⟩:=g 1 (.int n) (by omega) (by simp [Ex.ds]);obtain ⟨v2,k2,d2⟩:=g 2 (.str mod) (by omega) (by simp [Ex.ds]);obtain ⟨v3,k3,d3⟩:=g 3 (.str name) (by omega) (by simp [Ex.ds]);obtain ⟨v4,k4,d4⟩:=g 4 (.list args.length (zb0 args)) (by omega) (by simp [Ex.ds]);obtain ⟨rfl,w0⟩:=zaz d0;obtain ⟨rfl,w1⟩:=zaz d1;obtain ⟨rfl,w2⟩:=zcw d2;obtain ⟨rfl,w3⟩:=zcw d3;obtain ⟨aa,cap,rfl,hA⟩:=zav d4;exact ⟨b,off,aa,cap,ha,hb,k0,k1,k2,k3,k4,hA,w0,w1,w2,w3⟩
theorem DAt.st {w:World} {A:Nat->Prop} {a:OA} {l:List St} (h:DAt w A a l.length (zby l)) (i:Nat) (hi:i<l.length):∃ b off a1 c1 a2 c2 a3 c3,a=some (qa b off)/\StAt w A b (off+i*6) l[i] a1 c1 a2 c2 a3 c3:=by
 obtain ⟨b,off,ha,hb,hc⟩:=h.cell (by omega);generalize hx:l[i]=x;obtain ⟨op,mod,name,args,body,other⟩:=x
 have g:∀ j d,j<6->(St.mk op mod name args body other).ds[j]? = some d->∃ v,w.cell? ⟨b,off+i*6+j,none⟩=some v/\zcv w A d v:=fun j d hj hd=>by
  rw [vbm];exact hc (i*6+j) d ((zti l i hi j hj).trans (by rw [hx];exact hd))
 obtain ⟨v0,k0,d0⟩:=g 0 (.int op) (by omega) (by simp [St.ds]);obtain ⟨v1,k1,d1⟩:=g 1 (.str mod) (by omega) (by simp [St.ds]);obtain ⟨v2,k2,d2⟩:=g 2 (.str name) (by omega) (by simp [St.ds]);obtain ⟨v3,k3,d3⟩:=g 3 (.list args.length (zb0 args)) (by omega) (by simp [St.ds]);obtain ⟨v4,k4,d4⟩:=g 4 (.list body.length (zby body)) (by omega) (by simp [St.ds]);obtain ⟨v5,k5,d5⟩:=g 5 (.list other.length (zby other)) (by omega) (by simp [St.ds]);obtain ⟨rfl,w0⟩:=zaz d0;obtain ⟨rfl,w1⟩:=zcw d1;obtain ⟨rfl,w2⟩:=zcw d2;obtain ⟨a1,c1,rfl,h1⟩:=zav d3;obtain ⟨a2,c2,rfl,h2⟩:=zav d4;obtain ⟨a3,c3,rfl,h3⟩:=zav d5;exact ⟨b,off,a1,c1,a2,c2,a3,c3,ha,hb,k0,k1,k2,k3,k4,k5,h1,h2,h3,w0,w1,w2⟩
structure De where
 kind:Int
 name:ByteArray
 pub:Bool
 n:Int
structure Pr where
 name:ByteArray
 pub:Bool
 params:List ByteArray
 locals:List ByteArray
 body:List St
structure Mo where
 name:ByteArray
 uses:List ByteArray
 decls:List De
 procs:List Pr
 main:List St
def De.ds (d:De):List D:=[.int d.kind,.str d.name,.bool d.pub,.int d.n]
def zaw (l:List ByteArray):List D:=l.map .str
def Pr.ds (p:Pr):List D:=[.str p.name,.bool p.pub,.list p.params.length (zaw p.params),.list p.locals.length (zaw p.locals),.list p.body.length (zby p.body)]
def Mo.ds (m:Mo):List D:=[.str m.name,.list m.uses.length (zaw m.uses),.list m.decls.length (m.decls.flatMap De.ds),.list m.procs.length (m.procs.flatMap Pr.ds),.list m.main.length (zby m.main)]
def znt (l:List Pr):List D:=l.flatMap Pr.ds
def ztj (l:List De):List D:=l.flatMap De.ds
def z9s (l:List Mo):List D:=l.flatMap Mo.ds
theorem zcc {α:Type} (f:α->List D) (k:Nat) (hf:∀ x,(f x).length=k):∀ (l:List α) (i:Nat) (h:i<l.length) (j:Nat),j<k->(l.flatMap f)[i*k+j]? = (f l[i])[j]?
 | [],i,h,_,_=>by simp at h
 | x :: r,0,_,j,hj=>by
   have:=hf x;simp only [vbj,vbl];rw [vba (by omega),vbk,vax]
 | x :: r,i+1,h,j,hj=>by
   have:=hf x;have e:(i+1)*k=i*k+k:=Nat.succ_mul i k;simp only [vbj,vbt];rw [vbh (by omega),show (i+1)*k+j - (f x).length=i*k+j from by omega];exact zcc f k hf r i (by simpa using h) j hj
structure DeAt (w:World) (b o:Nat) (x:De):Prop where
 lt:b<w.heap.size
 c0:w.cell? (qa b o)=some (qi x.kind)
 c1:w.cell? ⟨b,o+1,none⟩=some (.string x.name)
 c2:w.cell? ⟨b,o+2,none⟩=some (.bool x.pub)
 c3:w.cell? ⟨b,o+3,none⟩=some (qi x.n)
 wk:(Lit.int .i64 x.kind).wf=true
 wn:(Lit.int .i64 x.n).wf=true
 wna:x.name.size<=maxLen
structure PrAt (w:World) (A:Nat->Prop) (b o:Nat) (x:Pr) (a1:OA) (c1':Nat) (a2:OA) (c2':Nat) (a3:OA) (c3':Nat):Prop where
 lt:b<w.heap.size
 c0:w.cell? (qa b o)=some (.string x.name)
 c1:w.cell? ⟨b,o+1,none⟩=some (.bool x.pub)
 c2:w.cell? ⟨b,o+2,none⟩=some (.slice a1 x.params.length c1')
 c3:w.cell? ⟨b,o+3,none⟩=some (.slice a2 x.locals.length c2')
 c4:w.cell? ⟨b,o+4,none⟩=some (.slice a3 x.body.length c3')
 params:DAt w A a1 x.params.length (zaw x.params)
 locals:DAt w A a2 x.locals.length (zaw x.locals)
 body:DAt w A a3 x.body.length (zby x.body)
 wna:x.name.size<=maxLen
structure MoAt (w:World) (A:Nat->Prop) (m:Mo) (v:Value) (a1:OA) (c1:Nat) (a2:OA) (c2:Nat) (a3:OA) (c3:Nat) (a4:OA) (c4:Nat):Prop where
 val:v = .agg #[.string m.name,.slice a1 m.uses.length c1,.slice a2 m.decls.length c2,.slice a3 m.procs.length c3,.slice a4 m.main.length c4]
 wna:m.name.size<=maxLen
 uses:DAt w A a1 m.uses.length (zaw m.uses)
 decls:DAt w A a2 m.decls.length (ztj m.decls)
 procs:DAt w A a3 m.procs.length (znt m.procs)
 main:DAt w A a4 m.main.length (zby m.main)
theorem MoAt.later {w w':World} {A:Nat->Prop} {m:Mo} {v:Value} {a1 a2 a3 a4:OA} {c1 c2 c3 c4:Nat} (h:MoAt w A m v a1 c1 a2 c2 a3 c3 a4 c4) (hb:qb w w'):MoAt w' A m v a1 c1 a2 c2 a3 c3 a4 c4:=
 ⟨h.val,h.wna,h.uses.later hb,h.decls.later hb,h.procs.later hb,h.main.later hb⟩
theorem DAt.str {w:World} {A:Nat->Prop} {a:OA} {l:List ByteArray} (h:DAt w A a l.length (zaw l)) (i:Nat) (hi:i<l.length):∃ b off,a=some (qa b off)/\b<w.heap.size/\w.cell? ⟨b,off+i,none⟩=some (.string l[i])/\l[i].size<=maxLen:=by
 obtain ⟨b,off,ha,hb,hc⟩:=h.cell (by omega);obtain ⟨v,hv,hd⟩:=hc i (.str l[i]) (by simp [zaw,hi]);obtain ⟨rfl,h2⟩:=zcw hd;exact ⟨b,off,ha,hb,hv,h2⟩
theorem DAt.de {w:World} {A:Nat->Prop} {a:OA} {l:List De} (h:DAt w A a l.length (ztj l)) (i:Nat) (hi:i<l.length):∃ b off,a=some (qa b off)/\DeAt w b (off+i*4) l[i]:=by
 obtain ⟨b,off,ha,hb,hc⟩:=h.cell (by omega);generalize hx:l[i]=x;obtain ⟨kind,name,pub,n⟩:=x
 have g:∀ j d,j<4->(De.mk kind name pub n).ds[j]? = some d->∃ v,w.cell? ⟨b,off+i*4+j,none⟩=some v/\zcv w A d v:=fun j d hj hd=>by
  rw [vbm];exact hc (i*4+j) d ((zcc De.ds 4 (fun _=>rfl) l i hi j hj).trans (by rw [hx];exact hd))
 obtain ⟨v0,k0,d0⟩:=g 0 (.int kind) (by omega) (by simp [De.ds]);obtain ⟨v1,k1,d1⟩:=g 1 (.str name) (by omega) (by simp [De.ds]);obtain ⟨v2,k2,d2⟩:=g 2 (.bool pub) (by omega) (by simp [De.ds]);obtain ⟨v3,k3,d3⟩:=g 3 (.int n) (by omega) (by simp [De.ds]);obtain ⟨rfl,w0⟩:=zaz d0;obtain ⟨rfl,w1⟩:=zcw d1;obtain rfl:=ztg d2;obtain ⟨rfl,w3⟩:=zaz d3;exact ⟨b,off,ha,hb,k0,k1,k2,k3,w0,w3,w1⟩
theorem DAt.pr {w:World} {A:Nat->Prop} {a:OA} {l:List Pr} (h:DAt w A a l.length (znt l)) (i:Nat) (hi:i<l.length):∃ b off a1 c1 a2 c2 a3 c3,a=some (qa b off)/\PrAt w A b (off+i*5) l[i] a1 c1 a2 c2 a3 c3:=by
 obtain ⟨b,off,ha,hb,hc⟩:=h.cell (by omega);generalize hx:l[i]=x;obtain ⟨name,pub,params,locals,body⟩:=x
 have g:∀ j d,j<5->(Pr.mk name pub params locals body).ds[j]? = some d->∃ v,w.cell? ⟨b,off+i*5+j,none⟩=some v/\zcv w A d v:=fun j d hj hd=>by
  rw [vbm];exact hc (i*5+j) d ((zcc Pr.ds 5 (fun _=>rfl) l i hi j hj).trans (by rw [hx];exact hd))
 obtain ⟨v0,k0,d0⟩:=g 0 (.str name) (by omega) (by simp [Pr.ds]);obtain ⟨v1,k1,d1⟩:=g 1 (.bool pub) (by omega) (by simp [Pr.ds]);obtain ⟨v2,k2,d2⟩:=g 2 (.list params.length (zaw params)) (by omega) (by simp [Pr.ds]);obtain ⟨v3,k3,d3⟩:=g 3 (.list locals.length (zaw locals)) (by omega) (by simp [Pr.ds]);obtain ⟨v4,k4,d4⟩:=g 4 (.list body.length (zby body)) (by omega) (by simp [Pr.ds]);obtain ⟨rfl,w0⟩:=zcw d0;obtain rfl:=ztg d1;obtain ⟨a1,c1,rfl,h1⟩:=zav d2;obtain ⟨a2,c2,rfl,h2⟩:=zav d3;obtain ⟨a3,c3,rfl,h3⟩:=zav d4;exact ⟨b,off,a1,c1,a2,c2,a3,c3,ha,hb,k0,k1,k2,k3,k4,h1,h2,h3,w0⟩
theorem DAt.mo {w:World} {A:Nat->Prop} {a:OA} {l:List Mo} (h:DAt w A a l.length (z9s l)) (i:Nat) (hi:i<l.length):∃ b off v a1 c1 a2 c2 a3 c3 a4 c4,a=some (qa b off)/\b<w.heap.size/\MoAt w A l[i] v a1 c1 a2 c2 a3 c3 a4 c4/\
 w.cell? ⟨b,off+i*5,none⟩=some (.string l[i].name)/\w.cell? ⟨b,off+i*5+1,none⟩=some (.slice a1 l[i].uses.length c1)/\w.cell? ⟨b,off+i*5+2,none⟩=some (.slice a2 l[i].decls.length c2)/\
 w.cell? ⟨b,off+i*5+3,none⟩=some (.slice a3 l[i].procs.length c3)/\w.cell? ⟨b,off+i*5+4,none⟩=some (.slice a4 l[i].main.length c4):=by
 obtain ⟨b,off,ha,hb,hc⟩:=h.cell (by omega);generalize hx:l[i]=x;obtain ⟨name,uses,decls,procs,main⟩:=x
 have g:∀ j d,j<5->(Mo.mk name uses decls procs main).ds[j]? = some d->∃ v,w.cell? ⟨b,off+i*5+j,none⟩=some v/\zcv w A d v:=fun j d hj hd=>by
  rw [vbm];exact hc (i*5+j) d ((zcc Mo.ds 5 (fun _=>rfl) l i hi j hj).trans (by rw [hx];exact hd))
 obtain ⟨v0,k0,d0⟩:=g 0 (.str name) (by omega) (by simp [Mo.ds]);obtain ⟨v1,k1,d1⟩:=g 1 (.list uses.length (zaw uses)) (by omega) (by simp [Mo.ds]);obtain ⟨v2,k2,d2⟩:=g 2 (.list decls.length (ztj decls)) (by omega) (by simp [Mo.ds,ztj]);obtain ⟨v3,k3,d3⟩:=g 3 (.list procs.length (znt procs)) (by omega) (by simp [Mo.ds,znt]);obtain ⟨v4,k4,d4⟩:=g 4 (.list main.length (zby main)) (by omega) (by simp [Mo.ds]);obtain ⟨rfl,w0⟩:=zcw d0;obtain ⟨a1,c1,rfl,h1⟩:=zav d1;obtain ⟨a2,c2,rfl,h2⟩:=zav d2;obtain ⟨a3,c3,rfl,h3⟩:=zav d3;obtain ⟨a4,c4,rfl,h4⟩:=zav d4;exact ⟨b,off,_,a1,c1,a2,c2,a3,c3,a4,c4,ha,hb,⟨rfl,w0,h1,h2,h3,h4⟩,k0,k1,k2,k3,k4⟩
mutual
def zga (w:World) (A:Nat->Prop):D->Value->Prop
 | .int n,v=>v = .int .i64 n
 | .str s,v=>v = .string s/\s.size<=maxLen
 | .bool b,v=>v = .bool b
 | .list n ds,v=>∃ a cap,v = .slice a n cap/\(n=0\/∃ b off cs,a=some ⟨b,off,none⟩/\A b/\b<w.heap.size/\zfy w b off cs/\zat w A ds cs)
def zat (w:World) (A:Nat->Prop):List D->List Value->Prop
 | [],cs=>cs=[]
 | d :: ds,cs=>∃ v r,cs=v :: r/\zga w A d v/\zat w A ds r
end
mutual
theorem zga.moves {A A':Nat->Prop} {w w':World} (hs:zad w A w' A'):∀ (d:D) (v:Value),zga w A d v->zga w' A' d v
 | .int _,_,h=>h
 | .str _,_,h=>h
 | .bool _,_,h=>h
 | .list n ds,v,h=>by
   unfold zga at h ⊢;obtain ⟨a,cap,h1,h4⟩:=h;refine ⟨a,cap,h1,?_⟩
   rcases h4 with h4 | ⟨b,off,cs,ha,hl,hb,hc,hx⟩
   . exact Or.inl h4
   . exact Or.inr ⟨b,off,cs,ha,(hs.2 b hb hl).1,vah hb hs.1,hc.moves hs hl hb,zat.moves hs ds cs hx⟩
theorem zat.moves {A A':Nat->Prop} {w w':World} (hs:zad w A w' A'):∀ (l:List D) (cs:List Value),zat w A l cs->zat w' A' l cs
 | [],_,h=>h
 | d :: ds,cs,h=>by
   unfold zat at h ⊢;obtain ⟨v,r,h1,h2,h3⟩:=h;exact ⟨v,r,h1,zga.moves hs d v h2,zat.moves hs ds r h3⟩
end
theorem zga.one {w:World} {lo:Nat->Prop}:∀ {d:D} {v:Value},zga w lo d v->v.oneCell'=true
 | .int _,_,h=>by unfold zga at h;rw [h];rfl
 | .str _,_,h=>by unfold zga at h;rw [h.1];rfl
 | .bool _,_,h=>by unfold zga at h;rw [h];rfl
 | .list _ _,_,h=>by unfold zga at h;obtain ⟨a,cap,h,_⟩:=h;rw [h];rfl
theorem zat.one {w:World} {lo:Nat->Prop}:∀ {l:List D} {cs:List Value},zat w lo l cs->∀ u ∈ cs,u.oneCell'=true
 | [],_,h=>by unfold zat at h;rw [h];intro u hu;cases hu
 | d :: ds,cs,h=>by
   unfold zat at h;obtain ⟨v,r,rfl,h2,h3⟩:=h;intro u hu
   rcases vby.1 hu with rfl | hu
   . exact h2.one
   . exact zat.one h3 u hu
theorem zat.len {w:World} {lo:Nat->Prop}:∀ {l:List D} {cs:List Value},zat w lo l cs->cs.length=l.length
 | [],_,h=>by unfold zat at h;rw [h];rfl
 | d :: ds,cs,h=>by
   unfold zat at h;obtain ⟨v,r,rfl,h2,h3⟩:=h;simp [zat.len h3]
theorem zat.nil {w:World} {lo:Nat->Prop}:zat w lo [] []:=by unfold zat;rfl
theorem zat.cons {w:World} {lo:Nat->Prop} {d:D} {ds:List D} {v:Value} {cs:List Value} (h:zga w lo d v) (k:zat w lo ds cs):zat w lo (d :: ds) (v :: cs):=by
 unfold zat;exact ⟨v,cs,rfl,h,k⟩
theorem zat.append {w:World} {lo:Nat->Prop}:∀ {l m:List D} {cs es:List Value},zat w lo l cs->zat w lo m es->zat w lo (l++m) (cs++es)
 | [],m,cs,es,h,k=>by unfold zat at h;subst h;exact k
 | d :: ds,m,cs,es,h,k=>by
   unfold zat at h;obtain ⟨v,r,rfl,h2,h3⟩:=h;exact zat.cons h2 (zat.append h3 k)
theorem zat.get {w:World} {lo:Nat->Prop}:∀ {l:List D} {cs:List Value},zat w lo l cs->∀ (j:Nat) (d:D),l[j]? = some d->∃ v,cs[j]? = some v/\zga w lo d v
 | [],_,_,j,d,hj=>by simp at hj
 | e :: ds,cs,h,j,d,hj=>by
   unfold zat at h;obtain ⟨v,r,rfl,h2,h3⟩:=h
   cases j with
   | zero=>simp at hj;subst hj;exact ⟨v,rfl,h2⟩
   | succ j=>simpa using zat.get h3 j d (by simpa using hj)
theorem zqp {w:World} {lo:Nat->Prop} {n:Int}:zga w lo (.int n) (qi n):=by unfold zga;rfl
theorem z38 {w:World} {lo:Nat->Prop} {s:ByteArray} (h:s.size<=maxLen):zga w lo (.str s) (.string s):=by unfold zga;exact ⟨rfl,h⟩
theorem z9t {w:World} {lo:Nat->Prop} {b:Bool}:zga w lo (.bool b) (.bool b):=by unfold zga;rfl
theorem znu {w:World} {lo:Nat->Prop} {n:Int} {v:Value} (h:zga w lo (.int n) v):v=qi n:=by unfold zga at h;exact h
theorem zx3 {w:World} {lo:Nat->Prop} {s:ByteArray} {v:Value} (h:zga w lo (.str s) v):v = .string s/\s.size<=maxLen:=by unfold zga at h;exact h
def EAt (w:World) (lo:Nat->Prop) (a:OA) (n:Nat) (ds:List D):Prop:=n=0\/∃ b off cs,a=some (qa b off)/\lo b/\b<w.heap.size/\zfy w b off cs/\zat w lo ds cs
theorem EAt.val {w:World} {lo:Nat->Prop} {n cap:Nat} {a:OA} {ds:List D} (h:EAt w lo a n ds):zga w lo (.list n ds) (.slice a n cap):=by unfold zga;exact ⟨a,cap,rfl,h⟩
theorem EAt.moves {A A':Nat->Prop} {w w':World} {n:Nat} {a:OA} {ds:List D} (h:EAt w A a n ds) (hs:zad w A w' A'):EAt w' A' a n ds:=by
 rcases h with h4 | ⟨b,off,cs,ha,hl,hb,hc,hx⟩
 . exact Or.inl h4
 . exact Or.inr ⟨b,off,cs,ha,(hs.2 b hb hl).1,vah hb hs.1,hc.moves hs hl hb,zat.moves hs ds cs hx⟩
theorem EAt.of_own {w:World} {A:Nat->Prop} {base n cap:Nat} {a:OA} {e:TypeId} {size:Nat} {ds:List D} {xs:List Value} (h:w.ownsRow base e size (.slice a n cap) n xs) (hl:∀ b,base<=b->A b) (hx:zat w A ds xs):EAt w A a n ds:=by
 rcases h.2 with ⟨h1,h2⟩ | ⟨g,cap',AC,h1,hb,hg,hn,hc,hs,ht⟩
 . exact Or.inl h2
 . injection h1 with h1 _ _
   refine Or.inr ⟨g,0,xs,h1,hl g hb,lt_of_heap hg,fun j u hj=>?_,hx⟩;have:=h.cells (g:=g) (by rw [h1];rfl) j u hj;rw [vax]
   have e:((qa g 0):Addr).add j=(qa g j):=by unfold Addr.add;split<;>simp_all
   rwa [e] at this
mutual
def D.fine:D->Prop
 | .int n=>(Lit.int .i64 n).wf=true
 | .str _=>True
 | .bool _=>True
 | .list n ds=>n<=ds.length/\ds.length<=17592186044416/\D.fines ds
def D.fines:List D->Prop
 | []=>True
 | d :: ds=>d.fine/\D.fines ds
end
mutual
theorem zga.toD {A:Nat->Prop} {w:World}:∀ (d:D) (v:Value),zga w A d v->d.fine->zcv w A d v
 | .int _,_,h,k=>by unfold zga at h;unfold D.fine at k;unfold zcv;exact ⟨h,k⟩
 | .str _,_,h,_=>by unfold zga at h;unfold zcv;exact h
 | .bool _,_,h,_=>by unfold zga at h;unfold zcv;exact h
 | .list n ds,v,h,k=>by
   unfold zga at h;unfold D.fine at k;unfold zcv;obtain ⟨a,cap,h1,h4⟩:=h;refine ⟨a,cap,h1,k.1,k.2.1,?_⟩
   rcases h4 with h4 | ⟨b,off,cs,ha,hl,hb,hc,hx⟩
   . exact Or.inl h4
   . exact Or.inr ⟨b,off,cs,ha,hl,hb,hc,zat.toD ds cs hx k.2.2⟩
theorem zat.toD {A:Nat->Prop} {w:World}:∀ (l:List D) (cs:List Value),zat w A l cs->D.fines l->zan w A l cs
 | [],_,h,_=>by unfold zat at h;unfold zan;exact h
 | d :: ds,cs,h,k=>by
   unfold zat at h;unfold D.fines at k;unfold zan;obtain ⟨v,r,h1,h2,h3⟩:=h;exact ⟨v,r,h1,zga.toD d v h2 k.1,zat.toD ds r h3 k.2⟩
end
theorem EAt.toD {A:Nat->Prop} {w:World} {a:OA} {n:Nat} {ds:List D} (h:EAt w A a n ds) (h1:n<=ds.length) (h2:ds.length<=17592186044416) (k:D.fines ds):DAt w A a n ds:=by
 refine ⟨h1,h2,?_⟩
 rcases h with h | ⟨b,off,cs,ha,hl,hb,hc,hx⟩
 . exact Or.inl h
 . exact Or.inr ⟨b,off,cs,ha,hl,hb,hc,hx.toD _ _ k⟩
theorem D.fines_append:∀ {l m:List D},D.fines l->D.fines m->D.fines (l++m)
 | [],_,_,k=>k
 | d :: ds,m,h,k=>by
   unfold D.fines at h;show D.fines (d :: (ds++m));unfold D.fines;exact ⟨h.1,D.fines_append h.2 k⟩
inductive Nd where
 | mk (op n m at_:Int) (args:List Nd)
def Nd.op:Nd->Int | .mk op _ _ _ _=>op
def Nd.n:Nd->Int | .mk _ n _ _ _=>n
def Nd.m:Nd->Int | .mk _ _ m _ _=>m
def Nd.at_:Nd->Int | .mk _ _ _ a _=>a
def Nd.args:Nd->List Nd | .mk _ _ _ _ l=>l
inductive Ac where
 | mk (op n m at_:Int) (args:List Nd) (body other:List Ac)
def Ac.op:Ac->Int | .mk op _ _ _ _ _ _=>op
def Ac.n:Ac->Int | .mk _ n _ _ _ _ _=>n
def Ac.m:Ac->Int | .mk _ _ m _ _ _ _=>m
def Ac.at_:Ac->Int | .mk _ _ _ a _ _ _=>a
def Ac.args:Ac->List Nd | .mk _ _ _ _ l _ _=>l
def Ac.body:Ac->List Ac | .mk _ _ _ _ _ l _=>l
def Ac.other:Ac->List Ac | .mk _ _ _ _ _ _ l=>l
mutual
def Nd.ds:Nd->List D
 | .mk op n m a args=>[.int op,.int n,.int m,.int a,.list args.length (zc2 args)]
def zc2:List Nd->List D
 | []=>[]
 | x :: r=>x.ds++zc2 r
end
mutual
def Ac.ds:Ac->List D
 | .mk op n m a args body other=>[.int op,.int n,.int m,.int a,.list args.length (zc2 args),.list body.length (zc7 body),.list other.length (zc7 other)]
def zc7:List Ac->List D
 | []=>[]
 | x :: r=>x.ds++zc7 r
end
theorem Nd.ds_len (x:Nd):x.ds.length=5:=by cases x;unfold Nd.ds;rfl
theorem Ac.ds_len (x:Ac):x.ds.length=7:=by cases x;unfold Ac.ds;rfl
theorem zkc:∀ (l m:List Nd),zc2 (l++m)=zc2 l++zc2 m
 | [],m=>by simp [zc2]
 | x :: r,m=>by simp [zc2,zkc r m]
theorem zkd:∀ (l m:List Ac),zc7 (l++m)=zc7 l++zc7 m
 | [],m=>by simp [zc7]
 | x :: r,m=>by simp [zc7,zkd r m]
theorem z0u (x:Nd):zc2 [x]=x.ds:=by simp [zc2]
theorem z0v (x:Ac):zc7 [x]=x.ds:=by simp [zc7]
structure Pt where
 params:Int
 locals:Int
 body:List Ac
def Pt.ds (p:Pt):List D:=[.int p.params,.int p.locals,.list p.body.length (zc7 p.body)]
def zke (l:List Pt):List D:=l.flatMap Pt.ds
structure Un where
 name:ByteArray
 uses:List ByteArray
 data:Int
 parts:List Pt
 main:List Ac
structure Mg where
 kind:Int
 n:Int
 m:Int
 at_:Int
def mg0:Mg:=⟨0,0,0,0⟩
abbrev Kn:=ByteArray->ByteArray->Option Mg
abbrev Lc:=ByteArray->Option Int
def z6a (K:Kn) (L:Lc) (mod name:ByteArray):Option Mg:=
 if mod.size=0 then (match L name with | some a=>some ⟨0,0,0,a⟩ | none=>K mod name) else K mod name
def findM (K:Kn) (L:Lc) (mod name:ByteArray) (ks:List Int):Mg × Int:=
 match z6a K L mod name with
 | none=>(mg0,5)
 | some x=>if ks.contains x.kind then (x,0) else (mg0,7)
def zh3 (K:Kn) (L:Lc) (mod name:ByteArray) (Bj:Int):Mg × Int:=
 if (findM K L mod name [4]).2=0/\(findM K L mod name [4]).1.n≠Bj then (mg0,8) else findM K L mod name [4]
structure Al where
 op:Int
 n:Int
 m:Int
 at_:Int
 err:Int
def z5c (K:Kn) (L:Lc) (mod name:ByteArray):Al:=
 if (findM K L mod name [0,1,2]).2≠0 then ⟨0,0,0,0,(findM K L mod name [0,1,2]).2⟩
 else if (findM K L mod name [0,1,2]).1.kind=1 then ⟨1,(findM K L mod name [0,1,2]).1.n,0,0,0⟩
 else if (findM K L mod name [0,1,2]).1.kind=2 then ⟨3,0,(findM K L mod name [0,1,2]).1.m,(findM K L mod name [0,1,2]).1.at_,0⟩
 else ⟨16,0,0,(findM K L mod name [0,1,2]).1.at_,0⟩
def ndM (K:Kn) (L:Lc) (x:Ex):Al:=
 if x.op=3 then z5c K L x.mod x.name
 else if x.op=4 then ⟨4,(findM K L x.mod x.name [3]).1.n,(findM K L x.mod x.name [3]).1.m,(findM K L x.mod x.name [3]).1.at_,(findM K L x.mod x.name [3]).2⟩
 else if x.op=5 then ⟨5,0,(zh3 K L x.mod x.name x.args.length).1.m,(zh3 K L x.mod x.name x.args.length).1.at_,(zh3 K L x.mod x.name x.args.length).2⟩
 else ⟨x.op,x.n,0,0,0⟩
def acM (K:Kn) (L:Lc) (s:St):Al:=
 if s.op=1 then ⟨1,0,if (findM K L s.mod s.name [0,2]).1.kind=0 then -1 else (findM K L s.mod s.name [0,2]).1.m,(findM K L s.mod s.name [0,2]).1.at_,(findM K L s.mod s.name [0,2]).2⟩
 else if s.op=2 then ⟨2,(findM K L s.mod s.name [3]).1.n,(findM K L s.mod s.name [3]).1.m,(findM K L s.mod s.name [3]).1.at_,(findM K L s.mod s.name [3]).2⟩
 else if s.op=3 then ⟨3,0,(zh3 K L s.mod s.name s.args.length).1.m,(zh3 K L s.mod s.name s.args.length).1.at_,(zh3 K L s.mod s.name s.args.length).2⟩
 else ⟨s.op,0,0,0,0⟩
def zcx {α β:Type}:Except Int α->(α->Except Int β)->Except Int β
 | .error e,_=>.error e
 | .ok a,f=>f a
def alE (a:Al):Except Int Al:=if a.err=0 then .ok a else .error a.err
mutual
def rsE (K:Kn) (L:Lc):Ex->Except Int Nd
 | .mk op n mod name args=>zcx (alE (ndM K L (.mk op n mod name args))) fun h=>zcx (zgg K L args) fun l=>.ok (.mk h.op h.n h.m h.at_ l)
def zgg (K:Kn) (L:Lc):List Ex->Except Int (List Nd)
 | []=>.ok []
 | x :: r=>zcx (rsE K L x) fun y=>zcx (zgg K L r) fun l=>.ok (y :: l)
end
mutual
def rsS (K:Kn) (L:Lc):St->Except Int Ac
 | .mk op mod name args body other=>zcx (alE (acM K L (.mk op mod name args body other))) fun h=>zcx (zgg K L args) fun l=>zcx (ze7 K L body) fun b=>zcx (ze7 K L other) fun o=>.ok (.mk h.op h.n h.m h.at_ l b o)
def ze7 (K:Kn) (L:Lc):List St->Except Int (List Ac)
 | []=>.ok []
 | x :: r=>zcx (rsS K L x) fun y=>zcx (ze7 K L r) fun l=>.ok (y :: l)
end
theorem znv {α:Type} (x:Except Int α):zcx x .ok=x:=by cases x<;>rfl
theorem znw (K:Kn) (L:Lc):∀ (a b:List Ex) (A7:List Nd),zgg K L a = .ok A7->zgg K L (a++b)=zcx (zgg K L b) fun l=>.ok (A7++l)
 | [],b,A7,h=>by
   rw [zgg] at h;obtain rfl:=vde h;show zgg K L b=_;exact (znv _).symm
 | x :: a,b,A7,h=>by
   rw [zgg] at h;show zgg K L (x :: (a++b))=_;rw [zgg]
   cases hx:rsE K L x with
   | error e=>rw [hx] at h;cases h
   | ok y=>
     rw [hx] at h;simp only [zcx] at h ⊢
     cases ha:zgg K L a with
     | error e=>rw [ha] at h;cases h
     | ok l=>
       rw [ha] at h;obtain rfl:=vde h;rw [znw K L a b l ha]
       cases zgg K L b<;>rfl
theorem znx (K:Kn) (L:Lc):∀ (a b:List St) (A7:List Ac),ze7 K L a = .ok A7->ze7 K L (a++b)=zcx (ze7 K L b) fun l=>.ok (A7++l)
 | [],b,A7,h=>by
   rw [ze7] at h;obtain rfl:=vde h;show ze7 K L b=_;exact (znv _).symm
 | x :: a,b,A7,h=>by
   rw [ze7] at h;show ze7 K L (x :: (a++b))=_;rw [ze7]
   cases hx:rsS K L x with
   | error e=>rw [hx] at h;cases h
   | ok y=>
     rw [hx] at h;simp only [zcx] at h ⊢
     cases ha:ze7 K L a with
     | error e=>rw [ha] at h;cases h
     | ok l=>
       rw [ha] at h;obtain rfl:=vde h;rw [znx K L a b l ha]
       cases ze7 K L b<;>rfl
theorem zny {α:Type} (l:List α) (j:Nat) (h:j<l.length):l=l.take j++l[j] :: l.drop (j+1):=by
 rw [List.getElem_cons_drop,vcg]
theorem z0w {K:Kn} {L:Lc} {l:List Ex} {j:Nat} {A7:List Nd} {e:Int} (h:j<l.length) (ha:zgg K L (l.take j) = .ok A7) (he:rsE K L l[j] = .error e):zgg K L l = .error e:=by
 rw [zny l j h,znw K L _ _ A7 ha,zgg,he];rfl
theorem zx4 {K:Kn} {L:Lc} {l:List Ex} {j:Nat} {A7:List Nd} {y:Nd} (h:j<l.length) (ha:zgg K L (l.take j) = .ok A7) (he:rsE K L l[j] = .ok y):zgg K L (l.take (j+1)) = .ok (A7++[y]):=by
 rw [vaf h,znw K L _ _ A7 ha,zgg,he];rfl
theorem z0x {K:Kn} {L:Lc} {l:List St} {j:Nat} {A7:List Ac} {e:Int} (h:j<l.length) (ha:ze7 K L (l.take j) = .ok A7) (he:rsS K L l[j] = .error e):ze7 K L l = .error e:=by
 rw [zny l j h,znx K L _ _ A7 ha,ze7,he];rfl
theorem zx5 {K:Kn} {L:Lc} {l:List St} {j:Nat} {A7:List Ac} {y:Ac} (h:j<l.length) (ha:ze7 K L (l.take j) = .ok A7) (he:rsS K L l[j] = .ok y):ze7 K L (l.take (j+1)) = .ok (A7++[y]):=by
 rw [vaf h,znx K L _ _ A7 ha,ze7,he];rfl
theorem zx6 (K:Kn) (L:Lc) (x:Ex):rsE K L x=zcx (alE (ndM K L x)) fun h=>zcx (zgg K L x.args) fun l=>.ok (.mk h.op h.n h.m h.at_ l):=by
 obtain ⟨op,n,mod,name,args⟩:=x;rw [rsE];rfl
theorem zps (K:Kn) (L:Lc) (x:St):rsS K L x=zcx (alE (acM K L x)) fun h=>zcx (zgg K L x.args) fun l=>zcx (ze7 K L x.body) fun b=>zcx (ze7 K L x.other) fun o=>.ok (.mk h.op h.n h.m h.at_ l b o):=by
 obtain ⟨op,mod,name,args,body,other⟩:=x;rw [rsS];rfl
structure Sh where
 named:Bool
 number:Bool
 least:Int
 most:Int
 body:Bool
 other:Bool
def Sh.val (s:Sh):Value:=.agg #[.bool s.named,.bool s.number,qi s.least,qi s.most,.bool s.body,.bool s.other]
def sh0:Sh:=⟨false,false,0,0,false,false⟩
def zh4 (op:Int):Option Sh:=
 if op=1 then some ⟨false,true,0,0,false,false⟩ else if op=2 then some sh0 else if op=3 then some ⟨true,false,0,0,false,false⟩
 else if op=4 then some ⟨true,false,1,1,false,false⟩ else if op=5 then some ⟨true,false,0,3,false,false⟩ else if op=6 then some ⟨false,false,1,1,false,false⟩
 else if 7<=op/\op<=15 then some ⟨false,false,2,2,false,false⟩ else none
def zla (op:Int):Option Sh:=
 if op=1 then some ⟨true,false,1,1,false,false⟩ else if op=2 then some ⟨true,false,2,2,false,false⟩ else if op=3 then some ⟨true,false,0,3,false,false⟩
 else if op=4 then some ⟨false,false,1,1,true,true⟩ else if op=5 then some ⟨false,false,1,1,true,false⟩ else if op=6 then some ⟨false,false,1,1,false,false⟩
 else if op=7 then some ⟨false,false,1,1,false,false⟩ else none
def exB (op:Int):Bool:=(zh4 op).isSome
def stB (op:Int):Bool:=(zla op).isSome
def exS (op:Int):Sh:=(zh4 op).getD sh0
def stS (op:Int):Sh:=(zla op).getD sh0
def kept:List (L8):=[[109,111,100,117,108,101],[117,115,101],[112,117,98],[99,111,110,115,116],[118,97,114],[97,114,114,97,121],[112,114,111,99],[108,111,99,97,108],[109,97,105,110],
 [105,102],[101,108,115,101],[119,104,105,108,101],[114,101,116,117,114,110],[111,117,116],[105,110]]
def zu2 (s:ByteArray):Bool:=kept.contains s.data.toList
def nameOk (s:ByteArray):Bool:=!zu2 s&&Lx.zbt s.data.toList
def numOkB (n:Int):Bool:=decide (0<=n)&&decide (n<=1099511627775)
def zco (h:Sh) (mod name:ByteArray):Bool:=if h.named then nameOk name&&(decide (mod.size=0)||nameOk mod) else decide (mod.size=0)&&decide (name.size=0)
def nOk (h:Sh) (n:Int):Bool:=if h.number then numOkB n else decide (n=0)
def za9 (h:Sh) (k:Nat):Bool:=decide (h.least<=(k:Int))&&decide ((k:Int)<=h.most)
def zba:Nat->List Ex->Bool
 | 0,_=>true
 | k+1,l=>l.all (fun x=>exB x.op&&zba k x.args)
def zaq:Nat->List St->Bool
 | 0,_=>true
 | k+1,l=>l.all (fun s=>stB s.op&&(zba 6 s.args&&(zaq k s.body&&zaq k s.other)))
def zam:Nat->List Ex->Bool
 | 0,l=>decide (0<l.length)
 | k+1,l=>decide (3<l.length)||l.any (fun x=>zam k x.args)
def zah:Nat->List St->Bool
 | 0,_=>true
 | k+1,l=>decide (10<l.length)||l.any (fun s=>zam 6 s.args||(((stS s.op).body||decide (0<s.body.length))&&zah k s.body||(decide (0<s.other.length)&&zah k s.other)))
def zbh:Nat->List Ex->Bool
 | 0,_=>true
 | k+1,l=>l.all (fun x=>zco (exS x.op) x.mod x.name&&(nOk (exS x.op) x.n&&(za9 (exS x.op) x.args.length&&zbh k x.args)))
def zar:Nat->List St->Bool
 | 0,_=>true
 | k+1,l=>l.all (fun s=>zco (stS s.op) s.mod s.name&&(za9 (stS s.op) s.args.length&&(zbh 6 s.args&&(((stS s.op).body||decide (s.body.length=0))&&(((stS s.op).other||decide (s.other.length=0))&&(zar k s.body&&zar k s.other))))))
def zds (d:De):Bool:=if d.kind=1 then numOkB d.n else if d.kind=3 then decide (1<=d.n)&&decide (d.n<=32) else decide (d.n=0)
def Mo.bodies (m:Mo):List (List St):=m.procs.map Pr.body++[m.main]
def Mo.kinds (m:Mo):Bool:=m.decls.all (fun d=>decide (1<=d.kind)&&decide (d.kind<=3))&&m.bodies.all (zaq 6)
def Mo.many (m:Mo):Bool:=decide (3<m.uses.length)||(decide (10<m.decls.length)||(decide (6<m.procs.length)||(m.procs.any (fun p=>decide (3<p.params.length)||decide (4<p.locals.length))||m.bodies.any (zah 6))))
def Mo.form (m:Mo):Bool:=nameOk m.name&&(m.uses.all nameOk&&(m.decls.all (fun d=>nameOk d.name&&zds d)&&(m.procs.all (fun p=>nameOk p.name&&(p.params.all nameOk&&p.locals.all nameOk))&&m.bodies.all (zar 6))))
def Mo.err (m:Mo):Int:=if m.kinds then (if m.many then 2 else (if m.form then 0 else 1)) else 4
theorem zjg {α:Type} (ts:List α) (p:α->Bool) (k:Nat) (h:k<ts.length):(ts.take (k+1)).any p=((ts.take k).any p||p ts[k]):=by
 rw [vaf h,List.any_append];simp
theorem ztk {α:Type} (ts:List α) (p:α->Bool) (k:Nat) (h:k<ts.length) (hp:p ts[k]=true):ts.any p=true:=by
 rw [List.any_eq_true];exact ⟨ts[k],vag _,hp⟩
theorem zci {α:Type} {ts:List α} {p:α->Bool} {k:Nat} (h:(ts.take k).all p=true) (hk:¬ k<ts.length):ts.all p=true:=by
 rw [vau (by omega)] at h;exact h
theorem znz {α:Type} {ts:List α} {p:α->Bool} {k:Nat} (h:(ts.take k).any p=false) (hk:¬ k<ts.length):ts.any p=false:=by
 rw [vau (by omega)] at h;exact h
set_option maxRecDepth 100000
set_option maxHeartbeats 1600000
theorem z0y (s:ByteArray):zu2 s=((s.toList == [109,111,100,117,108,101])||((s.toList == [117,115,101])||((s.toList == [112,117,98])||((s.toList == [99,111,110,115,116])||((s.toList == [118,97,114])||((s.toList == [97,114,114,97,121])||((s.toList == [112,114,111,99])||((s.toList == [108,111,99,97,108])||((s.toList == [109,97,105,110]) ||
 ((s.toList == [105,102])||((s.toList == [101,108,115,101])||((s.toList == [119,104,105,108,101])||((s.toList == [114,101,116,117,114,110])||((s.toList == [111,117,116])||((s.toList == [105,110])||false))))))))))))))):=by
 unfold zu2 kept;rw [vbb];simp only [List.contains_cons,List.contains_nil]
theorem zmk (s:ByteArray) (w:World) :
 qc 237 #[.string s] w fun e w'=>e = .returned (.bool (zu2 s))/\w'=w:=by
 go_enter Tryz.func237,Tryz.ntmps237;go_wp2_with fail
 all_goals go_ret
 all_goals refine ⟨ret_bool ?_,rfl⟩
 all_goals rw [z0y]
 all_goals simp only [*,Bool.true_or,ven,Bool.or_true]
 all_goals simp_all only [vcu]
theorem ztl (w:World) (o:Obj):(w.alloc o).heap[w.heap.size]? = some o:=(MapKept.heap_alloc w o).1
theorem zml (t:Tk) (hk:zd6 t=true):(zcs [t] == 0)=t.okB:=by
 unfold zcs;simp only [vcy,vei,hk,Bool.and_true,if_true,vaw,vco]
 cases t.okB<;>rfl
theorem zx7 (t:Tk) (w:World) (hs:t.text.size<=maxLen):zcm (w.alloc (.cells #[qi t.kind,qi t.n,.string t.text] 184)) (some (qa w.heap.size 0)) [t]:=by
 have h:∀ j u,#[Value.int .i64 t.kind,qi t.n,.string t.text][j]? = some u->(w.alloc (.cells #[qi t.kind,qi t.n,.string t.text] 184)).cell? (qa w.heap.size j)=some u:=fun j u hj=>by
  rw [vep (ztl w _)];exact hj
 refine Or.inr ⟨_,0,rfl,by simp,?_,?_,?_,?_⟩
 . intro i hi
   obtain rfl:i=0:=by simpa using hi
   exact h 0 _ rfl
 . intro i hi
   obtain rfl:i=0:=by simpa using hi
   exact h 1 _ rfl
 . intro i hi
   obtain rfl:i=0:=by simpa using hi
   exact h 2 _ rfl
 . intro i hi
   obtain rfl:i=0:=by simpa using hi
   exact hs
theorem zpt (t:Tk) (w:World) (hs:t.text.size<=maxLen) (hk:zd6 t=true) :
 qc 238 #[t.val] w fun e w'=>e = .returned (.bool t.okB)/\qb w w':=by
 have HK:Hid ((zcs [t] == 0)=t.okB):=zml t hk
 have HC:Hid (∀ (w1:World) (n:Nat),n=w1.heap.size->qc 116 #[.slice (some (qa n 0)) 1 1] (w1.alloc (.cells #[qi t.kind,qi t.n,.string t.text] 184)) fun e w'=>e = .returned (qi (zcs [t]))/\qb w1 w'):=
  fun w1 n hn=>by
   subst hn;refine (Check_any _ 1 [t] _ (zx7 t w1 hs) (by simp)).mono ?_;rintro e w' ⟨rfl,hb⟩;exact ⟨rfl,((Below.refl _ _).alloc (vaa _) _).trans (hb.mono (by simp))⟩
 obtain ⟨K,N,S⟩:=t;simp only [Tk.val] at *;go_enter Tryz.func238,Tryz.ntmps238
 go_wp2_with (go_at_call 116;refine (HC.out _ _ (by simp)).mono ?_;rintro e w' ⟨rfl,hb⟩)
 go_ret;exact ⟨ret_bool HK.out,((Below.refl _ _).alloc (vaa _) _).trans (hb.mono (by simp))⟩
theorem ztm (s:ByteArray):Tk.okB ⟨1,0,s⟩=Lx.zbt s.data.toList:=by simp [Tk.okB]
theorem z39 (n:Int):Tk.okB ⟨2,n,⟨#[]⟩⟩=numOkB n:=by simp [Tk.okB,numOkB,vbb]
theorem zdf (s:ByteArray) (w:World) (hs:s.size<=maxLen) :
 qc 186 #[.string s] w fun e w'=>e = .returned (.bool (nameOk s))/\qb w w':=by
 have HC:Hid (∀ w1:World,qc 238 #[.agg #[qi 1,qi 0,.string s]] w1 fun e w'=>e = .returned (.bool (Lx.zbt s.data.toList))/\qb w1 w'):=fun w1=>by
  rw [← ztm];exact zpt ⟨1,0,s⟩ w1 hs rfl
 by_cases hk:zu2 s=true
 . have HN:Hid (nameOk s=false):=by show _=_;simp [nameOk,hk]
   go_enter Tryz.func186,Tryz.ntmps186
   go_wp2_with (go_at_call 237;refine (zmk s _).mono ?_;rintro e w' ⟨rfl,rfl⟩)
   go_ret;exact ⟨ret_bool (by rw [HN.out]),Below.refl _ _⟩
 . have F5:zu2 s=false:=by simpa using hk
   clear hk
   have HN:Hid (nameOk s=Lx.zbt s.data.toList):=by show _=_;simp [nameOk,F5]
   go_enter Tryz.func186,Tryz.ntmps186
   go_wp2_with (first | (go_at_call 237;refine (zmk s _).mono ?_;rintro e w' ⟨rfl,rfl⟩) | (go_at_call 238;refine (HC.out _).mono ?_;rintro e w' ⟨rfl,hb⟩))
   go_ret;exact ⟨ret_bool (by rw [HN.out]),hb⟩
theorem zkf (n:Int) (w:World) :
 qc 241 #[qi n] w fun e w'=>e = .returned (.bool (numOkB n))/\qb w w':=by
 have HC:Hid (∀ w1:World,qc 238 #[.agg #[qi 2,qi n,.string ⟨#[]⟩]] w1 fun e w'=>e = .returned (.bool (numOkB n))/\qb w1 w'):=fun w1=>by
  rw [← z39];exact zpt ⟨2,n,⟨#[]⟩⟩ w1 (vae _) rfl
 go_enter Tryz.func241,Tryz.ntmps241
 go_wp2_with (go_at_call 238;refine (HC.out _).mono ?_;rintro e w' ⟨rfl,hb⟩)
 go_ret;exact ⟨rfl,hb⟩
theorem zh5 (s:ByteArray):s.toList.isEmpty=decide (s.size=0):=by
 rw [vbb];have h:=Lx.zbe s
 cases hl:s.data.toList with
 | nil=>rw [hl] at h;have h':s.size=0:=h.symm;simp [h']
 | cons c r => rw [hl] at h;have h':s.size≠0:=by simp at h;omega
               simp [h']
theorem zim (h:Sh) (mod name:ByteArray) (w:World) (h1:mod.size<=maxLen) (h2:name.size<=maxLen) :
 qc 242 #[h.val,.string mod,.string name] w fun e w'=>e = .returned (.bool (zco h mod name))/\qb w w':=by
 obtain ⟨a,b,c,d,e,f⟩:=h;simp only [Sh.val]
 cases a with
 | false=>
   have HR:Hid (zco ⟨false,b,c,d,e,f⟩ mod name=(mod.toList.isEmpty&&name.toList.isEmpty)):=by show _=_;simp [zco,zh5]
   cases hm:mod.toList.isEmpty with
   | false=>
     go_enter Tryz.func242,Tryz.ntmps242;go_wp2_with fail;go_ret;exact ⟨ret_bool (by rw [HR.out,hm];rfl),(Below.refl _ _).alloc (vaa _) _⟩
   | true=>
     go_enter Tryz.func242,Tryz.ntmps242;go_wp2_with fail;go_ret;exact ⟨ret_bool (by rw [HR.out,hm];rfl),(Below.refl _ _).alloc (vaa _) _⟩
 | true=>
   have HR:Hid (zco ⟨true,b,c,d,e,f⟩ mod name=(nameOk name&&(mod.toList.isEmpty||nameOk mod))):=by show _=_;simp [zco,zh5]
   cases hn:nameOk name with
   | false=>
     go_enter Tryz.func242,Tryz.ntmps242
     go_wp2_with (go_at_call 186;refine (zdf name _ h2).mono ?_;rw [hn];rintro e w' ⟨rfl,hb⟩)
     go_ret;exact ⟨ret_bool (by rw [HR.out,hn];rfl),((Below.refl _ _).alloc (vaa _) _).trans (hb.mono (by simp))⟩
   | true=>
     cases hm:mod.toList.isEmpty with
     | true=>
       go_enter Tryz.func242,Tryz.ntmps242
       go_wp2_with (go_at_call 186;refine (zdf name _ h2).mono ?_;rw [hn];rintro e w' ⟨rfl,hb⟩)
       go_ret;exact ⟨ret_bool (by rw [HR.out,hn,hm];rfl),((Below.refl _ _).alloc (vaa _) _).trans (hb.mono (by simp))⟩
     | false=>
       go_enter Tryz.func242,Tryz.ntmps242;go_wp2_with fail;refine (zdf name _ h2).mono ?_;rw [hn];rintro e w1 ⟨rfl,hb⟩;go_wp2_with fail;refine (zdf mod _ h1).mono ?_;rintro e w2 ⟨rfl,Aa⟩;go_wp2_with fail;go_ret;exact ⟨ret_bool (by rw [HR.out,hn,hm];simp),(((Below.refl _ _).alloc (vaa _) _).trans (hb.mono (by simp))).trans (Aa.mono (vbd (by simp) hb.size))⟩
theorem zkg (h:Sh) (n:Int) (w:World) :
 qc 280 #[h.val,qi n] w fun e w'=>e = .returned (.bool (nOk h n))/\qb w w':=by
 obtain ⟨a,b,c,d,e,f⟩:=h;simp only [Sh.val]
 cases b with
 | false=>
   have HR:Hid (nOk ⟨a,false,c,d,e,f⟩ n=(n == 0)):=by show _=_;rw [vcj];simp [nOk]
   go_enter Tryz.func280,Tryz.ntmps280;go_wp2_with fail;go_ret;exact ⟨ret_bool HR.out.symm,(Below.refl _ _).alloc (vaa _) _⟩
 | true=>
   have HR:Hid (nOk ⟨a,true,c,d,e,f⟩ n=numOkB n):=by show _=_;simp [nOk]
   go_enter Tryz.func280,Tryz.ntmps280
   go_wp2_with (go_at_call 241;refine (zkf n _).mono ?_;rintro e w' ⟨rfl,hb⟩)
   go_ret;exact ⟨ret_bool HR.out.symm,((Below.refl _ _).alloc (vaa _) _).trans (hb.mono (by simp))⟩
theorem zgl (h:Sh) (aa:OA) (k cap:Nat) (w:World) :
 qc 243 #[h.val,.slice aa k cap] w fun e w'=>e = .returned (.bool (za9 h k))/\qb w w':=by
 obtain ⟨a,b,c,d,e,f⟩:=h;simp only [Sh.val];have HR:Hid (za9 ⟨a,b,c,d,e,f⟩ k=(decide (c<=(k:Int))&&decide ((k:Int)<=d))):=rfl
 by_cases h1:c<=(k:Int)
 . go_enter Tryz.func243,Tryz.ntmps243
   go_wp2_with fail
   all_goals go_ret
   all_goals exact ⟨ret_bool (by rw [HR.out];simp [*]<;>omega),(Below.refl _ _).alloc (vaa _) _⟩
 . go_enter Tryz.func243,Tryz.ntmps243
   go_wp2_with fail
   all_goals go_ret
   all_goals exact ⟨ret_bool (by rw [HR.out];simp [*]<;>omega),(Below.refl _ _).alloc (vaa _) _⟩
theorem zn0 (x:De) (w:World) :
 qc 188 #[.agg #[qi x.kind,.string x.name,.bool x.pub,qi x.n]] w fun e w'=>e = .returned (.bool (zds x))/\qb w w':=by
 obtain ⟨K,S,B,N⟩:=x
 by_cases k1:K=1
 . have HR:Hid (zds ⟨K,S,B,N⟩=numOkB N):=if_pos k1
   subst k1;go_enter Tryz.func188,Tryz.ntmps188
   go_wp2_with (go_at_call 241;refine (zkf N _).mono ?_;rintro e w' ⟨rfl,hb⟩)
   go_ret;exact ⟨ret_bool HR.out.symm,((Below.refl _ _).alloc (vaa _) _).trans (hb.mono (by simp))⟩
 . have b1:(K == 1)=false:=beq_eq_false_iff_ne.2 k1
   by_cases k3:K=3
   . have HR:Hid (zds ⟨K,S,B,N⟩=(decide (1<=N)&&decide (N<=32))):=(if_neg k1).trans (if_pos k3)
     subst k3;clear k1 b1
     by_cases n1:1<=N
     . go_enter Tryz.func188,Tryz.ntmps188
       go_wp2_with fail
       all_goals go_ret
       all_goals exact ⟨ret_bool (by rw [HR.out];simp [*]<;>omega),(Below.refl _ _).alloc (vaa _) _⟩
     . go_enter Tryz.func188,Tryz.ntmps188
       go_wp2_with fail
       all_goals go_ret
       all_goals exact ⟨ret_bool (by rw [HR.out];simp [*]<;>omega),(Below.refl _ _).alloc (vaa _) _⟩
   . have b3:(K == 3)=false:=beq_eq_false_iff_ne.2 k3
     have HR:Hid (zds ⟨K,S,B,N⟩=(N == 0)):=by
      show _=_
      rw [vcj];simp [zds,k1,k3]
     clear k1 k3;go_enter Tryz.func188,Tryz.ntmps188;go_wp2_with fail
     all_goals go_ret
     all_goals exact ⟨ret_bool (by rw [HR.out]),(Below.refl _ _).alloc (vaa _) _⟩
end Go.Proofs.YtndkhgakfodldaaGreatDoor

namespace Go.Proofs.YtndkhgakfodldaaGreatDoor
set_option maxRecDepth 100000
set_option maxHeartbeats 1600000
open Go.RowKit Go.Maps
def zpu (v:Value):Option (DataW Value × List MemPlace):=some (.held v,[])
theorem zx8:Keyed Tryz.prog 3:=int_keyed Tryz.underlying3
theorem z2m (w:World):(zeroValue 270).run Tryz.prog w = .ok sh0.val w:=by kernel_rfl
def z0z (D:DataW Value) (f:Int->Option Sh):Prop:=∀ a:Int,has D (.int .i64 a)=(f a).isSome/\D.atKey (.int .i64 a) (.held sh0.val) = .held ((f a).getD sh0).val
def upd (f:Int->Option Sh) (k:Int) (s:Sh):Int->Option Sh:=fun a=>if a=k then some s else f a
theorem z0z.put {D:DataW Value} {f:Int->Option Sh} (h:z0z D f) (hD:IsMap D) (k:Int) (s:Sh):z0z (D.put (.int .i64 k) (.held s.val)) (upd f k s):=by
 intro a
 by_cases e:a=k
 . subst e
   simp only [upd,if_true];exact ⟨has_put_same (k:=.int .i64 a) hD trivial _,atKey_put_same (k:=.int .i64 a) hD trivial _ _⟩
 . simp only [upd,if_neg e]
   have Aj:Lit.int .i64 a≠.int .i64 k:=fun h=>e (by injection h)
   rw [has_put_other Aj,atKey_put_other Aj];exact h a
def zcq (w:World) (b n:Nat) (f:Int->Option Sh):Prop:=∃ D,w.ownsMap Tryz.prog 3 zpu b n D/\z0z D f
theorem zcq.later {w w':World} {b n:Nat} {f:Int->Option Sh} (h:zcq w b n f) (hb:Below w.heap.size w w'):zcq w' b n f:=by
 obtain ⟨D,h1,h2⟩:=h;have A0:=h1.lt;obtain ⟨es,clock,AZ,r⟩:=h1;exact ⟨D,⟨es,clock,(hb.block b A0).trans AZ,r⟩,h2⟩
theorem zcq.lt {w:World} {b n:Nat} {f:Int->Option Sh} (h:zcq w b n f):b<w.heap.size:=by obtain ⟨D,h1,_⟩:=h;exact h1.lt
theorem zcq.made (w:World):zcq (w.alloc (.map #[] 0)) w.heap.size 0 (fun _=>none):=
 ⟨.map [],veu w _ _ _,fun _=>⟨rfl,rfl⟩⟩
theorem zcq.look {w:World} {b n:Nat} {f:Int->Option Sh} (h:zcq w b n f) {k:Int} (hk:(Lit.int .i64 k).wf=true) :
 (Instr.lookup 232 (.map (some b)) (.int .i64 k) false).run Tryz.prog w = .ok ((f k).getD sh0).val w:=by
 obtain ⟨D,h1,h2⟩:=h;obtain ⟨v,ps,hrun,hv⟩:=h1.lookup zx8 Tryz.underlying232 (z2m w) (zd:=.held sh0.val) (zp:=[]) rfl (keyOf_int_mk Tryz.underlying3 hk);rw [(h2 k).2] at hv;simp only [zpu,vbf,vdd,vda] at hv;rw [hrun,hv.1]
theorem zcq.look_ok {w:World} {b n:Nat} {f:Int->Option Sh} (h:zcq w b n f) {k:Int} (hk:(Lit.int .i64 k).wf=true) :
 (Instr.lookup 232 (.map (some b)) (.int .i64 k) true).run Tryz.prog w = .ok (.tuple #[((f k).getD sh0).val,.bool (f k).isSome]) w:=by
 obtain ⟨D,h1,h2⟩:=h;obtain ⟨v,ps,hrun,hv⟩:=h1.look_ok zx8 Tryz.underlying232 (z2m w) (zd:=.held sh0.val) (zp:=[]) rfl (keyOf_int_mk Tryz.underlying3 hk);rw [(h2 k).2] at hv;simp only [zpu,vbf,vdd,vda] at hv;rw [hrun,hv.1,(h2 k).1]
theorem zcq.put {w:World} {b n:Nat} {f:Int->Option Sh} (h:zcq w b n f) (hn:n<maxLen) {k:Int} (hk:(Lit.int .i64 k).wf=true) (s:Sh) :
 ∃ w',(Instr.mapUpdate 232 (.map (some b)) (.int .i64 k) s.val).run Tryz.prog w = .ok () w'/\zcq w' b (n+1) (upd f k s)/\w.grownBy w' (some b):=by
 obtain ⟨D,h1,h2⟩:=h;obtain ⟨w',r1,r2,r3⟩:=h1.update zx8 Tryz.underlying232 hn (keyOf_int_mk Tryz.underlying3 hk) (val:=s.val) (d:=.held s.val) (ps:=[]) rfl;exact ⟨w',r1,⟨_,r2,h2.put h1.isMap k s⟩,r3⟩
theorem zpv {ops:Array Oper} {rest:List Oper} {o:Oper} {a:Act} {w:World} {Q:Exit->Act->World->Prop} (hg:o.guard=none) (m x v:Operand) (BB:o.op=Op.insert 232 m x v) {b n:Nat} {f:Int->Option Sh} (hS:zcq w b n f)
 (hm:a.eval m = .map (some b)) (k:Int) (hx:a.eval x = .int .i64 k) (x1 x2:Bool) (x3 x4:Int) (x5 x6:Bool) (hv:a.eval v = .agg #[.bool x1,.bool x2,.int .i64 x3,.int .i64 x4,.bool x5,.bool x6]) (hk:(Lit.int .i64 k).wf=true) (hn:n<maxLen)
 (hK:∀ w',zcq w' b (n+1) (upd f k ⟨x1,x2,x3,x4,x5,x6⟩)->w.grownBy w' (some b)->wpList Tryz.prog ops Q rest (a.put o.dst undef) w'):wpList Tryz.prog ops Q (o :: rest) a w:=by
 refine wpList_plain hg fun K' Mz=>?_
 obtain ⟨w',hrun,r1,r2⟩:=hS.put hn hk ⟨x1,x2,x3,x4,x5,x6⟩;simp only [Sh.val] at hrun;unfold Oper.wp;simp [execOp,BB,hm,hx,hv,hrun,Result.andThen];exact Mz _ _ (hK w' r1 r2)
theorem zx9 {ops:Array Oper} {rest:List Oper} {o:Oper} {a:Act} {w:World} {Q:Exit->Act->World->Prop} (hg:o.guard=none) (m x v:Operand) (BB:o.op=Op.mapUpdate 232 m x v) {b n:Nat} {f:Int->Option Sh} (hS:zcq w b n f)
 (hm:a.eval m = .map (some b)) (k:Int) (hx:a.eval x = .int .i64 k) (x1 x2:Bool) (x3 x4:Int) (x5 x6:Bool) (hv:a.eval v = .agg #[.bool x1,.bool x2,.int .i64 x3,.int .i64 x4,.bool x5,.bool x6]) (hk:(Lit.int .i64 k).wf=true) (hn:n<maxLen)
 (hK:∀ w',zcq w' b (n+1) (upd f k ⟨x1,x2,x3,x4,x5,x6⟩)->w.grownBy w' (some b)->wpList Tryz.prog ops Q rest (a.put o.dst undef) w'):wpList Tryz.prog ops Q (o :: rest) a w:=by
 refine wpList_plain hg fun K' Mz=>?_
 obtain ⟨w',hrun,r1,r2⟩:=hS.put hn hk ⟨x1,x2,x3,x4,x5,x6⟩;simp only [Sh.val] at hrun;unfold Oper.wp;simp [execOp,BB,hm,hx,hv,hrun,Result.andThen];exact Mz _ _ (hK w' r1 r2)
def stF:Int->Option Sh:=upd (upd (upd (upd (upd (upd (upd (fun _=>none) 1 ⟨true,false,1,1,false,false⟩) 2 ⟨true,false,2,2,false,false⟩) 3 ⟨true,false,0,3,false,false⟩) 4 ⟨false,false,1,1,true,true⟩) 5 ⟨false,false,1,1,true,false⟩) 6 ⟨false,false,1,1,false,false⟩) 7 ⟨false,false,1,1,false,false⟩
theorem z6b:stF=zla:=by
 funext a
 unfold stF upd zla
 repeat' split
 all_goals first | rfl | omega
def z7y:Int->Option Sh:=upd (upd (upd (upd (upd (upd (fun _=>none) 1 ⟨false,true,0,0,false,false⟩) 2 ⟨false,false,0,0,false,false⟩) 3 ⟨true,false,0,0,false,false⟩) 4 ⟨true,false,1,1,false,false⟩) 5 ⟨true,false,0,3,false,false⟩) 6 ⟨false,false,1,1,false,false⟩
def exF (k:Nat):Int->Option Sh:=fun a=>if 7<=a/\a<7+(k:Int) then some ⟨false,false,2,2,false,false⟩ else z7y a
theorem z00:z7y=exF 0:=by
 funext a
 unfold exF;rw [if_neg (by omega)]
theorem z01 (k:Nat):upd (exF k) (7+(k:Int)) ⟨false,false,2,2,false,false⟩=exF (k+1):=by
 funext a
 simp only [upd,exF]
 by_cases e:a=7+(k:Int)
 . rw [if_pos e,if_pos (by omega)]
 . rw [if_neg e]
   by_cases h:7<=a/\a<7+(k:Int)
   . rw [if_pos h,if_pos (by omega)]
   . rw [if_neg h,if_neg (by omega)]
theorem z4a:exF 9=zh4:=by
 funext a
 unfold exF z7y upd zh4
 repeat' split
 all_goals first | rfl | omega
theorem zlo (w:World) :
 Calls Tryz.prog 151 #[] w fun e w'=>∃ b,e = .returned (.map (some b))/\zcq w' b 7 zla/\Below w.heap.size w w':=by
 have GC:=@run_makeMap Tryz.prog;have hS:=zcq.made w;have hB:Below w.heap.size w (w.alloc (.map #[] 0)):=(Below.refl _ _).alloc (vaa _) _;go_enter Tryz.func151,Tryz.ntmps151
 go_wp2_with (refine zpv rfl _ _ _ rfl hS rfl _ rfl _ _ _ _ _ _ rfl (by decide) (by decide) ?_;clear hS;intro w1 hS hG;replace hB:=hB.grown hG hB.size (fun j hj=>by cases hj;exact vaa _);clear hG)
 go_ret;refine ⟨_,rfl,?_,hB⟩;rw [← z6b];exact hS
theorem zlp (w:World) :
 Calls Tryz.prog 150 #[] w fun e w'=>∃ b,e = .returned (.map (some b))/\zcq w' b 15 zh4/\Below w.heap.size w w':=by
 have GC:=@run_makeMap Tryz.prog;have hS:=zcq.made w;have hB:Below w.heap.size w (w.alloc (.map #[] 0)):=(Below.refl _ _).alloc (vaa _) _;go_enter Tryz.func150,Tryz.ntmps150
 go_wp2_with (refine zpv rfl _ _ _ rfl hS rfl _ rfl _ _ _ _ _ _ rfl (by decide) (by decide) ?_;clear hS;intro w1 hS hG;replace hB:=hB.grown hG hB.size (fun j hj=>by cases hj;exact vaa _);clear hG)
 have OC:zcq w1 w.heap.size 6 (exF 0):=by rw [← z00];exact hS
 clear hS
 go_loopw [2] (fun i wr=>∃ k:Nat,k<=9/\i = .int .i64 (7+(k:Int))/\zcq wr w.heap.size (6+k) (exF k)/\Below w.heap.size w wr) (fun i _=>16 - (intOf i).toNat)
 case atStart=>exact ⟨0,by omega,rfl,OC,hB⟩
 case round=>
  clear OC hB;obtain ⟨k,hk,rfl,hS,hB⟩:=hrel
  by_cases A0:k<9
  . go_wp2_with (refine zx9 rfl _ _ _ rfl hS rfl _ rfl _ _ _ _ _ _ rfl (WalkArith.wf_i64 (by omega)) (by unfold maxLen;omega) ?_;clear hS;intro w2 hS hG;replace hB:=hB.grown hG hB.size (fun j hj=>by cases hj;exact vaa _);clear hG)
    rw [z01] at hS;go_roundw
    case rel=>exact ⟨k+1,by omega,by go_num,hS,hB⟩
    case measure=>simp [intOf];omega
  . obtain rfl:k=9:=by omega
    go_wp2_with fail;go_ret;refine ⟨_,rfl,?_,hB⟩;rw [← z4a];exact hS
theorem z4b {w w1 w3:World} {o1:Obj} (hb:qb w w1) (h3:Below (w1.alloc o1).heap.size (w1.alloc o1) w3):qb w w3:=by
 have h1:=hb.alloc hb.size o1;exact h1.trans (h3.mono h1.size)
theorem z63 {w w1 w3:World} {o1 o2:Obj} (hb:qb w w1) (h3:Below ((w1.alloc o1).alloc o2).heap.size ((w1.alloc o1).alloc o2) w3):qb w w3:=
 z4b (hb.alloc hb.size o1) h3
theorem thenB {w w1 w3:World} (hb:qb w w1) (h3:qb w1 w3):qb w w3:=hb.trans (h3.mono hb.size)
theorem al1 (w:World) (o:Obj):qb w (w.alloc o):=(Below.refl _ _).alloc (vaa _) _
theorem al2 (w:World) (o1 o2:Obj):qb w ((w.alloc o1).alloc o2):=(al1 w o1).alloc (by simp) _
structure Blk (w:World) (b:Nat) (cs:List Value):Prop where
 lt:b<w.heap.size
 cell:∀ j v,cs[j]? = some v->w.cell? (qa b j)=some v
theorem Blk.later {w w':World} {b:Nat} {cs:List Value} (h:Blk w b cs) (hb:qb w w'):Blk w' b cs:=
 ⟨vah h.lt hb.size,fun j v hj=>(hb.cell (p:=(qa b j)) h.lt).trans (h.cell j v hj)⟩
theorem Blk.new (w:World) (cs:Array Value) (t:TypeId):Blk (w.alloc (.cells cs t)) w.heap.size cs.toList:=
 ⟨by simp,fun j v hj=>by rw [vep (ztl w _)];simpa using hj⟩
theorem Blk.new1 (w:World) (cs:Array Value) (t:TypeId) (o:Obj):Blk ((w.alloc (.cells cs t)).alloc o) w.heap.size cs.toList:=(Blk.new w cs t).later (al1 _ _)
theorem Blk.new2 (w:World) (cs:Array Value) (t:TypeId) (o:Obj):Blk ((w.alloc o).alloc (.cells cs t)) (w.heap.size+1) cs.toList:=by
 have:=Blk.new (w.alloc o) cs t;simpa using this
theorem Blk.c2 {w:World} {b:Nat} {a0 a1:Value} (h:Blk w b [a0,a1]):w.cell? (qa b 0)=some a0/\w.cell? (qa b 1)=some a1/\b<w.heap.size:=⟨h.cell 0 _ rfl,h.cell 1 _ rfl,h.lt⟩
theorem Blk.c5 {w:World} {b:Nat} {a0 a1 a2 a3 a4:Value} (h:Blk w b [a0,a1,a2,a3,a4]):w.cell? (qa b 0)=some a0/\w.cell? (qa b 1)=some a1/\w.cell? (qa b 2)=some a2/\w.cell? (qa b 3)=some a3/\w.cell? (qa b 4)=some a4/\b<w.heap.size:=
 ⟨h.cell 0 _ rfl,h.cell 1 _ rfl,h.cell 2 _ rfl,h.cell 3 _ rfl,h.cell 4 _ rfl,h.lt⟩
theorem Blk.c6 {w:World} {b:Nat} {a0 a1 a2 a3 a4 a5:Value} (h:Blk w b [a0,a1,a2,a3,a4,a5]):w.cell? (qa b 0)=some a0/\w.cell? (qa b 1)=some a1/\w.cell? (qa b 2)=some a2/\w.cell? (qa b 3)=some a3/\w.cell? (qa b 4)=some a4/\w.cell? (qa b 5)=some a5/\b<w.heap.size:=
 ⟨h.cell 0 _ rfl,h.cell 1 _ rfl,h.cell 2 _ rfl,h.cell 3 _ rfl,h.cell 4 _ rfl,h.cell 5 _ rfl,h.lt⟩
theorem zkh (be bs:Nat) (A:Nat->Prop):∀ (k:Nat),k<=6->∀ (l:List Ex) (a:OA) (cap:Nat) (Ae:Int) (w:World),Ae=7 - (k:Int)->DAt w A a l.length (zb0 l)->zcq w be 15 zh4->
 qc 235 #[.agg #[.map (some be),.map (some bs)],.slice a l.length cap,qi Ae] w fun e w'=>e = .returned (.bool (zba k l))/\qb w w'
 | 0,_,l,a,cap,Ae,w,hd,_,_=>by
   subst hd
   have HR:Hid (zba 0 l=true):=by show _=_;simp [zba]
   go_enter Tryz.func235,Tryz.ntmps235;go_wp2_with fail;go_ret;exact ⟨ret_bool HR.out.symm,(Below.refl _ _).alloc (vaa _) _⟩
 | k + 1, hk,l,a,cap,Ae,w,hd,hD,hS=>by
   have HR:Hid (zba (k+1) l=l.all (fun x=>exB x.op&&zba k x.args)):=by show _=_;simp [zba]
   have Bt:=hD.bound
   have C8:1<=Ae:=by omega
   have Jr:Ae<=6:=by omega
   have HI:Hid (∀ (l:List Ex) (a:OA) (cap:Nat) (w:World),DAt w A a l.length (zb0 l)->zcq w be 15 zh4->
    qc 235 #[.agg #[.map (some be),.map (some bs)],.slice a l.length cap,qi (Ae+1)] w fun e w'=>e = .returned (.bool (zba k l))/\qb w w'):=
    fun l a cap w h1 h2=>zkh be bs A k (by omega) l a cap (Ae+1) w (by omega) h1 h2
   have HD:Hid (DAt w A a l.length (zb0 l)):=hD;have HS:Hid (zcq w be 15 zh4):=hS;clear hD hS hd;have HB:Hid (Blk (w.alloc (.cells #[.map (some be),.map (some bs)] 235)) w.heap.size [.map (some be),.map (some bs)]):=Blk.new w _ _;go_enter Tryz.func235,Tryz.ntmps235;go_wp2_with fail
   go_loopw [15] (fun i wr=>∃ j:Nat,j<=l.length/\i=qi j/\(l.take j).all (fun x=>exB x.op&&zba k x.args)=true/\qb w wr/\Blk wr w.heap.size [.map (some be),.map (some bs)]) (fun i _=>l.length - (intOf i).toNat)
   case atStart=>exact ⟨0,vae _,rfl,rfl,al1 _ _,HB.out⟩
   case round=>
    clear HB;obtain ⟨j,hj,rfl,A6,hb,hB⟩:=hrel;have q0:=hB.cell 0 _ rfl;have q1:=hB.cell 1 _ rfl;have qz:=hB.lt;have HB:Hid (Blk wr w.heap.size [.map (some be),.map (some bs)]):=hB;have HA:Hid ((l.take j).all (fun x=>exB x.op&&zba k x.args)=true):=A6;clear A6 hB
    by_cases A0:j<l.length
    . obtain ⟨b,off,aa,cp,rfl,hx⟩:=(HD.out.later hb).ex j A0
      have CB:=hx.c0;have Bg:=hx.c1;have C1:=hx.c2;have Ej:=hx.c3;have FA:=hx.c4;have B9:=hx.lt;have HX:Hid (DAt wr A aa l[j].args.length (zb0 l[j].args)):=hx.args;have Bm:=((HS.out.later hb).later (al1 _ (kzE l[j].op l[j].n l[j].mod l[j].name aa l[j].args.length cp))).look_ok hx.wop;simp only [Sh.val] at Bm;clear hx
      cases BB:(zh4 l[j].op).isSome with
      | false=>
        rw [BB] at Bm;have HF:Hid (l.all (fun x=>exB x.op&&zba k x.args)=false):=all_not l _ j A0 (by simp [exB,BB]);go_wp2_with fail;go_ret;exact ⟨ret_bool (by rw [HR.out,HF.out]),thenB hb (al2 _ _ _)⟩
      | true=>
        rw [BB] at Bm;go_wp2_with fail;refine (HI.out l[j].args aa cp _ (HX.out.later (al2 _ _ _)) ((HS.out.later hb).later (al2 _ _ _))).mono ?_
        cases hr:zba k l[j].args with
        | false=>
          have HF:Hid (l.all (fun x=>exB x.op&&zba k x.args)=false):=all_not l _ j A0 (by simp [hr]);rintro e w3 ⟨rfl,A9⟩;go_wp2_with fail;go_ret;exact ⟨ret_bool (by rw [HR.out,HF.out]),z63 hb A9⟩
        | true=>
          have HT:Hid ((l.take (j+1)).all (fun x=>exB x.op&&zba k x.args)=true):=by
           show _=_
           rw [all_snoc l _ j A0,HA.out];simp [exB,BB,hr]
          rintro e w3 ⟨rfl,A9⟩;go_wp2_with fail;go_roundw
          case rel=>exact ⟨j+1,by omega,by go_num,HT.out,z63 hb A9,HB.out.later (thenB (al2 _ _ _) A9)⟩
          case measure=>simp [intOf];omega
    . have HT:Hid (l.all (fun x=>exB x.op&&zba k x.args)=true):=zci HA.out A0
      go_wp2_with fail;go_ret;exact ⟨ret_bool (by rw [HR.out,HT.out]),hb⟩
theorem zmm (a:OA) (cap:Nat) (Ae:Int) (w:World) :
 qc 236 #[.slice a 0 cap,qi Ae] w fun e w'=>e = .returned (.bool false)/\qb w w':=by
 go_enter Tryz.func236,Tryz.ntmps236;go_wp2_with fail
 go_loopw [21] (fun i wr=>i=qi 0/\wr=w) (fun _ _=>0)
 case atStart=>exact ⟨rfl,rfl⟩
 case round=>
  obtain ⟨rfl,rfl⟩:=hrel;go_wp2_with fail;go_ret;exact ⟨rfl,Below.refl _ _⟩
theorem zhd (k:Nat) {l:List Ex} (h:l.length=0):zam k l=false:=by
 have:l=[]:=vam h;subst this
 cases k<;>simp [zam]
theorem zmn (A:Nat->Prop):∀ (k:Nat),k<=6->∀ (l:List Ex) (a:OA) (cap:Nat) (Ae:Int) (w:World),Ae=7 - (k:Int)->DAt w A a l.length (zb0 l)->
 qc 236 #[.slice a l.length cap,qi Ae] w fun e w'=>e = .returned (.bool (zam k l))/\qb w w'
 | 0,_,l,a,cap,Ae,w,hd,hD=>by
   subst hd;have Bt:=hD.bound;clear hD
   by_cases h0:l.length=0
   . rw [zhd 0 h0,h0]
     exact zmm a cap _ w
   . have HR:Hid (zam 0 l=true):=by show _=_;simp [zam];omega
     by_cases h3:3<l.length
     . go_enter Tryz.func236,Tryz.ntmps236
       go_wp2_with fail;go_ret;exact ⟨ret_bool HR.out.symm,Below.refl _ _⟩
     . go_enter Tryz.func236,Tryz.ntmps236
       go_wp2_with fail;go_ret;exact ⟨ret_bool HR.out.symm,Below.refl _ _⟩
 | k + 1, hk,l,a,cap,Ae,w,hd,hD=>by
   have HR:Hid (zam (k+1) l=(decide (3<l.length)||l.any (fun x=>zam k x.args))):=by show _=_;simp [zam]
   have Bt:=hD.bound
   have C8:1<=Ae:=by omega
   have Jr:Ae<=6:=by omega
   have HI:Hid (∀ (l:List Ex) (a:OA) (cap:Nat) (w:World),DAt w A a l.length (zb0 l)->
    qc 236 #[.slice a l.length cap,qi (Ae+1)] w fun e w'=>e = .returned (.bool (zam k l))/\qb w w'):=
    fun l a cap w h1=>zmn A k (by omega) l a cap (Ae+1) w (by omega) h1
   have HD:Hid (DAt w A a l.length (zb0 l)):=hD;clear hD hd
   by_cases h0:l.length=0
   . rw [zhd (k+1) h0,h0]
     exact zmm a cap _ w
   have JD:0<l.length:=by omega
   clear h0
   by_cases h3:3<l.length
   . have HT:Hid (zam (k+1) l=true):=by show _=_;rw [HR.out];simp [h3]
     clear C8;go_enter Tryz.func236,Tryz.ntmps236;go_wp2_with fail;go_ret;exact ⟨ret_bool HT.out.symm,Below.refl _ _⟩
   . have HN : Hid (zam (k+1) l=l.any (fun x=>zam k x.args)):=by show _=_;rw [HR.out];simp [h3]
     clear HR;go_enter Tryz.func236,Tryz.ntmps236;go_wp2_with fail
     . go_loopw [21] (fun i wr=>∃ j:Nat,j<=l.length/\i=qi j/\(l.take j).any (fun x=>zam k x.args)=false/\qb w wr) (fun i _=>l.length - (intOf i).toNat)
       case atStart=>exact ⟨0,vae _,rfl,rfl,Below.refl _ _⟩
       case round=>
        obtain ⟨j,hj,rfl,A6,hb⟩:=hrel;have HA:Hid ((l.take j).any (fun x=>zam k x.args)=false):=A6;clear A6
        by_cases A0:j<l.length
        . obtain ⟨b,off,aa,cp,rfl,hx⟩:=(HD.out.later hb).ex j A0
          have CB:=hx.c0;have Bg:=hx.c1;have C1:=hx.c2;have Ej:=hx.c3;have FA:=hx.c4;have B9:=hx.lt;have HX:Hid (DAt wr A aa l[j].args.length (zb0 l[j].args)):=hx.args;clear hx;go_wp2_with fail;refine (HI.out l[j].args aa cp _ (HX.out.later (al1 _ _))).mono ?_
          cases hr:zam k l[j].args with
          | true=>
            have HF:Hid (l.any (fun x=>zam k x.args)=true):=ztk l _ j A0 hr;rintro e w3 ⟨rfl,A9⟩;go_wp2_with fail;go_ret;exact ⟨ret_bool (by rw [HN.out,HF.out]),z4b hb A9⟩
          | false=>
            have HT:Hid ((l.take (j+1)).any (fun x=>zam k x.args)=false):=by
             show _=_
             rw [zjg l _ j A0,HA.out];simp [hr]
            rintro e w3 ⟨rfl,A9⟩;go_wp2_with fail;go_roundw
            case rel=>exact ⟨j+1,by omega,by go_num,HT.out,z4b hb A9⟩
            case measure=>simp [intOf];omega
        . have HT:Hid (l.any (fun x=>zam k x.args)=false):=znz HA.out A0
          go_wp2_with fail;go_ret;exact ⟨ret_bool (by rw [HN.out,HT.out]),hb⟩
theorem zrm {k:Nat} {l:List Ex} (h:zam (k+1) l=false) (j:Nat) (hj:j<l.length):zam k l[j].args=false:=by
 simp only [zam,vas,vbz] at h;have:=h.2 l[j] (vag hj);simpa using this
theorem zu3 (be bs:Nat) (A:Nat->Prop):∀ (k:Nat) (l:List Ex) (a:OA) (cap:Nat) (w:World),DAt w A a l.length (zb0 l)->zcq w be 15 zh4->zam k l=false->
 qc 244 #[.agg #[.map (some be),.map (some bs)],.slice a l.length cap] w fun e w'=>e = .returned (.bool (zbh k l))/\qb w w':=by
 intro k
 induction k with
 | zero=>
   intro l a cap w hD hS hM
   have h0:l.length=0:=by simp [zam] at hM;simp [hM]
   have HR:Hid (zbh 0 l=true):=by show _=_;simp [zbh]
   rw [h0];go_enter Tryz.func244,Tryz.ntmps244;go_wp2_with fail
   go_loopw [10] (fun i wr=>i=qi 0/\qb w wr) (fun _ _=>0)
   case atStart=>exact ⟨rfl,al1 _ _⟩
   case round=>
    obtain ⟨rfl,hb⟩:=hrel;go_wp2_with fail;go_ret;exact ⟨ret_bool HR.out.symm,hb⟩
 | succ k ih=>
   intro l a cap w hD hS hM
   have HR:Hid (zbh (k+1) l=l.all (fun x=>zco (exS x.op) x.mod x.name&&(nOk (exS x.op) x.n&&(za9 (exS x.op) x.args.length&&zbh k x.args)))):=by show _=_;simp [zbh]
   have Bt:=hD.bound
   have HI:Hid (∀ (l:List Ex) (a:OA) (cap:Nat) (w:World),DAt w A a l.length (zb0 l)->zcq w be 15 zh4->zam k l=false->
    qc 244 #[.agg #[.map (some be),.map (some bs)],.slice a l.length cap] w fun e w'=>e = .returned (.bool (zbh k l))/\qb w w'):=ih
   have HD:Hid (DAt w A a l.length (zb0 l)):=hD;have HS:Hid (zcq w be 15 zh4):=hS;have HM:Hid (∀ (j:Nat) (hj:j<l.length),zam k l[j].args=false):=zrm hM;clear hD hS ih hM;have HB:Hid (Blk (w.alloc (.cells #[.map (some be),.map (some bs)] 235)) w.heap.size [.map (some be),.map (some bs)]):=Blk.new w _ _;go_enter Tryz.func244,Tryz.ntmps244;go_wp2_with fail
   go_loopw [10] (fun i wr=>∃ j:Nat,j<=l.length/\i=qi j/\(l.take j).all (fun x=>zco (exS x.op) x.mod x.name&&(nOk (exS x.op) x.n&&(za9 (exS x.op) x.args.length&&zbh k x.args)))=true/\qb w wr/\Blk wr w.heap.size [.map (some be),.map (some bs)]) (fun i _=>l.length - (intOf i).toNat)
   case atStart=>exact ⟨0,vae _,rfl,rfl,al1 _ _,HB.out⟩
   case round =>
    clear HB;obtain ⟨j,hj,rfl,A6,hb,hB⟩:=hrel;have q0:=hB.cell 0 _ rfl;have q1:=hB.cell 1 _ rfl;have qz:=hB.lt;have HB:Hid (Blk wr w.heap.size [.map (some be),.map (some bs)]):=hB;have HA:Hid ((l.take j).all (fun x=>zco (exS x.op) x.mod x.name&&(nOk (exS x.op) x.n&&(za9 (exS x.op) x.args.length&&zbh k x.args)))=true):=A6;clear A6 hB
    by_cases A0:j<l.length
    . obtain ⟨b,off,aa,cp,rfl,hx⟩:=(HD.out.later hb).ex j A0
      have CB:=hx.c0;have Bg:=hx.c1;have C1:=hx.c2;have Ej:=hx.c3;have FA:=hx.c4;have B9:=hx.lt;have HX:Hid (ExAt wr A b (off+j*5) l[j] aa cp):=hx
      have HF:Hid (∀ c:Bool,(zco (exS l[j].op) l[j].mod l[j].name&&(nOk (exS l[j].op) l[j].n&&(za9 (exS l[j].op) l[j].args.length&&zbh k l[j].args)))=false->zbh (k+1) l=false):=fun _ h=>by rw [HR.out];exact all_not l _ j A0 h
      have HT:Hid ((zco (exS l[j].op) l[j].mod l[j].name&&(nOk (exS l[j].op) l[j].n&&(za9 (exS l[j].op) l[j].args.length&&zbh k l[j].args)))=true->(l.take (j+1)).all (fun x=>zco (exS x.op) x.mod x.name&&(nOk (exS x.op) x.n&&(za9 (exS x.op) x.args.length&&zbh k x.args)))=true):=fun h=>by
       rw [all_snoc l _ j A0,HA.out,h];rfl
      have Bm:=((HS.out.later hb).later (al1 _ (kzE l[j].op l[j].n l[j].mod l[j].name aa l[j].args.length cp))).look hx.wop;clear hx;have Jh:(Instr.lookup 232 (.map (some be)) (qi l[j].op) false).run Tryz.prog (wr.alloc (kzE l[j].op l[j].n l[j].mod l[j].name aa l[j].args.length cp)) = .ok (exS l[j].op).val (wr.alloc (kzE l[j].op l[j].n l[j].mod l[j].name aa l[j].args.length cp)):=Bm;clear Bm;generalize hs:exS l[j].op=s at Jh HF HT;clear hs;simp only [Sh.val] at Jh;go_wp2_with fail;refine (zim s l[j].mod l[j].name _ HX.out.wm HX.out.wna).mono ?_
      cases h1:zco s l[j].mod l[j].name with
      | false=>
        rintro e w3 ⟨rfl,c3⟩;have A9:qb wr w3:=thenB (al2 _ _ _) c3;clear c3;go_wp2_with fail;go_ret;exact ⟨ret_bool (HF.out true (by simp [h1])).symm,thenB hb A9⟩
      | true=>
        rintro e w3 ⟨rfl,c3⟩;have B0:=(HB.out.later (al2 _ _ _)).later c3;have B1:=(Blk.new1 wr #[qi l[j].op,qi l[j].n,.string l[j].mod,.string l[j].name,.slice aa l[j].args.length cp] 174 _).later c3;have B2:=(Blk.new2 wr #[.bool s.named,.bool s.number,qi s.least,qi s.most,.bool s.body,.bool s.other] 270 _).later c3;have A9:qb wr w3:=thenB (al2 _ _ _) c3;clear c3 q0 q1 qz;obtain ⟨q0,q1,qz⟩:=B0.c2;obtain ⟨x0,x1,x2,x3,x4,xz⟩:=B1.c5;obtain ⟨y0,y1,y2,y3,y4,y5,yz⟩:=B2.c6;have K0:Hid (Blk w3 w.heap.size [.map (some be),.map (some bs)]):=B0;have K1:Hid (Blk w3 wr.heap.size [qi l[j].op,qi l[j].n,.string l[j].mod,.string l[j].name,.slice aa l[j].args.length cp]):=B1;have K2:Hid (Blk w3 (wr.heap.size+1) [.bool s.named,.bool s.number,qi s.least,qi s.most,.bool s.body,.bool s.other]):=B2;clear B0 B1 B2;go_wp2_with fail;refine (zkg s l[j].n _).mono ?_
        cases h2:nOk s l[j].n with
        | false=>
          rintro e w4 ⟨rfl,c4⟩;have Ah:=thenB A9 c4;clear c4;go_wp2_with fail;go_ret;exact ⟨ret_bool (HF.out true (by simp [h2])).symm,thenB hb Ah⟩
        | true=>
          rintro e w4 ⟨rfl,c4⟩;have B0:=K0.out.later c4;have B1:=K1.out.later c4;have B2:=K2.out.later c4;have Ah:=thenB A9 c4;clear c4 K0 K1 K2;clear q0 q1 qz x0 x1 x2 x3 x4 xz y0 y1 y2 y3 y4 y5 yz;obtain ⟨q0,q1,qz⟩:=B0.c2;obtain ⟨x0,x1,x2,x3,x4,xz⟩:=B1.c5;obtain ⟨y0,y1,y2,y3,y4,y5,yz⟩:=B2.c6;have K0:Hid (Blk w4 w.heap.size [.map (some be),.map (some bs)]):=B0;have K1:Hid (Blk w4 wr.heap.size [qi l[j].op,qi l[j].n,.string l[j].mod,.string l[j].name,.slice aa l[j].args.length cp]):=B1;have K2:Hid (Blk w4 (wr.heap.size+1) [.bool s.named,.bool s.number,qi s.least,qi s.most,.bool s.body,.bool s.other]):=B2;clear B0 B1 B2;go_wp2_with fail;refine (zgl s aa l[j].args.length cp _).mono ?_
          cases h3:za9 s l[j].args.length with
          | false=>
            rintro e w5 ⟨rfl,c5⟩;have Aq:=thenB Ah c5;clear c5;go_wp2_with fail;go_ret;exact ⟨ret_bool (HF.out true (by simp [h3])).symm,thenB hb Aq⟩
          | true=>
            rintro e w5 ⟨rfl,c5⟩;have B0:=K0.out.later c5;have B1:=K1.out.later c5;have B2:=K2.out.later c5;have Aq:=thenB Ah c5;clear c5 K0 K1 K2;clear q0 q1 qz x0 x1 x2 x3 x4 xz y0 y1 y2 y3 y4 y5 yz;obtain ⟨q0,q1,qz⟩:=B0.c2;obtain ⟨x0,x1,x2,x3,x4,xz⟩:=B1.c5;obtain ⟨y0,y1,y2,y3,y4,y5,yz⟩:=B2.c6;have K0:Hid (Blk w5 w.heap.size [.map (some be),.map (some bs)]):=B0;have K1:Hid (Blk w5 wr.heap.size [qi l[j].op,qi l[j].n,.string l[j].mod,.string l[j].name,.slice aa l[j].args.length cp]):=B1;have K2:Hid (Blk w5 (wr.heap.size+1) [.bool s.named,.bool s.number,qi s.least,qi s.most,.bool s.body,.bool s.other]):=B2;clear B0 B1 B2;go_wp2_with fail;refine (HI.out l[j].args aa cp _ (HX.out.args.later Aq) ((HS.out.later hb).later Aq) (HM.out j A0)).mono ?_
            cases h4:zbh k l[j].args with
            | false=>
              rintro e w6 ⟨rfl,c6⟩;have AH:=thenB Aq c6;clear c6;go_wp2_with fail;go_ret;exact ⟨ret_bool (HF.out true (by simp [h4])).symm,thenB hb AH⟩
            | true=>
              rintro e w6 ⟨rfl,c6⟩;have AH:=thenB Aq c6;have B0:=K0.out.later c6;clear c6;have B8:Hid ((l.take (j+1)).all (fun x=>zco (exS x.op) x.mod x.name&&(nOk (exS x.op) x.n&&(za9 (exS x.op) x.args.length&&zbh k x.args)))=true):=HT.out (by simp [h1,h2,h3,h4]);go_wp2_with fail;go_roundw
              case rel=>exact ⟨j+1,by omega,by go_num,B8.out,thenB hb AH,B0⟩
              case measure=>simp [intOf];omega
    . have HT:Hid (l.all (fun x=>zco (exS x.op) x.mod x.name&&(nOk (exS x.op) x.n&&(za9 (exS x.op) x.args.length&&zbh k x.args)))=true):=zci HA.out A0
      go_wp2_with fail;go_ret;exact ⟨ret_bool (by rw [HR.out,HT.out]),hb⟩
set_option maxHeartbeats 3200000
theorem z02 (a0 a1:Bool) (a2 a3:Int) (a4 a5:Bool) (w:World):(Instr.field 270 (.agg #[.bool a0,.bool a1,qi a2,qi a3,.bool a4,.bool a5]) 4).run Tryz.prog w = .ok (.bool a4) w:=by kernel_rfl
theorem zki (be bs:Nat) (A:Nat->Prop):∀ (k:Nat),k<=6->∀ (l:List St) (a:OA) (cap:Nat) (Ae:Int) (w:World),Ae=7 - (k:Int)->DAt w A a l.length (zby l)->zcq w be 15 zh4->zcq w bs 7 zla->
 qc 184 #[.agg #[.map (some be),.map (some bs)],.slice a l.length cap,qi Ae] w fun e w'=>e = .returned (.bool (zaq k l))/\qb w w'
 | 0,_,l,a,cap,Ae,w,hd,_,_,_=>by
   subst hd
   have HR:Hid (zaq 0 l=true):=by show _=_;simp [zaq]
   go_enter Tryz.func184,Tryz.ntmps184;go_wp2_with fail;go_ret;exact ⟨ret_bool HR.out.symm,al1 _ _⟩
 | k + 1, hk, l,a,cap,Ae,w,hd,hD,hS,hT=>by
   have HR:Hid (zaq (k+1) l=l.all (fun s=>stB s.op&&(zba 6 s.args&&(zaq k s.body&&zaq k s.other)))):=by show _=_;simp [zaq]
   have Bt:=hD.bound
   have C8:1<=Ae:=by omega
   have Jr:Ae<=6:=by omega
   have HI:Hid (∀ (l:List St) (a:OA) (cap:Nat) (w:World),DAt w A a l.length (zby l)->zcq w be 15 zh4->zcq w bs 7 zla->
    qc 184 #[.agg #[.map (some be),.map (some bs)],.slice a l.length cap,qi (Ae+1)] w fun e w'=>e = .returned (.bool (zaq k l))/\qb w w'):=
    fun l a cap w h1 h2 h3=>zki be bs A k (by omega) l a cap (Ae+1) w (by omega) h1 h2 h3
   have HD:Hid (DAt w A a l.length (zby l)):=hD;have HS:Hid (zcq w be 15 zh4):=hS;have HU:Hid (zcq w bs 7 zla):=hT;clear hD hS hT hd;have HB:Hid (Blk (w.alloc (.cells #[.map (some be),.map (some bs)] 235)) w.heap.size [.map (some be),.map (some bs)]):=Blk.new w _ _;go_enter Tryz.func184,Tryz.ntmps184;go_wp2_with fail
   go_loopw [15] (fun i wr=>∃ j:Nat,j<=l.length/\i=qi j/\(l.take j).all (fun s=>stB s.op&&(zba 6 s.args&&(zaq k s.body&&zaq k s.other)))=true/\qb w wr/\Blk wr w.heap.size [.map (some be),.map (some bs)]) (fun i _=>l.length - (intOf i).toNat)
   case atStart=>exact ⟨0,vae _,rfl,rfl,al1 _ _,HB.out⟩
   case round =>
    clear HB;obtain ⟨j,hj,rfl,A6,hb,hB⟩:=hrel;have q0:=hB.cell 0 _ rfl;have q1:=hB.cell 1 _ rfl;have qz:=hB.lt;have HB:Hid (Blk wr w.heap.size [.map (some be),.map (some bs)]):=hB;have HA:Hid ((l.take j).all (fun s=>stB s.op&&(zba 6 s.args&&(zaq k s.body&&zaq k s.other)))=true):=A6;clear A6 hB
    by_cases A0:j<l.length
    . obtain ⟨b,off,a1,p1,a2,p2,a3,p3,rfl,hx⟩:=(HD.out.later hb).st j A0
      have CB:=hx.c0;have Bg:=hx.c1;have C1:=hx.c2;have Ej:=hx.c3;have FA:=hx.c4;have Ox:=hx.c5;have B9:=hx.lt;have Dw:=hx.args.bound;have Dv:=hx.body.bound;have F1:=hx.other.bound;have HX:Hid (StAt wr A b (off+j*6) l[j] a1 p1 a2 p2 a3 p3):=hx
      have HF:Hid ((stB l[j].op&&(zba 6 l[j].args&&(zaq k l[j].body&&zaq k l[j].other)))=false->zaq (k+1) l=false):=fun h=>by rw [HR.out];exact all_not l _ j A0 h
      have HT:Hid ((stB l[j].op&&(zba 6 l[j].args&&(zaq k l[j].body&&zaq k l[j].other)))=true->(l.take (j+1)).all (fun s=>stB s.op&&(zba 6 s.args&&(zaq k s.body&&zaq k s.other)))=true):=fun h=>by rw [all_snoc l _ j A0,HA.out,h];rfl
      have Bm:=((HU.out.later hb).later (al1 _ (kzB l[j].op l[j].mod l[j].name a1 l[j].args.length p1 a2 l[j].body.length p2 a3 l[j].other.length p3))).look_ok hx.wop;clear hx
      cases BB:(zla l[j].op).isSome with
      | false=>
        rw [BB] at Bm;simp only [Sh.val] at Bm;go_wp2_with fail;go_ret;exact ⟨ret_bool (HF.out (by simp [stB,BB])).symm,thenB hb (al2 _ _ _)⟩
      | true=>
        rw [BB] at Bm;generalize hs:(zla l[j].op).getD sh0=s at Bm;simp only [Sh.val] at Bm;clear hs;go_wp2_with fail;refine (zkh be bs A 6 (by omega) l[j].args a1 p1 1 _ (by omega) (HX.out.args.later (al2 _ _ _)) ((HS.out.later hb).later (al2 _ _ _))).mono ?_
        cases h1:zba 6 l[j].args with
        | false=>
          rintro e w3 ⟨rfl,c3⟩;go_wp2_with fail;go_ret;exact ⟨ret_bool (HF.out (by simp [h1])).symm,z63 hb c3⟩
        | true=>
          rintro e w3 ⟨rfl,c3⟩;have B0:=(HB.out.later (al2 _ _ _)).later c3;have B1:=(Blk.new1 wr #[qi l[j].op,.string l[j].mod,.string l[j].name,.slice a1 l[j].args.length p1,.slice a2 l[j].body.length p2,.slice a3 l[j].other.length p3] 176 _).later c3;have A9:qb wr w3:=thenB (al2 _ _ _) c3;clear c3 q0 q1 qz;obtain ⟨q0,q1,qz⟩:=B0.c2;obtain ⟨x0,x1,x2,x3,x4,x5,xz⟩:=B1.c6;have K0:Hid (Blk w3 w.heap.size [.map (some be),.map (some bs)]):=B0;have K1:Hid (Blk w3 wr.heap.size [qi l[j].op,.string l[j].mod,.string l[j].name,.slice a1 l[j].args.length p1,.slice a2 l[j].body.length p2,.slice a3 l[j].other.length p3]):=B1;clear B0 B1;go_wp2_with fail;refine (HI.out l[j].body a2 p2 _ (HX.out.body.later A9) ((HS.out.later hb).later A9) ((HU.out.later hb).later A9)).mono ?_
          cases h2:zaq k l[j].body with
          | false=>
            rintro e w4 ⟨rfl,c4⟩;have Ah:=thenB A9 c4;clear c4;go_wp2_with fail;go_ret;exact ⟨ret_bool (HF.out (by simp [h2])).symm,thenB hb Ah⟩
          | true=>
            rintro e w4 ⟨rfl,c4⟩;have B0:=K0.out.later c4;have B1:=K1.out.later c4;have Ah:=thenB A9 c4;clear c4 K0 K1;clear q0 q1 qz x0 x1 x2 x3 x4 x5 xz;obtain ⟨q0,q1,qz⟩:=B0.c2;obtain ⟨x0,x1,x2,x3,x4,x5,xz⟩:=B1.c6;have K0:Hid (Blk w4 w.heap.size [.map (some be),.map (some bs)]):=B0;have K1:Hid (Blk w4 wr.heap.size [qi l[j].op,.string l[j].mod,.string l[j].name,.slice a1 l[j].args.length p1,.slice a2 l[j].body.length p2,.slice a3 l[j].other.length p3]):=B1;clear B0 B1;go_wp2_with fail;refine (HI.out l[j].other a3 p3 _ (HX.out.other.later Ah) ((HS.out.later hb).later Ah) ((HU.out.later hb).later Ah)).mono ?_
            cases h3:zaq k l[j].other with
            | false=>
              rintro e w5 ⟨rfl,c5⟩;have Aq:=thenB Ah c5;clear c5;go_wp2_with fail;go_ret;exact ⟨ret_bool (HF.out (by simp [h3])).symm,thenB hb Aq⟩
            | true=>
              rintro e w5 ⟨rfl,c5⟩;have K0':=K0.out.later c5;have Aq:=thenB Ah c5;clear c5;have B8:Hid ((l.take (j+1)).all (fun s=>stB s.op&&(zba 6 s.args&&(zaq k s.body&&zaq k s.other)))=true):=HT.out (by simp [stB,BB,h1,h2,h3]);go_wp2_with fail;go_roundw
              case rel=>exact ⟨j+1,by omega,by go_num,B8.out,thenB hb Aq,K0'⟩
              case measure=>simp [intOf];omega
    . have HT:Hid (l.all (fun s=>stB s.op&&(zba 6 s.args&&(zaq k s.body&&zaq k s.other)))=true):=zci HA.out A0
      go_wp2_with fail;go_ret;exact ⟨ret_bool (by rw [HR.out,HT.out]),hb⟩
theorem zmo (be bs:Nat) (A:Nat->Prop):∀ (k:Nat),k<=6->∀ (l:List St) (a:OA) (cap:Nat) (Ae:Int) (w:World),Ae=7 - (k:Int)->DAt w A a l.length (zby l)->zcq w be 15 zh4->zcq w bs 7 zla->
 qc 185 #[.agg #[.map (some be),.map (some bs)],.slice a l.length cap,qi Ae] w fun e w'=>e = .returned (.bool (zah k l))/\qb w w'
 | 0,_,l,a,cap,Ae,w,hd,_,_,_=>by
   subst hd
   have HR:Hid (zah 0 l=true):=by show _=_;simp [zah]
   go_enter Tryz.func185,Tryz.ntmps185;go_wp2_with fail;go_ret;exact ⟨ret_bool HR.out.symm,al1 _ _⟩
 | k + 1, hk, l,a,cap,Ae,w,hd,hD,hS,hT=>by
   have HR:Hid (zah (k+1) l=(decide (10<l.length)||l.any (fun s=>zam 6 s.args||(((stS s.op).body||decide (0<s.body.length))&&zah k s.body||(decide (0<s.other.length)&&zah k s.other))))):=by show _=_;simp [zah]
   have Bt:=hD.bound
   have C8:1<=Ae:=by omega
   have Jr:Ae<=6:=by omega
   have HI:Hid (∀ (l:List St) (a:OA) (cap:Nat) (w:World),DAt w A a l.length (zby l)->zcq w be 15 zh4->zcq w bs 7 zla->
    qc 185 #[.agg #[.map (some be),.map (some bs)],.slice a l.length cap,qi (Ae+1)] w fun e w'=>e = .returned (.bool (zah k l))/\qb w w'):=
    fun l a cap w h1 h2 h3=>zmo be bs A k (by omega) l a cap (Ae+1) w (by omega) h1 h2 h3
   have HD:Hid (DAt w A a l.length (zby l)):=hD;have HS:Hid (zcq w be 15 zh4):=hS;have HU:Hid (zcq w bs 7 zla):=hT;clear hD hS hT hd;have HB:Hid (Blk (w.alloc (.cells #[.map (some be),.map (some bs)] 235)) w.heap.size [.map (some be),.map (some bs)]):=Blk.new w _ _
   by_cases DG:10<l.length
   . have HN:Hid (zah (k+1) l=true):=by show _=_;rw [HR.out];simp [DG]
     go_enter Tryz.func185,Tryz.ntmps185;go_wp2_with fail;go_ret;exact ⟨ret_bool HN.out.symm,al1 _ _⟩
   have HN:Hid (zah (k+1) l=l.any (fun s=>zam 6 s.args||(((stS s.op).body||decide (0<s.body.length))&&zah k s.body||(decide (0<s.other.length)&&zah k s.other)))):=by show _=_;rw [HR.out];simp [DG]
   clear HR;go_enter Tryz.func185,Tryz.ntmps185;go_wp2_with fail
   go_loopw [18] (fun i wr=>∃ j:Nat,j<=l.length/\i=qi j/\(l.take j).any (fun s=>zam 6 s.args||(((stS s.op).body||decide (0<s.body.length))&&zah k s.body||(decide (0<s.other.length)&&zah k s.other)))=false/\qb w wr/\Blk wr w.heap.size [.map (some be),.map (some bs)]) (fun i _=>l.length - (intOf i).toNat)
   case atStart=>exact ⟨0,vae _,rfl,rfl,al1 _ _,HB.out⟩
   case round =>
    clear HB;obtain ⟨j,hj,rfl,A6,hb,hB⟩:=hrel;have q0:=hB.cell 0 _ rfl;have q1:=hB.cell 1 _ rfl;have qz:=hB.lt;have HB:Hid (Blk wr w.heap.size [.map (some be),.map (some bs)]):=hB;have HA:Hid ((l.take j).any (fun s=>zam 6 s.args||(((stS s.op).body||decide (0<s.body.length))&&zah k s.body||(decide (0<s.other.length)&&zah k s.other)))=false):=A6;clear A6 hB
    by_cases A0:j<l.length
    . obtain ⟨b,off,a1,p1,a2,p2,a3,p3,rfl,hx⟩:=(HD.out.later hb).st j A0
      have CB:=hx.c0;have Bg:=hx.c1;have C1:=hx.c2;have Ej:=hx.c3;have FA:=hx.c4;have Ox:=hx.c5;have B9:=hx.lt;have Dw:=hx.args.bound;have Dv:=hx.body.bound;have F1:=hx.other.bound;have HX:Hid (StAt wr A b (off+j*6) l[j] a1 p1 a2 p2 a3 p3):=hx
      have HF:Hid ((zam 6 l[j].args||(((stS l[j].op).body||decide (0<l[j].body.length))&&zah k l[j].body||(decide (0<l[j].other.length)&&zah k l[j].other)))=true->zah (k+1) l=true):=fun h=>by rw [HN.out];exact ztk l _ j A0 h
      have HT:Hid ((zam 6 l[j].args||(((stS l[j].op).body||decide (0<l[j].body.length))&&zah k l[j].body||(decide (0<l[j].other.length)&&zah k l[j].other)))=false->(l.take (j+1)).any (fun s=>zam 6 s.args||(((stS s.op).body||decide (0<s.body.length))&&zah k s.body||(decide (0<s.other.length)&&zah k s.other)))=false):=fun h=>by rw [zjg l _ j A0,HA.out,h];rfl
      clear hx;go_wp2_with fail;refine (zmn A 6 (by omega) l[j].args a1 p1 1 _ (by omega) (HX.out.args.later (al1 _ _))).mono ?_
      cases h1:zam 6 l[j].args with
      | true=>
        rintro e w3 ⟨rfl,c3⟩;go_wp2_with fail;go_ret;exact ⟨ret_bool (HF.out (by simp [h1])).symm,z4b hb c3⟩
      | false =>
        rintro e w3 ⟨rfl,c3⟩;have B0:=(HB.out.later (al1 _ _)).later c3;have B1:=(Blk.new wr #[qi l[j].op,.string l[j].mod,.string l[j].name,.slice a1 l[j].args.length p1,.slice a2 l[j].body.length p2,.slice a3 l[j].other.length p3] 176).later c3;have A9:qb wr w3:=thenB (al1 _ _) c3;clear c3 q0 q1 qz;obtain ⟨q0,q1,qz⟩:=B0.c2;obtain ⟨x0,x1,x2,x3,x4,x5,xz⟩:=B1.c6;have K0:Hid (Blk w3 w.heap.size [.map (some be),.map (some bs)]):=B0;have K1:Hid (Blk w3 wr.heap.size [qi l[j].op,.string l[j].mod,.string l[j].name,.slice a1 l[j].args.length p1,.slice a2 l[j].body.length p2,.slice a3 l[j].other.length p3]):=B1;clear B0 B1;have Bm:(Instr.lookup 232 (.map (some bs)) (qi l[j].op) false).run Tryz.prog w3 = .ok (stS l[j].op).val w3:=((HU.out.later hb).later A9).look HX.out.wop;simp only [Sh.val] at Bm;have Ik:=z02
        cases Ch:(stS l[j].op).body with
        | true=>
          rw [Ch] at Bm
          have HG:Hid (((stS l[j].op).body||decide (0<l[j].body.length))=true):=by show _=_;simp [Ch]
          clear Ch;go_wp2_with fail;refine (HI.out l[j].body a2 p2 _ (HX.out.body.later A9) ((HS.out.later hb).later A9) ((HU.out.later hb).later A9)).mono ?_
          cases h2:zah k l[j].body with
          | true=>
            rintro e w4 ⟨rfl,c4⟩;have Ah:=thenB A9 c4;clear c4;go_wp2_with fail;go_ret;exact ⟨ret_bool (HF.out (by simp [HG.out,h2])).symm,thenB hb Ah⟩
          | false=>
            rintro e w4 ⟨rfl,c4⟩;have B0:=K0.out.later c4;have B1:=K1.out.later c4;have Ah:=thenB A9 c4;clear c4 K0 K1;clear q0 q1 qz x0 x1 x2 x3 x4 x5 xz;obtain ⟨q0,q1,qz⟩:=B0.c2;obtain ⟨x0,x1,x2,x3,x4,x5,xz⟩:=B1.c6;have K0:Hid (Blk w4 w.heap.size [.map (some be),.map (some bs)]):=B0;have K1:Hid (Blk w4 wr.heap.size [qi l[j].op,.string l[j].mod,.string l[j].name,.slice a1 l[j].args.length p1,.slice a2 l[j].body.length p2,.slice a3 l[j].other.length p3]):=B1;clear B0 B1
            have HQ:Hid ((((stS l[j].op).body||decide (0<l[j].body.length))&&zah k l[j].body)=false):=by show _=_;simp [h2]
            by_cases h5:0<l[j].other.length
            . go_wp2_with fail
              refine (HI.out l[j].other a3 p3 _ (HX.out.other.later Ah) ((HS.out.later hb).later Ah) ((HU.out.later hb).later Ah)).mono ?_
              cases h6:zah k l[j].other with
              | true=>
                rintro e w9 ⟨rfl,c9⟩;have BE:=thenB Ah c9;clear c9;go_wp2_with fail;go_ret;exact ⟨ret_bool (HF.out (by simp [h5,h6])).symm,thenB hb BE⟩
              | false=>
                rintro e w9 ⟨rfl,c9⟩;have K0':=K0.out.later c9;have BE:=thenB Ah c9;clear c9;have B8:Hid ((l.take (j+1)).any (fun s=>zam 6 s.args||(((stS s.op).body||decide (0<s.body.length))&&zah k s.body||(decide (0<s.other.length)&&zah k s.other)))=false):=HT.out (by simp [h1,h6,HQ.out]);go_wp2_with fail;go_roundw
                case rel=>exact ⟨j+1,by omega,by go_num,B8.out,thenB hb BE,K0'⟩
                case measure=>simp [intOf];omega
            . have B8:Hid ((l.take (j+1)).any (fun s=>zam 6 s.args||(((stS s.op).body||decide (0<s.body.length))&&zah k s.body||(decide (0<s.other.length)&&zah k s.other)))=false):=HT.out (by simp [h1,h5,HQ.out])
              have K0':=K0.out;go_wp2_with fail;go_roundw
              case rel=>exact ⟨j+1,by omega,by go_num,B8.out,thenB hb Ah,K0'⟩
              case measure=>simp [intOf];omega
        | false =>
          rw [Ch] at Bm
          by_cases h4:0<l[j].body.length
          . have HG:Hid (((stS l[j].op).body||decide (0<l[j].body.length))=true):=by show _=_;simp [h4]
            clear Ch;go_wp2_with fail;refine (HI.out l[j].body a2 p2 _ (HX.out.body.later A9) ((HS.out.later hb).later A9) ((HU.out.later hb).later A9)).mono ?_
            cases h2:zah k l[j].body with
            | true=>
              rintro e w4 ⟨rfl,c4⟩;have Ah:=thenB A9 c4;clear c4;go_wp2_with fail;go_ret;exact ⟨ret_bool (HF.out (by simp [HG.out,h2])).symm,thenB hb Ah⟩
            | false=>
              rintro e w4 ⟨rfl,c4⟩;have B0:=K0.out.later c4;have B1:=K1.out.later c4;have Ah:=thenB A9 c4;clear c4 K0 K1;clear q0 q1 qz x0 x1 x2 x3 x4 x5 xz;obtain ⟨q0,q1,qz⟩:=B0.c2;obtain ⟨x0,x1,x2,x3,x4,x5,xz⟩:=B1.c6;have K0:Hid (Blk w4 w.heap.size [.map (some be),.map (some bs)]):=B0;have K1:Hid (Blk w4 wr.heap.size [qi l[j].op,.string l[j].mod,.string l[j].name,.slice a1 l[j].args.length p1,.slice a2 l[j].body.length p2,.slice a3 l[j].other.length p3]):=B1;clear B0 B1
              have HQ:Hid ((((stS l[j].op).body||decide (0<l[j].body.length))&&zah k l[j].body)=false):=by show _=_;simp [h2]
              by_cases h5:0<l[j].other.length
              . go_wp2_with fail
                refine (HI.out l[j].other a3 p3 _ (HX.out.other.later Ah) ((HS.out.later hb).later Ah) ((HU.out.later hb).later Ah)).mono ?_
                cases h6:zah k l[j].other with
                | true=>
                  rintro e w9 ⟨rfl,c9⟩;have BE:=thenB Ah c9;clear c9;go_wp2_with fail;go_ret;exact ⟨ret_bool (HF.out (by simp [h5,h6])).symm,thenB hb BE⟩
                | false=>
                  rintro e w9 ⟨rfl,c9⟩;have K0':=K0.out.later c9;have BE:=thenB Ah c9;clear c9;have B8:Hid ((l.take (j+1)).any (fun s=>zam 6 s.args||(((stS s.op).body||decide (0<s.body.length))&&zah k s.body||(decide (0<s.other.length)&&zah k s.other)))=false):=HT.out (by simp [h1,h6,HQ.out]);go_wp2_with fail;go_roundw
                  case rel=>exact ⟨j+1,by omega,by go_num,B8.out,thenB hb BE,K0'⟩
                  case measure=>simp [intOf];omega
              . have B8:Hid ((l.take (j+1)).any (fun s=>zam 6 s.args||(((stS s.op).body||decide (0<s.body.length))&&zah k s.body||(decide (0<s.other.length)&&zah k s.other)))=false):=HT.out (by simp [h1,h5,HQ.out])
                have K0':=K0.out;go_wp2_with fail;go_roundw
                case rel=>exact ⟨j+1,by omega,by go_num,B8.out,thenB hb Ah,K0'⟩
                case measure=>simp [intOf];omega
          . have HQ:Hid ((((stS l[j].op).body||decide (0<l[j].body.length))&&zah k l[j].body)=false):=by show _=_;simp [Ch,h4]
            clear Ch
            by_cases h5:0<l[j].other.length
            . go_wp2_with fail
              refine (HI.out l[j].other a3 p3 _ (HX.out.other.later A9) ((HS.out.later hb).later A9) ((HU.out.later hb).later A9)).mono ?_
              cases h6:zah k l[j].other with
              | true=>
                rintro e w9 ⟨rfl,c9⟩;have BE:=thenB A9 c9;clear c9;go_wp2_with fail;go_ret;exact ⟨ret_bool (HF.out (by simp [h5,h6])).symm,thenB hb BE⟩
              | false=>
                rintro e w9 ⟨rfl,c9⟩;have K0':=K0.out.later c9;have BE:=thenB A9 c9;clear c9;have B8:Hid ((l.take (j+1)).any (fun s=>zam 6 s.args||(((stS s.op).body||decide (0<s.body.length))&&zah k s.body||(decide (0<s.other.length)&&zah k s.other)))=false):=HT.out (by simp [h1,h6,HQ.out]);go_wp2_with fail;go_roundw
                case rel=>exact ⟨j+1,by omega,by go_num,B8.out,thenB hb BE,K0'⟩
                case measure=>simp [intOf];omega
            . have B8:Hid ((l.take (j+1)).any (fun s=>zam 6 s.args||(((stS s.op).body||decide (0<s.body.length))&&zah k s.body||(decide (0<s.other.length)&&zah k s.other)))=false):=HT.out (by simp [h1,h5,HQ.out])
              have K0':=K0.out;go_wp2_with fail;go_roundw
              case rel=>exact ⟨j+1,by omega,by go_num,B8.out,thenB hb A9,K0'⟩
              case measure=>simp [intOf];omega
    . have HT:Hid (l.any (fun s=>zam 6 s.args||(((stS s.op).body||decide (0<s.body.length))&&zah k s.body||(decide (0<s.other.length)&&zah k s.other)))=false):=znz HA.out A0
      go_wp2_with fail;go_ret;exact ⟨ret_bool (by rw [HN.out,HT.out]),hb⟩
theorem zya {k:Nat} {l:List St} (h:l.length=0\/zah (k+1) l=false) (j:Nat) (hj:j<l.length):zam 6 l[j].args=false/\(l[j].body.length=0\/zah k l[j].body=false)/\(l[j].other.length=0\/zah k l[j].other=false):=by
 rcases h with h | h
 . omega
 . simp only [zah,vas,vbz] at h
   have:=h.2 l[j] (vag hj);simp only [vcs,vas,vcx,decide_eq_false_iff_not] at this;refine ⟨this.1,?_,?_⟩
   . rcases this.2.1 with h1 | h1
     . left;omega
     . exact Or.inr h1
   . rcases this.2.2 with h1 | h1
     . left;omega
     . exact Or.inr h1
theorem zu4 (be bs:Nat) (A:Nat->Prop):∀ (k:Nat) (l:List St) (a:OA) (cap:Nat) (w:World),DAt w A a l.length (zby l)->zcq w be 15 zh4->zcq w bs 7 zla->(l.length=0\/zah k l=false)->
 qc 189 #[.agg #[.map (some be),.map (some bs)],.slice a l.length cap] w fun e w'=>e = .returned (.bool (zar k l))/\qb w w':=by
 intro k
 induction k with
 | zero=>
   intro l a cap w hD hS hT hM
   have h0 : l.length = 0 := by rcases hM with h | h
                                . exact h
                                . simp [zah] at h
   have HR:Hid (zar 0 l=true):=by show _=_;simp [zar]
   rw [h0];go_enter Tryz.func189,Tryz.ntmps189;go_wp2_with fail
   go_loopw [10] (fun i wr=>i=qi 0/\qb w wr) (fun _ _=>0)
   case atStart=>exact ⟨rfl,al1 _ _⟩
   case round=>
    obtain ⟨rfl,hb⟩:=hrel;go_wp2_with fail;go_ret;exact ⟨ret_bool HR.out.symm,hb⟩
 | succ k ih=>
   intro l a cap w hD hS hT hM
   have HR:Hid (zar (k+1) l=l.all (fun s=>zco (stS s.op) s.mod s.name&&(za9 (stS s.op) s.args.length&&(zbh 6 s.args&&(((stS s.op).body||decide (s.body.length=0))&&(((stS s.op).other||decide (s.other.length=0))&&(zar k s.body&&zar k s.other))))))):=by show _=_;simp [zar]
   have Bt:=hD.bound
   have HI:Hid (∀ (l:List St) (a:OA) (cap:Nat) (w:World),DAt w A a l.length (zby l)->zcq w be 15 zh4->zcq w bs 7 zla->(l.length=0\/zah k l=false)->
    qc 189 #[.agg #[.map (some be),.map (some bs)],.slice a l.length cap] w fun e w'=>e = .returned (.bool (zar k l))/\qb w w'):=ih
   have HD:Hid (DAt w A a l.length (zby l)):=hD;have HS:Hid (zcq w be 15 zh4):=hS;have HU:Hid (zcq w bs 7 zla):=hT;have HM:Hid (∀ (j:Nat) (hj:j<l.length),zam 6 l[j].args=false/\(l[j].body.length=0\/zah k l[j].body=false)/\(l[j].other.length=0\/zah k l[j].other=false)):=zya hM;clear hD hS hT hM ih;have HB:Hid (Blk (w.alloc (.cells #[.map (some be),.map (some bs)] 235)) w.heap.size [.map (some be),.map (some bs)]):=Blk.new w _ _;go_enter Tryz.func189,Tryz.ntmps189;go_wp2_with fail
   go_loopw [10] (fun i wr=>∃ j:Nat,j<=l.length/\i=qi j/\(l.take j).all (fun s=>zco (stS s.op) s.mod s.name&&(za9 (stS s.op) s.args.length&&(zbh 6 s.args&&(((stS s.op).body||decide (s.body.length=0))&&(((stS s.op).other||decide (s.other.length=0))&&(zar k s.body&&zar k s.other))))))=true/\qb w wr/\Blk wr w.heap.size [.map (some be),.map (some bs)]) (fun i _=>l.length - (intOf i).toNat)
   case atStart=>exact ⟨0,vae _,rfl,rfl,al1 _ _,HB.out⟩
   case round =>
    clear HB;obtain ⟨j,hj,rfl,A6,hb,hB⟩:=hrel;have q0:=hB.cell 0 _ rfl;have q1:=hB.cell 1 _ rfl;have qz:=hB.lt;have HB:Hid (Blk wr w.heap.size [.map (some be),.map (some bs)]):=hB;have HA:Hid ((l.take j).all (fun s=>zco (stS s.op) s.mod s.name&&(za9 (stS s.op) s.args.length&&(zbh 6 s.args&&(((stS s.op).body||decide (s.body.length=0))&&(((stS s.op).other||decide (s.other.length=0))&&(zar k s.body&&zar k s.other))))))=true):=A6;clear A6 hB
    by_cases A0:j<l.length
    . obtain ⟨b, off, a1,p1,a2,p2,a3,p3,rfl,hx⟩:=(HD.out.later hb).st j A0
      have CB:=hx.c0;have Bg:=hx.c1;have C1:=hx.c2;have Ej:=hx.c3;have FA:=hx.c4;have Ox:=hx.c5;have B9:=hx.lt;have Dw:=hx.args.bound;have Dv:=hx.body.bound;have F1:=hx.other.bound;have HX:Hid (StAt wr A b (off+j*6) l[j] a1 p1 a2 p2 a3 p3):=hx
      have HF:Hid ((zco (stS l[j].op) l[j].mod l[j].name&&(za9 (stS l[j].op) l[j].args.length&&(zbh 6 l[j].args&&(((stS l[j].op).body||decide (l[j].body.length=0))&&(((stS l[j].op).other||decide (l[j].other.length=0))&&(zar k l[j].body&&zar k l[j].other))))))=false->zar (k+1) l=false):=fun h=>by rw [HR.out];exact all_not l _ j A0 h
      have HT:Hid ((zco (stS l[j].op) l[j].mod l[j].name&&(za9 (stS l[j].op) l[j].args.length&&(zbh 6 l[j].args&&(((stS l[j].op).body||decide (l[j].body.length=0))&&(((stS l[j].op).other||decide (l[j].other.length=0))&&(zar k l[j].body&&zar k l[j].other))))))=true->(l.take (j+1)).all (fun s=>zco (stS s.op) s.mod s.name&&(za9 (stS s.op) s.args.length&&(zbh 6 s.args&&(((stS s.op).body||decide (s.body.length=0))&&(((stS s.op).other||decide (s.other.length=0))&&(zar k s.body&&zar k s.other))))))=true):=fun h=>by rw [all_snoc l _ j A0,HA.out,h];rfl
      have Bm:(Instr.lookup 232 (.map (some bs)) (qi l[j].op) false).run Tryz.prog (wr.alloc (kzB l[j].op l[j].mod l[j].name a1 l[j].args.length p1 a2 l[j].body.length p2 a3 l[j].other.length p3)) = .ok (stS l[j].op).val (wr.alloc (kzB l[j].op l[j].mod l[j].name a1 l[j].args.length p1 a2 l[j].body.length p2 a3 l[j].other.length p3)):=((HU.out.later hb).later (al1 _ (kzB l[j].op l[j].mod l[j].name a1 l[j].args.length p1 a2 l[j].body.length p2 a3 l[j].other.length p3))).look hx.wop;clear hx;generalize hs:stS l[j].op=s at Bm HF HT;clear hs;simp only [Sh.val] at Bm;go_wp2_with fail;refine (zim s l[j].mod l[j].name _ HX.out.wm HX.out.wna).mono ?_
      cases h1:zco s l[j].mod l[j].name with
      | false=>
        rintro e w3 ⟨rfl,c3⟩;go_wp2_with fail;go_ret;exact ⟨ret_bool (HF.out (by simp [h1])).symm,z63 hb c3⟩
      | true=>
        rintro e w3 ⟨rfl,c3⟩;have B0:=(HB.out.later (al2 _ _ _)).later c3;have B1:=(Blk.new1 wr #[qi l[j].op,.string l[j].mod,.string l[j].name,.slice a1 l[j].args.length p1,.slice a2 l[j].body.length p2,.slice a3 l[j].other.length p3] 176 _).later c3;have B2:=(Blk.new2 wr #[.bool s.named,.bool s.number,qi s.least,qi s.most,.bool s.body,.bool s.other] 270 _).later c3;have A9:qb wr w3:=thenB (al2 _ _ _) c3;clear c3 q0 q1 qz;obtain ⟨q0,q1,qz⟩:=B0.c2;obtain ⟨x0,x1,x2,x3,x4,x5,xz⟩:=B1.c6;obtain ⟨y0,y1,y2,y3,y4,y5,yz⟩:=B2.c6;have K0:Hid (Blk w3 w.heap.size [.map (some be),.map (some bs)]):=B0;have K1:Hid (Blk w3 wr.heap.size [qi l[j].op,.string l[j].mod,.string l[j].name,.slice a1 l[j].args.length p1,.slice a2 l[j].body.length p2,.slice a3 l[j].other.length p3]):=B1;have K2:Hid (Blk w3 (wr.heap.size+1) [.bool s.named,.bool s.number,qi s.least,qi s.most,.bool s.body,.bool s.other]):=B2
        clear B0 B1 B2;go_wp2_with fail;refine (zgl s a1 l[j].args.length p1 _).mono ?_
        cases h2:za9 s l[j].args.length with
        | false=>
          rintro e w4 ⟨rfl,c4⟩;have Ah:=thenB A9 c4;clear c4;go_wp2_with fail;go_ret;exact ⟨ret_bool (HF.out (by simp [h2])).symm,thenB hb Ah⟩
        | true=>
          rintro e w4 ⟨rfl,c4⟩;have B0:=K0.out.later c4;have B1:=K1.out.later c4;have B2:=K2.out.later c4;have Ah:=thenB A9 c4;clear c4 K0 K1 K2;clear q0 q1 qz x0 x1 x2 x3 x4 x5 xz y0 y1 y2 y3 y4 y5 yz;obtain ⟨q0,q1,qz⟩:=B0.c2;obtain ⟨x0,x1,x2,x3,x4,x5,xz⟩:=B1.c6;obtain ⟨y0,y1,y2,y3,y4,y5,yz⟩:=B2.c6;have K0:Hid (Blk w4 w.heap.size [.map (some be),.map (some bs)]):=B0;have K1:Hid (Blk w4 wr.heap.size [qi l[j].op,.string l[j].mod,.string l[j].name,.slice a1 l[j].args.length p1,.slice a2 l[j].body.length p2,.slice a3 l[j].other.length p3]):=B1;have K2:Hid (Blk w4 (wr.heap.size+1) [.bool s.named,.bool s.number,qi s.least,qi s.most,.bool s.body,.bool s.other]):=B2;clear B0 B1 B2;go_wp2_with fail;refine (zu3 be bs A 6 l[j].args a1 p1 _ (HX.out.args.later Ah) ((HS.out.later hb).later Ah) (HM.out j A0).1).mono ?_
          cases h3:zbh 6 l[j].args with
          | false=>
            rintro e w5 ⟨rfl,c5⟩;have Aq:=thenB Ah c5;clear c5;go_wp2_with fail;go_ret;exact ⟨ret_bool (HF.out (by simp [h3])).symm,thenB hb Aq⟩
          | true=>
            rintro e w5 ⟨rfl,c5⟩;have B0:=K0.out.later c5;have B1:=K1.out.later c5;have B2:=K2.out.later c5;have Aq:=thenB Ah c5;clear c5 K0 K1 K2;clear q0 q1 qz x0 x1 x2 x3 x4 x5 xz y0 y1 y2 y3 y4 y5 yz;obtain ⟨q0,q1,qz⟩:=B0.c2;obtain ⟨x0,x1,x2,x3,x4,x5,xz⟩:=B1.c6;obtain ⟨y0,y1,y2,y3,y4,y5,yz⟩:=B2.c6;have K0:Hid (Blk w5 w.heap.size [.map (some be),.map (some bs)]):=B0;have K1:Hid (Blk w5 wr.heap.size [qi l[j].op,.string l[j].mod,.string l[j].name,.slice a1 l[j].args.length p1,.slice a2 l[j].body.length p2,.slice a3 l[j].other.length p3]):=B1;have K2:Hid (Blk w5 (wr.heap.size+1) [.bool s.named,.bool s.number,qi s.least,qi s.most,.bool s.body,.bool s.other]):=B2;clear B0 B1 B2
            cases Ch:s.body with
            | false =>
              rw [Ch] at y4
              by_cases h4:0<l[j].body.length
              . go_wp2_with fail
                go_ret;exact ⟨ret_bool (HF.out (by simp [Ch,show ¬ l[j].body.length=0 from by omega])).symm,thenB hb Aq⟩
              . have HG : Hid ((s.body||decide (l[j].body.length=0))=true):=by show _=_;simp [show l[j].body.length=0 from by omega]
                cases Fj:s.other with
                | false =>
                  rw [Fj] at y5
                  by_cases h5:0<l[j].other.length
                  . go_wp2_with fail
                    go_ret;exact ⟨ret_bool (HF.out (by simp [Fj,show ¬ l[j].other.length=0 from by omega])).symm,thenB hb Aq⟩
                  . have HO:Hid ((s.other||decide (l[j].other.length=0))=true):=by show _=_;simp [show l[j].other.length=0 from by omega]
                    go_wp2_with fail;refine (HI.out l[j].body a2 p2 _ (HX.out.body.later Aq) ((HS.out.later hb).later Aq) ((HU.out.later hb).later Aq) (HM.out j A0).2.1).mono ?_
                    cases h7:zar k l[j].body with
                    | false=>
                      rintro e w6 ⟨rfl,c6⟩;have AH:=thenB Aq c6;clear c6;go_wp2_with fail;go_ret;exact ⟨ret_bool (HF.out (by simp [h7])).symm,thenB hb AH⟩
                    | true=>
                      rintro e w6 ⟨rfl,c6⟩;have B0:=K0.out.later c6;have B1:=K1.out.later c6;have B2:=K2.out.later c6;have AH:=thenB Aq c6;clear c6 K0 K1 K2;clear q0 q1 qz x0 x1 x2 x3 x4 x5 xz y0 y1 y2 y3 y4 y5 yz;obtain ⟨q0,q1,qz⟩:=B0.c2;obtain ⟨x0,x1,x2,x3,x4,x5,xz⟩:=B1.c6;obtain ⟨y0,y1,y2,y3,y4,y5,yz⟩:=B2.c6;have K0:Hid (Blk w6 w.heap.size [.map (some be),.map (some bs)]):=B0;have K1:Hid (Blk w6 wr.heap.size [qi l[j].op,.string l[j].mod,.string l[j].name,.slice a1 l[j].args.length p1,.slice a2 l[j].body.length p2,.slice a3 l[j].other.length p3]):=B1;have K2:Hid (Blk w6 (wr.heap.size+1) [.bool s.named,.bool s.number,qi s.least,qi s.most,.bool s.body,.bool s.other]):=B2;clear B0 B1 B2;go_wp2_with fail;refine (HI.out l[j].other a3 p3 _ (HX.out.other.later AH) ((HS.out.later hb).later AH) ((HU.out.later hb).later AH) (HM.out j A0).2.2).mono ?_
                      cases h8:zar k l[j].other with
                      | false=>
                        rintro e w7 ⟨rfl,c7⟩;have AO:=thenB AH c7;clear c7;go_wp2_with fail;go_ret;exact ⟨ret_bool (HF.out (by simp [h8])).symm,thenB hb AO⟩
                      | true=>
                        rintro e w7 ⟨rfl,c7⟩;have K0':=K0.out.later c7;have AO:=thenB AH c7;clear c7;have B8:Hid ((l.take (j+1)).all (fun s=>zco (stS s.op) s.mod s.name&&(za9 (stS s.op) s.args.length&&(zbh 6 s.args&&(((stS s.op).body||decide (s.body.length=0))&&(((stS s.op).other||decide (s.other.length=0))&&(zar k s.body&&zar k s.other))))))=true):=HT.out (by rw [h1,h2,h3,HG.out,HO.out,h7,h8];rfl);go_wp2_with fail;go_roundw
                        case rel=>exact ⟨j+1,by omega,by go_num,B8.out,thenB hb AO,K0'⟩
                        case measure=>simp [intOf];omega
                | true=>
                  rw [Fj] at y5
                  have HO:Hid ((s.other||decide (l[j].other.length=0))=true):=by show _=_;simp [Fj]
                  go_wp2_with fail;refine (HI.out l[j].body a2 p2 _ (HX.out.body.later Aq) ((HS.out.later hb).later Aq) ((HU.out.later hb).later Aq) (HM.out j A0).2.1).mono ?_
                  cases h7:zar k l[j].body with
                  | false=>
                    rintro e w6 ⟨rfl,c6⟩;have AH:=thenB Aq c6;clear c6;go_wp2_with fail;go_ret;exact ⟨ret_bool (HF.out (by simp [h7])).symm,thenB hb AH⟩
                  | true=>
                    rintro e w6 ⟨rfl,c6⟩;have B0:=K0.out.later c6;have B1:=K1.out.later c6;have B2:=K2.out.later c6;have AH:=thenB Aq c6;clear c6 K0 K1 K2;clear q0 q1 qz x0 x1 x2 x3 x4 x5 xz y0 y1 y2 y3 y4 y5 yz;obtain ⟨q0,q1,qz⟩:=B0.c2;obtain ⟨x0,x1,x2,x3,x4,x5,xz⟩:=B1.c6;obtain ⟨y0,y1,y2,y3,y4,y5,yz⟩:=B2.c6;have K0:Hid (Blk w6 w.heap.size [.map (some be),.map (some bs)]):=B0;have K1:Hid (Blk w6 wr.heap.size [qi l[j].op,.string l[j].mod,.string l[j].name,.slice a1 l[j].args.length p1,.slice a2 l[j].body.length p2,.slice a3 l[j].other.length p3]):=B1;have K2:Hid (Blk w6 (wr.heap.size+1) [.bool s.named,.bool s.number,qi s.least,qi s.most,.bool s.body,.bool s.other]):=B2;clear B0 B1 B2;go_wp2_with fail;refine (HI.out l[j].other a3 p3 _ (HX.out.other.later AH) ((HS.out.later hb).later AH) ((HU.out.later hb).later AH) (HM.out j A0).2.2).mono ?_
                    cases h8:zar k l[j].other with
                    | false=>
                      rintro e w7 ⟨rfl,c7⟩;have AO:=thenB AH c7;clear c7;go_wp2_with fail;go_ret;exact ⟨ret_bool (HF.out (by simp [h8])).symm,thenB hb AO⟩
                    | true=>
                      rintro e w7 ⟨rfl,c7⟩;have K0':=K0.out.later c7;have AO:=thenB AH c7;clear c7;have B8:Hid ((l.take (j+1)).all (fun s=>zco (stS s.op) s.mod s.name&&(za9 (stS s.op) s.args.length&&(zbh 6 s.args&&(((stS s.op).body||decide (s.body.length=0))&&(((stS s.op).other||decide (s.other.length=0))&&(zar k s.body&&zar k s.other))))))=true):=HT.out (by rw [h1,h2,h3,HG.out,HO.out,h7,h8];rfl);go_wp2_with fail;go_roundw
                      case rel=>exact ⟨j+1,by omega,by go_num,B8.out,thenB hb AO,K0'⟩
                      case measure=>simp [intOf];omega
            | true=>
              rw [Ch] at y4
              have HG:Hid ((s.body||decide (l[j].body.length=0))=true):=by show _=_;simp [Ch]
              cases Fj:s.other with
              | false =>
                rw [Fj] at y5
                by_cases h5:0<l[j].other.length
                . go_wp2_with fail
                  go_ret;exact ⟨ret_bool (HF.out (by simp [Fj,show ¬ l[j].other.length=0 from by omega])).symm,thenB hb Aq⟩
                . have HO:Hid ((s.other||decide (l[j].other.length=0))=true):=by show _=_;simp [show l[j].other.length=0 from by omega]
                  go_wp2_with fail;refine (HI.out l[j].body a2 p2 _ (HX.out.body.later Aq) ((HS.out.later hb).later Aq) ((HU.out.later hb).later Aq) (HM.out j A0).2.1).mono ?_
                  cases h7:zar k l[j].body with
                  | false=>
                    rintro e w6 ⟨rfl,c6⟩;have AH:=thenB Aq c6;clear c6;go_wp2_with fail;go_ret;exact ⟨ret_bool (HF.out (by simp [h7])).symm,thenB hb AH⟩
                  | true=>
                    rintro e w6 ⟨rfl,c6⟩;have B0:=K0.out.later c6;have B1:=K1.out.later c6;have B2:=K2.out.later c6;have AH:=thenB Aq c6;clear c6 K0 K1 K2;clear q0 q1 qz x0 x1 x2 x3 x4 x5 xz y0 y1 y2 y3 y4 y5 yz;obtain ⟨q0,q1,qz⟩:=B0.c2;obtain ⟨x0,x1,x2,x3,x4,x5,xz⟩:=B1.c6;obtain ⟨y0,y1,y2,y3,y4,y5,yz⟩:=B2.c6;have K0:Hid (Blk w6 w.heap.size [.map (some be),.map (some bs)]):=B0;have K1:Hid (Blk w6 wr.heap.size [qi l[j].op,.string l[j].mod,.string l[j].name,.slice a1 l[j].args.length p1,.slice a2 l[j].body.length p2,.slice a3 l[j].other.length p3]):=B1;have K2:Hid (Blk w6 (wr.heap.size+1) [.bool s.named,.bool s.number,qi s.least,qi s.most,.bool s.body,.bool s.other]):=B2;clear B0 B1 B2;go_wp2_with fail;refine (HI.out l[j].other a3 p3 _ (HX.out.other.later AH) ((HS.out.later hb).later AH) ((HU.out.later hb).later AH) (HM.out j A0).2.2).mono ?_
                    cases h8:zar k l[j].other with
                    | false=>
                      rintro e w7 ⟨rfl,c7⟩;have AO:=thenB AH c7;clear c7;go_wp2_with fail;go_ret;exact ⟨ret_bool (HF.out (by simp [h8])).symm,thenB hb AO⟩
                    | true=>
                      rintro e w7 ⟨rfl,c7⟩;have K0':=K0.out.later c7;have AO:=thenB AH c7;clear c7;have B8:Hid ((l.take (j+1)).all (fun s=>zco (stS s.op) s.mod s.name&&(za9 (stS s.op) s.args.length&&(zbh 6 s.args&&(((stS s.op).body||decide (s.body.length=0))&&(((stS s.op).other||decide (s.other.length=0))&&(zar k s.body&&zar k s.other))))))=true):=HT.out (by rw [h1,h2,h3,HG.out,HO.out,h7,h8];rfl);go_wp2_with fail;go_roundw
                      case rel=>exact ⟨j+1,by omega,by go_num,B8.out,thenB hb AO,K0'⟩
                      case measure=>simp [intOf];omega
              | true=>
                rw [Fj] at y5
                have HO:Hid ((s.other||decide (l[j].other.length=0))=true):=by show _=_;simp [Fj]
                go_wp2_with fail;refine (HI.out l[j].body a2 p2 _ (HX.out.body.later Aq) ((HS.out.later hb).later Aq) ((HU.out.later hb).later Aq) (HM.out j A0).2.1).mono ?_
                cases h7:zar k l[j].body with
                | false=>
                  rintro e w6 ⟨rfl,c6⟩;have AH:=thenB Aq c6;clear c6;go_wp2_with fail;go_ret;exact ⟨ret_bool (HF.out (by simp [h7])).symm,thenB hb AH⟩
                | true=>
                  rintro e w6 ⟨rfl,c6⟩;have B0:=K0.out.later c6;have B1:=K1.out.later c6;have B2:=K2.out.later c6;have AH:=thenB Aq c6;clear c6 K0 K1 K2;clear q0 q1 qz x0 x1 x2 x3 x4 x5 xz y0 y1 y2 y3 y4 y5 yz;obtain ⟨q0,q1,qz⟩:=B0.c2;obtain ⟨x0,x1,x2,x3,x4,x5,xz⟩:=B1.c6;obtain ⟨y0,y1,y2,y3,y4,y5,yz⟩:=B2.c6;have K0:Hid (Blk w6 w.heap.size [.map (some be),.map (some bs)]):=B0;have K1:Hid (Blk w6 wr.heap.size [qi l[j].op,.string l[j].mod,.string l[j].name,.slice a1 l[j].args.length p1,.slice a2 l[j].body.length p2,.slice a3 l[j].other.length p3]):=B1;have K2:Hid (Blk w6 (wr.heap.size+1) [.bool s.named,.bool s.number,qi s.least,qi s.most,.bool s.body,.bool s.other]):=B2;clear B0 B1 B2;go_wp2_with fail;refine (HI.out l[j].other a3 p3 _ (HX.out.other.later AH) ((HS.out.later hb).later AH) ((HU.out.later hb).later AH) (HM.out j A0).2.2).mono ?_
                  cases h8:zar k l[j].other with
                  | false=>
                    rintro e w7 ⟨rfl,c7⟩;have AO:=thenB AH c7;clear c7;go_wp2_with fail;go_ret;exact ⟨ret_bool (HF.out (by simp [h8])).symm,thenB hb AO⟩
                  | true=>
                    rintro e w7 ⟨rfl,c7⟩;have K0':=K0.out.later c7;have AO:=thenB AH c7;clear c7;have B8:Hid ((l.take (j+1)).all (fun s=>zco (stS s.op) s.mod s.name&&(za9 (stS s.op) s.args.length&&(zbh 6 s.args&&(((stS s.op).body||decide (s.body.length=0))&&(((stS s.op).other||decide (s.other.length=0))&&(zar k s.body&&zar k s.other))))))=true):=HT.out (by rw [h1,h2,h3,HG.out,HO.out,h7,h8];rfl);go_wp2_with fail;go_roundw
                    case rel=>exact ⟨j+1,by omega,by go_num,B8.out,thenB hb AO,K0'⟩
                    case measure=>simp [intOf];omega
    . have HT:Hid (l.all (fun s=>zco (stS s.op) s.mod s.name&&(za9 (stS s.op) s.args.length&&(zbh 6 s.args&&(((stS s.op).body||decide (s.body.length=0))&&(((stS s.op).other||decide (s.other.length=0))&&(zar k s.body&&zar k s.other))))))=true):=zci HA.out A0
      go_wp2_with fail;go_ret;exact ⟨ret_bool (by rw [HR.out,HT.out]),hb⟩
set_option maxHeartbeats 800000
abbrev Tt:Nat->Prop:=fun _=>True
theorem Tryz.infoBody:(Tryz.prog.info? 25).map (fun i=>(i.zero,i.size,i.bytes))=some (some (qs),1,24):=by kernel_rfl
def zu5 (w:World) (xs:List Value) (bs:List (List St)):Prop:=xs.length=bs.length/\∀ i (h:i<bs.length),∃ a c,xs[i]? = some (.slice a bs[i].length c)/\DAt w Tt a bs[i].length (zby bs[i])
theorem zu5.later {w w':World} {xs:List Value} {bs:List (List St)} (h:zu5 w xs bs) (hb:qb w w'):zu5 w' xs bs:=
 ⟨h.1,fun i hi=>by obtain ⟨a,c,h1,h2⟩:=h.2 i hi;exact ⟨a,c,h1,h2.later hb⟩⟩
theorem zu5.nil (w:World):zu5 w [] []:=⟨rfl,fun i h=>by simp at h⟩
theorem zu5.snoc {w:World} {xs:List Value} {bs:List (List St)} (h:zu5 w xs bs) {l:List St} {a:OA} {c:Nat} (hd:DAt w Tt a l.length (zby l)):zu5 w (xs++[.slice a l.length c]) (bs++[l]):=by
 refine ⟨by simp [h.1],fun i hi=>?_⟩
 rcases vbi i bs.length with A0 | Fu
 . obtain ⟨a',c',h1,h2⟩:=h.2 i A0
   refine ⟨a',c',?_,?_⟩
   . rw [vba (by rw [h.1];exact A0),vch A0];exact h1
   . rw [vch A0];exact h2
 . have:i=bs.length:=by simp at hi;omega
   subst this;refine ⟨a,c,?_,?_⟩
   . rw [vbh (by rw [h.1];exact vaa _),h.1];simp
   . simpa using hd
def zpw (w:World) (a:OA) (bs:List (List St)):Prop:=∀ i (h:i<bs.length),∃ b off a' c',a=some (qa b off)/\b<w.heap.size/\w.cell? ⟨b,off+i,none⟩=some (.slice a' bs[i].length c')/\DAt w Tt a' bs[i].length (zby bs[i])
theorem zpw.later {w w':World} {a:OA} {bs:List (List St)} (h:zpw w a bs) (hb:qb w w'):zpw w' a bs:=fun i hi=>by
 obtain ⟨b,off,a',c',h1,h2,h3,h4⟩:=h i hi;exact ⟨b,off,a',c',h1,vah h2 hb.size,(hb.cell (p:=⟨b,off+i,none⟩) h2).trans h3,h4.later hb⟩
theorem zu5.at {w:World} {base g n cap:Nat} {xs:List Value} {bs:List (List St)} (h:zu5 w xs bs) (Ag:w.ownsRow base 25 1 (.slice (some (qa g 0)) n cap) n xs):zpw w (some (qa g 0)) bs:=by
 intro i hi;obtain ⟨a',c',h1,h2⟩:=h.2 i hi;have hc:=Ag.cells (g:=g) rfl i _ h1;have A0:=(Ag.lt g rfl).2
 have e:((qa g 0):Addr).add i=(qa g i):=by unfold Addr.add;split<;>simp_all
 rw [e] at hc;exact ⟨g,0,a',c',rfl,A0,by rw [vax];exact hc,h2⟩
theorem Blk.grown {w w':World} {b:Nat} {cs:List Value} {row:Option Nat} (h:Blk w b cs) (hg:w.grownBy w' row) (Aj:some b≠row):Blk w' b cs:=
 ⟨vah h.lt hg.size,fun j v hj=>(ves (w:=w) (hg.block b h.lt Aj)).trans (h.cell j v hj)⟩
theorem zyb (w:World) (v:Value) (t:TypeId) (n:Nat) (hn:n=w.heap.size):∀ j u,[v][j]? = some u->(w.alloc (.cells #[v] t)).cell? (((qa n 0):Addr).add j)=some u:=by
 subst hn;intro j u hj
 have e:((qa w.heap.size 0):Addr).add j=(qa w.heap.size j):=by unfold Addr.add;split<;>simp_all
 rw [e];exact (Blk.new w #[v] t).cell j u hj
theorem zh6 (m:Mo) (v:Value) (a1:OA) (c1:Nat) (a2:OA) (c2:Nat) (a3:OA) (c3:Nat) (a4:OA) (c4:Nat) (w:World) (hM:MoAt w Tt m v a1 c1 a2 c2 a3 c3 a4 c4) :
 qc 183 #[v] w fun e w'=>∃ a cap,e = .returned (.slice a m.bodies.length cap)/\zpw w' a m.bodies/\qb w w':=by
 obtain ⟨rfl,Oc,hU,hDe,hP,hMa⟩:=hM;obtain ⟨i0,hi,Bs,Ao,AA⟩:=info_parts Tryz.infoBody
 have Bt:m.procs.length<=3518437208883:=by
  have h1:=hP.2.1
  have h2:(znt m.procs).length=m.procs.length*5:=by
   unfold znt;rw [List.length_flatMap]
   have:∀ l:List Pr,(l.map (fun x=>x.ds.length)).sum=l.length*5:=by
    intro l
    induction l with
    | nil=>rfl
    | cons x r ih=>rw [vcm,List.sum_cons,ih,vaw];have:x.ds.length=5:=rfl;omega
   exact this _
  omega
 have HP:Hid (DAt w Tt a3 m.procs.length (znt m.procs)):=hP;have HM:Hid (DAt w Tt a4 m.main.length (zby m.main)):=hMa;clear hU hDe hP hMa;go_enter Tryz.func183,Tryz.ntmps183;go_wp2_with fail;have HB:=Blk.new w #[.string m.name,.slice a1 m.uses.length c1,.slice a2 m.decls.length c2,.slice a3 m.procs.length c3,.slice a4 m.main.length c4] 27
 go_loopw [9,3] (fun i v wr=>∃ (j:Nat) (xs:List Value),j<=m.procs.length/\i=qi j/\wr.ownsRow (w.heap.size+1) 25 1 v j xs/\zu5 w xs ((m.procs.take j).map Pr.body)/\qb w wr/\Blk wr w.heap.size [.string m.name,.slice a1 m.uses.length c1,.slice a2 m.decls.length c2,.slice a3 m.procs.length c3,.slice a4 m.main.length c4]) (fun i _ _=>m.procs.length - (intOf i).toNat)
 case atStart=>exact ⟨0,[],vae _,rfl,ver _ _ _ _,zu5.nil _,al1 _ _,HB⟩
 case round=>
  clear HB;obtain ⟨j,xs,hj,rfl,Ag,hBo,hb,hB⟩:=hrel;have HO:Hid (wr.ownsRow (w.heap.size+1) 25 1 u3 j xs):=Ag;have HQ:Hid (zu5 w xs ((m.procs.take j).map Pr.body)):=hBo;have HB:Hid (Blk wr w.heap.size [.string m.name,.slice a1 m.uses.length c1,.slice a2 m.decls.length c2,.slice a3 m.procs.length c3,.slice a4 m.main.length c4]):=hB;have HL:Hid (∀ k,u3.ownBlock=some k->w.heap.size+1<=k/\k<wr.heap.size):=Ag.lt;obtain ⟨q0,q1,q2,q3,q4,qz⟩:=hB.c5;clear Ag hBo hB
  by_cases A0:j<m.procs.length
  . obtain ⟨b,off,b1,d1,b2,d2,b3,d3,rfl,hx⟩:=(HP.out.later hb).pr j A0
    have CB:=hx.c0;have Bg:=hx.c1;have C1:=hx.c2;have Ej:=hx.c3;have FA:=hx.c4;have B9:=hx.lt
    have HX:Hid (DAt w Tt b3 m.procs[j].body.length (zby m.procs[j].body)):=by
     obtain ⟨b',BG,b1',d1',b2',d2',b3',d3',e,Bz⟩:=HP.out.pr j A0
     injection e with e
     injection e with e1 e2
     subst e1;subst e2;have h4:=(hb.cell (p:=⟨b,off+j*5+4,none⟩) Bz.lt).trans Bz.c4;rw [hx.c4] at h4
     injection h4 with h4
     injection h4 with h4 _ _
     subst h4;exact Bz.body
    have HS:Hid ((m.procs.take (j+1)).map Pr.body=(m.procs.take j).map Pr.body++[m.procs[j].body]):=by
     show _=_
     rw [vaf A0,vbw];rfl
    clear hx
    go_wp2_with (at_builtin;refine wpList_append_lies _ rfl _ _ 271 rfl (w.heap.size+1) 25 i0 _ 1 24 Tryz.underlying271 hi Bs Ao AA rfl (by decide) _ j xs rfl ((HO.out.alloc _).alloc _) _ 1 1 [.slice b3 m.procs[j].body.length d3] rfl rfl (zyb _ _ _ _ (by simp)) (by simp [Value.oneCell']) (by omega) (by unfold maxLen;omega) (by omega) (by simp;omega) _ rfl ?_;intro g cp w2 EB DC GU CL)
    have hg:wr.grownBy w2 u3.ownBlock:=((vex wr _ _).trans (vex _ _ _)).trans DC;have Aa:qb w w2:=hb.grown hg hb.size (fun k hk=>by have:=(HL.out k hk).1;omega);have K2:=HB.out.grown hg (fun e=>by have:=(HL.out _ e.symm).1;omega);clear DC GU hg;go_roundw
    case rel=>exact ⟨j+1,xs++[.slice b3 m.procs[j].body.length d3],by omega,by go_num,EB,by rw [HS.out];exact HQ.out.snoc HX.out,Aa,K2⟩
    case measure=>simp [intOf];omega
  . have Qs:j=m.procs.length:=by omega
    subst Qs
    have HS:Hid (m.bodies=(m.procs.take m.procs.length).map Pr.body++[m.main]):=by show _=_;rw [vat];rfl
    have HN:Hid (m.bodies.length=m.procs.length+1):=by show _=_;simp [Mo.bodies]
    go_wp2_with (at_builtin;refine wpList_append_lies _ rfl _ _ 271 rfl (w.heap.size+1) 25 i0 _ 1 24 Tryz.underlying271 hi Bs Ao AA rfl (by decide) _ m.procs.length xs rfl (HO.out.alloc _) _ 1 1 [.slice a4 m.main.length c4] rfl rfl (zyb _ _ _ _ (by simp)) (by simp [Value.oneCell']) (by omega) (by unfold maxLen;omega) (by omega) (by simp;omega) _ rfl ?_;intro g cp w2 EB DC GU CL)
    have hg:wr.grownBy w2 u3.ownBlock:=(vex wr _ _).trans DC;have Aa:qb w w2:=hb.grown hg hb.size (fun k hk=>by have:=(HL.out k hk).1;omega);clear DC GU hg;go_ret;refine ⟨some (qa g 0),cp,?_,?_,Aa⟩
    . rw [HN.out];rfl
    have:=(HQ.out.snoc (c:=c4) HM.out).later Aa;rw [HS.out];exact this.at EB
theorem zrn (s:ByteArray) (w:World) (hs:s.size<=maxLen) :
 qc 240 #[.string s] w fun e w'=>e = .returned (.bool (!nameOk s))/\qb w w':=by
 go_enter Tryz.func240,Tryz.ntmps240
 go_wp2_with (go_at_call 186;refine (zdf s _ hs).mono ?_;rintro e w' ⟨rfl,hb⟩)
 go_ret;exact ⟨rfl,hb⟩
theorem zlq (l:List ByteArray) (a:OA) (cap:Nat) (w:World) (hD:DAt w Tt a l.length (zaw l)) :
 qc 279 #[.slice a l.length cap,.func (.func 240) #[] #[]] w fun e w'=>∃ n:Int,e = .returned (qi n)/\decide (0<=n) = !l.all nameOk/\qb w w':=by
 have Bt:=hD.bound;have HD:Hid (DAt w Tt a l.length (zaw l)):=hD;clear hD;go_enter Tryz.func279,Tryz.ntmps279;go_wp2_with fail
 go_loopw [8] (fun i wr=>∃ j:Nat,j<=l.length/\i=qi j/\(l.take j).all nameOk=true/\qb w wr) (fun i _=>l.length - (intOf i).toNat)
 case atStart=>exact ⟨0,vae _,rfl,rfl,Below.refl _ _⟩
 case round=>
  obtain ⟨j,hj,rfl,A6,hb⟩:=hrel;have HA:Hid ((l.take j).all nameOk=true):=A6;clear A6
  by_cases A0:j<l.length
  . obtain ⟨b,off,rfl,B9,hc,Co⟩:=(HD.out.later hb).str j A0
    go_wp2_with fail;refine (zrn l[j] _ Co).mono ?_
    cases hn:nameOk l[j] with
    | false=>
      have HF:Hid (l.all nameOk=false):=all_not l _ j A0 hn;rintro e w3 ⟨rfl,A9⟩;go_wp2_with fail;go_ret;exact ⟨j,rfl,by rw [HF.out];simp,thenB hb A9⟩
    | true=>
      have HT:Hid ((l.take (j+1)).all nameOk=true):=by
       show _=_
       rw [all_snoc l _ j A0,HA.out,hn];rfl
      rintro e w3 ⟨rfl,A9⟩;go_wp2_with fail;go_roundw
      case rel=>exact ⟨j+1,by omega,by go_num,HT.out,thenB hb A9⟩
      case measure=>simp [intOf];omega
  . have HT:Hid (l.all nameOk=true):=zci HA.out A0
    go_wp2_with fail;go_ret;exact ⟨-1,rfl,by rw [HT.out];rfl,hb⟩
theorem zfz (l:List ByteArray) (a:OA) (cap:Nat) (w:World) (hD:DAt w Tt a l.length (zaw l)) :
 qc 187 #[.slice a l.length cap] w fun e w'=>e = .returned (.bool (l.all nameOk))/\qb w w':=by
 have HC:Hid (qc 239 #[.slice a l.length cap,.func (.func 240) #[] #[]] w fun e w'=>e = .returned (.bool (!l.all nameOk))/\qb w w'):=by
  have HI:Hid (qc 279 #[.slice a l.length cap,.func (.func 240) #[] #[]] w fun e w'=>∃ n:Int,e = .returned (qi n)/\decide (0<=n) = !l.all nameOk/\qb w w'):=zlq l a cap w hD;clear hD;show Calls _ _ _ _ _;go_enter Tryz.func239,Tryz.ntmps239
  go_wp2_with (go_at_call 279;refine HI.out.mono ?_;rintro e w' ⟨n,rfl,hn,hb⟩)
  go_ret;exact ⟨rfl,hb⟩
 clear hD;go_enter Tryz.func187,Tryz.ntmps187
 go_wp2_with (go_at_call 239;refine HC.out.mono ?_;rintro e w' ⟨rfl,hb⟩)
 go_ret;exact ⟨ret_bool (by simp),hb⟩
set_option maxHeartbeats 3200000
abbrev mC (m:Mo) (a:OA) (b:Nat) (c:OA) (e:Nat) (f:OA) (g:Nat) (h:OA) (i:Nat):Obj:=kzG m.name a m.uses.length b c m.decls.length e f m.procs.length g h m.main.length i
theorem hid {q:Prop} (h:q):Hid q:=h
theorem ze8 {w:World} {a:OA} {l:List Pr} (h:DAt w Tt a l.length (znt l)):l.length<=3518437208883:=by
 have h1:=h.2.1
 have h2:(znt l).length=l.length*5:=by
  unfold znt;rw [List.length_flatMap]
  have:∀ l:List Pr,(l.map (fun x=>x.ds.length)).sum=l.length*5:=by
   intro l
   induction l with
   | nil=>rfl
   | cons x r ih=>rw [vcm,List.sum_cons,ih,vaw];have:x.ds.length=5:=rfl;omega
  exact this _
 omega
theorem zpx
 (be bs:Nat) (m:Mo) (v:Value) (a1:OA) (c1:Nat) (a2:OA) (c2:Nat) (a3:OA) (c3:Nat) (a4:OA) (c4:Nat) (w:World) (hM:MoAt w Tt m v a1 c1 a2 c2 a3 c3 a4 c4) (hS:zcq w be 15 zh4) (hT:zcq w bs 7 zla) :
 qc 152 #[.agg #[.map (some be),.map (some bs)],v] w fun e w'=>e = .returned (.bool m.kinds)/\qb w w':=by
 have HR:Hid (m.kinds=(m.decls.all (fun d:De=>decide (1<=d.kind)&&decide (d.kind<=3))&&m.bodies.all (zaq 6))):=rfl;obtain rfl:=hM.val;have Dw:=hM.uses.bound;have Dv:=hM.decls.bound;have HP:Hid (m.procs.length<=3518437208883):=ze8 hM.procs;have F1:=HP.out;have HM:Hid (MoAt w Tt m (.agg #[.string m.name,.slice a1 m.uses.length c1,.slice a2 m.decls.length c2,.slice a3 m.procs.length c3,.slice a4 m.main.length c4]) a1 c1 a2 c2 a3 c3 a4 c4):=hM;have HS:Hid (zcq w be 15 zh4):=hS;have HU:Hid (zcq w bs 7 zla):=hT;clear hM hS hT;have Aw:Hid (Blk ((w.alloc (.cells #[.map (some be),.map (some bs)] 235)).alloc (mC m a1 c1 a2 c2 a3 c3 a4 c4)) w.heap.size [.map (some be),.map (some bs)]):=Blk.new1 w _ _ _;have A8:Hid (Blk ((w.alloc (.cells #[.map (some be),.map (some bs)] 235)).alloc (mC m a1 c1 a2 c2 a3 c3 a4 c4)) (w.heap.size+1) [.string m.name,.slice a1 m.uses.length c1,.slice a2 m.decls.length c2,.slice a3 m.procs.length c3,.slice a4 m.main.length c4]):=Blk.new2 w _ _ _
 go_enter Tryz.func152,Tryz.ntmps152;go_wp2_with fail
 go_loopw [12] (fun i wr=>∃ j:Nat,j<=m.decls.length/\i=qi j/\(m.decls.take j).all (fun d:De=>decide (1<=d.kind)&&decide (d.kind<=3))=true/\qb w wr/\Blk wr w.heap.size [.map (some be),.map (some bs)]/\Blk wr (w.heap.size+1) [.string m.name,.slice a1 m.uses.length c1,.slice a2 m.decls.length c2,.slice a3 m.procs.length c3,.slice a4 m.main.length c4]) (fun i _=>m.decls.length - (intOf i).toNat)
 case atStart=>exact ⟨0,vae _,rfl,rfl,al2 _ _ _,Aw.out,A8.out⟩
 case round=>
  clear Aw A8;obtain ⟨j,hj,rfl,A6,hb,hB0,hB1⟩:=hrel;have HA:Hid ((m.decls.take j).all (fun d:De=>decide (1<=d.kind)&&decide (d.kind<=3))=true):=A6;obtain ⟨q0,q1,qz⟩:=hB0.c2;obtain ⟨m0,m1,m2,m3,m4,mz⟩:=hB1.c5;have Aw:Hid (Blk wr w.heap.size [.map (some be),.map (some bs)]):=hB0;have A8:=hid hB1;clear A6 hB0 hB1
  by_cases A0:j<m.decls.length
  . obtain ⟨b,off,rfl,hx⟩:=(HM.out.decls.later hb).de j A0
    have CB:=hx.c0;have Bg:=hx.c1;have C1:=hx.c2;have Ej:=hx.c3;have B9:=hx.lt;clear hx
    by_cases hk:1<=m.decls[j].kind/\m.decls[j].kind<=3
    . obtain ⟨CA,F4⟩:=hk
      have HT:Hid ((m.decls.take (j+1)).all (fun d:De=>decide (1<=d.kind)&&decide (d.kind<=3))=true):=by
       show _=_
       rw [all_snoc m.decls _ j A0,HA.out];simp [CA,F4]
      go_wp2_with fail;go_roundw
      case rel=>exact ⟨j+1,by omega,by go_num,HT.out,thenB hb (al1 _ _),Aw.out.later (al1 _ _),A8.out.later (al1 _ _)⟩
      case measure=>simp [intOf];omega
    . have HF:Hid (m.decls.all (fun d:De=>decide (1<=d.kind)&&decide (d.kind<=3))=false):=all_not m.decls _ j A0 (by simp;omega)
      by_cases CA:m.decls[j].kind<1
      . clear hk
        go_wp2_with fail;go_ret;exact ⟨ret_bool (by rw [HR.out,HF.out];rfl),thenB hb (al1 _ _)⟩
      . have F4:3<m.decls[j].kind:=by omega
        clear hk;go_wp2_with fail;go_ret;exact ⟨ret_bool (by rw [HR.out,HF.out];rfl),thenB hb (al1 _ _)⟩
  . have JQ:Hid (m.decls.all (fun d:De=>decide (1<=d.kind)&&decide (d.kind<=3))=true):=zci HA.out A0
    go_wp2_with fail;refine (zh6 m _ a1 c1 a2 c2 a3 c3 a4 c4 _ (HM.out.later hb)).mono ?_;rintro e w5 ⟨ba,bc,rfl,hBA,Aq⟩;have C5:Hid (zpw w5 ba m.bodies):=hBA
    have Oy:m.bodies.length<=4000000000000:=by have:=HP.out;simp [Mo.bodies];omega
    have k0:=Aw.out.later Aq;have k1:=A8.out.later Aq;have AH:=thenB hb Aq;clear Aq hBA Aw A8;clear q0 q1 qz m0 m1 m2 m3 m4 mz;have Aw:Hid (Blk w5 w.heap.size [.map (some be),.map (some bs)]):=k0;have A8:=hid k1;have DI:Hid (qb w w5):=AH;clear k0 k1 AH;go_wp2_with fail
    go_loopw [28] (fun i wr=>∃ j:Nat,j<=m.bodies.length/\i=qi j/\(m.bodies.take j).all (zaq 6)=true/\qb w5 wr/\Blk wr w.heap.size [.map (some be),.map (some bs)]/\Blk wr (w.heap.size+1) [.string m.name,.slice a1 m.uses.length c1,.slice a2 m.decls.length c2,.slice a3 m.procs.length c3,.slice a4 m.main.length c4]) (fun i _=>m.bodies.length - (intOf i).toNat)
    case atStart=>exact ⟨0,vae _,rfl,rfl,Below.refl _ _,Aw.out,A8.out⟩
    case round=>
     clear Aw A8;obtain ⟨j,hj,rfl,A6,AO,hB0,hB1⟩:=hrel;have HA:Hid ((m.bodies.take j).all (zaq 6)=true):=A6;obtain ⟨q0,q1,qz⟩:=hB0.c2;obtain ⟨m0,m1,m2,m3,m4,mz⟩:=hB1.c5;have Aw:Hid (Blk wr w.heap.size [.map (some be),.map (some bs)]):=hB0;have A8:=hid hB1;clear A6 hB0 hB1
     by_cases A0:j<m.bodies.length
     . obtain ⟨b,off,aa,cp,rfl,B9,hc,hx⟩:=(C5.out.later AO) j A0
       have HX:Hid (DAt wr Tt aa m.bodies[j].length (zby m.bodies[j])):=hx;clear hx;go_wp2_with fail;refine (zki be bs Tt 6 (by omega) m.bodies[j] aa cp 1 _ (by omega) HX.out ((HS.out.later DI.out).later AO) ((HU.out.later DI.out).later AO)).mono ?_
       cases h1:zaq 6 m.bodies[j] with
       | false=>
         have HF:Hid (m.bodies.all (zaq 6)=false):=all_not m.bodies _ j A0 h1;rintro e w8 ⟨rfl,AR⟩;go_wp2_with fail;go_ret;exact ⟨ret_bool (by rw [HR.out,HF.out];simp),thenB DI.out (thenB AO AR)⟩
       | true=>
         have HT:Hid ((m.bodies.take (j+1)).all (zaq 6)=true):=by
          show _=_
          rw [all_snoc m.bodies _ j A0,HA.out,h1];rfl
         rintro e w8 ⟨rfl,AR⟩;have k0:=Aw.out.later AR;have k1:=A8.out.later AR;go_wp2_with fail;go_roundw
         case rel=>exact ⟨j+1,by omega,by go_num,HT.out,thenB AO AR,k0,k1⟩
         case measure=>simp [intOf];omega
     . have HT:Hid (m.bodies.all (zaq 6)=true):=zci HA.out A0
       go_wp2_with fail;go_ret;exact ⟨ret_bool (by rw [HR.out,HT.out];simp [JQ.out]),thenB DI.out AO⟩
theorem zlr
 (be bs:Nat) (m:Mo) (v:Value) (a1:OA) (c1:Nat) (a2:OA) (c2:Nat) (a3:OA) (c3:Nat) (a4:OA) (c4:Nat) (w:World) (hM:MoAt w Tt m v a1 c1 a2 c2 a3 c3 a4 c4) (hS:zcq w be 15 zh4) (hT:zcq w bs 7 zla) :
 qc 153 #[.agg #[.map (some be),.map (some bs)],v] w fun e w'=>e = .returned (.bool m.many)/\qb w w':=by
 by_cases hu:3<m.uses.length
 . have HT:Hid (m.many=true):=by show _=_;simp [Mo.many,hu]
   obtain rfl:=hM.val;have Dw:=hM.uses.bound;clear hM hS hT;go_enter Tryz.func153,Tryz.ntmps153;go_wp2_with fail;go_ret;exact ⟨ret_bool HT.out.symm,al2 _ _ _⟩
 by_cases hd:10<m.decls.length
 . have HT:Hid (m.many=true):=by show _=_;simp [Mo.many,hd]
   obtain rfl:=hM.val;have Dw:=hM.uses.bound;have Dv:=hM.decls.bound;clear hM hS hT;go_enter Tryz.func153,Tryz.ntmps153;go_wp2_with fail;go_ret;exact ⟨ret_bool HT.out.symm,al2 _ _ _⟩
 by_cases hp:6<m.procs.length
 . have HT:Hid (m.many=true):=by show _=_;simp [Mo.many,hp]
   obtain rfl:=hM.val;have Dw:=hM.uses.bound;have Dv:=hM.decls.bound;have F1:=ze8 hM.procs;clear hM hS hT;go_enter Tryz.func153,Tryz.ntmps153;go_wp2_with fail;go_ret;exact ⟨ret_bool HT.out.symm,al2 _ _ _⟩
 have hR:m.many=(m.procs.any (fun p:Pr=>decide (3<p.params.length)||decide (4<p.locals.length))||m.bodies.any (zah 6)):=by simp [Mo.many,hu,hd,hp]
 have HR:Hid (m.many=(m.procs.any (fun p:Pr=>decide (3<p.params.length)||decide (4<p.locals.length))||m.bodies.any (zah 6))):=hR;clear hR;obtain rfl:=hM.val;have Dw:=hM.uses.bound;have Dv:=hM.decls.bound;have HP:Hid (m.procs.length<=3518437208883):=ze8 hM.procs;have F1:=HP.out;have HM:Hid (MoAt w Tt m (.agg #[.string m.name,.slice a1 m.uses.length c1,.slice a2 m.decls.length c2,.slice a3 m.procs.length c3,.slice a4 m.main.length c4]) a1 c1 a2 c2 a3 c3 a4 c4):=hM;have HS:Hid (zcq w be 15 zh4):=hS;have HU:Hid (zcq w bs 7 zla):=hT;clear hM hS hT;have Aw:Hid (Blk ((w.alloc (.cells #[.map (some be),.map (some bs)] 235)).alloc (mC m a1 c1 a2 c2 a3 c3 a4 c4)) w.heap.size [.map (some be),.map (some bs)]):=Blk.new1 w _ _ _;have A8:Hid (Blk ((w.alloc (.cells #[.map (some be),.map (some bs)] 235)).alloc (mC m a1 c1 a2 c2 a3 c3 a4 c4)) (w.heap.size+1) [.string m.name,.slice a1 m.uses.length c1,.slice a2 m.decls.length c2,.slice a3 m.procs.length c3,.slice a4 m.main.length c4]):=Blk.new2 w _ _ _
 go_enter Tryz.func153,Tryz.ntmps153;go_wp2_with fail
 go_loopw [28] (fun i wr=>∃ j:Nat,j<=m.procs.length/\i=qi j/\(m.procs.take j).any (fun p:Pr=>decide (3<p.params.length)||decide (4<p.locals.length))=false/\qb w wr/\Blk wr w.heap.size [.map (some be),.map (some bs)]/\Blk wr (w.heap.size+1) [.string m.name,.slice a1 m.uses.length c1,.slice a2 m.decls.length c2,.slice a3 m.procs.length c3,.slice a4 m.main.length c4]) (fun i _=>m.procs.length - (intOf i).toNat)
 case atStart=>exact ⟨0,vae _,rfl,rfl,al2 _ _ _,Aw.out,A8.out⟩
 case round=>
  clear Aw A8;obtain ⟨j,hj,rfl,A6,hb,hB0,hB1⟩:=hrel;have HA:Hid ((m.procs.take j).any (fun p:Pr=>decide (3<p.params.length)||decide (4<p.locals.length))=false):=A6;obtain ⟨q0,q1,qz⟩:=hB0.c2;obtain ⟨m0,m1,m2,m3,m4,mz⟩:=hB1.c5;have Aw:Hid (Blk wr w.heap.size [.map (some be),.map (some bs)]):=hB0;have A8:=hid hB1;clear A6 hB0 hB1
  by_cases A0:j<m.procs.length
  . obtain ⟨b,off,b1,d1,b2,d2,b3,d3,rfl,hx⟩:=(HM.out.procs.later hb).pr j A0
    have CB:=hx.c0;have Bg:=hx.c1;have C1:=hx.c2;have Ej:=hx.c3;have FA:=hx.c4;have B9:=hx.lt;have e1:=hx.params.bound;have e2:=hx.locals.bound;clear hx
    by_cases hk:m.procs[j].params.length<=3/\m.procs[j].locals.length<=4
    . obtain ⟨CA,F4⟩:=hk
      have HT:Hid ((m.procs.take (j+1)).any (fun p:Pr=>decide (3<p.params.length)||decide (4<p.locals.length))=false):=by
       show _=_
       rw [zjg m.procs _ j A0,HA.out];simp;omega
      go_wp2_with fail;go_roundw
      case rel=>exact ⟨j+1,by omega,by go_num,HT.out,thenB hb (al1 _ _),Aw.out.later (al1 _ _),A8.out.later (al1 _ _)⟩
      case measure=>simp [intOf];omega
    . have HF:Hid (m.procs.any (fun p:Pr=>decide (3<p.params.length)||decide (4<p.locals.length))=true):=ztk m.procs _ j A0 (by simp;omega)
      by_cases CA:3<m.procs[j].params.length
      . clear hk
        go_wp2_with fail;go_ret;exact ⟨ret_bool (by rw [HR.out,HF.out];rfl),thenB hb (al1 _ _)⟩
      . have F4:4<m.procs[j].locals.length:=by omega
        clear hk;go_wp2_with fail;go_ret;exact ⟨ret_bool (by rw [HR.out,HF.out];rfl),thenB hb (al1 _ _)⟩
  . have JQ:Hid (m.procs.any (fun p:Pr=>decide (3<p.params.length)||decide (4<p.locals.length))=false):=znz HA.out A0
    go_wp2_with fail;refine (zh6 m _ a1 c1 a2 c2 a3 c3 a4 c4 _ (HM.out.later hb)).mono ?_;rintro e w5 ⟨ba,bc,rfl,hBA,Aq⟩;have C5:Hid (zpw w5 ba m.bodies):=hBA
    have Oy:m.bodies.length<=4000000000000:=by have:=HP.out;simp [Mo.bodies];omega
    have k0:=Aw.out.later Aq;have k1:=A8.out.later Aq;have AH:=thenB hb Aq;clear Aq hBA Aw A8;clear q0 q1 qz m0 m1 m2 m3 m4 mz;have Aw:Hid (Blk w5 w.heap.size [.map (some be),.map (some bs)]):=k0;have A8:=hid k1;have DI:Hid (qb w w5):=AH;clear k0 k1 AH;go_wp2_with fail
    go_loopw [46] (fun i wr=>∃ j:Nat,j<=m.bodies.length/\i=qi j/\(m.bodies.take j).any (zah 6)=false/\qb w5 wr/\Blk wr w.heap.size [.map (some be),.map (some bs)]/\Blk wr (w.heap.size+1) [.string m.name,.slice a1 m.uses.length c1,.slice a2 m.decls.length c2,.slice a3 m.procs.length c3,.slice a4 m.main.length c4]) (fun i _=>m.bodies.length - (intOf i).toNat)
    case atStart=>exact ⟨0,vae _,rfl,rfl,Below.refl _ _,Aw.out,A8.out⟩
    case round=>
     clear Aw A8;obtain ⟨j,hj,rfl,A6,AO,hB0,hB1⟩:=hrel;have HA:Hid ((m.bodies.take j).any (zah 6)=false):=A6;obtain ⟨q0,q1,qz⟩:=hB0.c2;obtain ⟨m0,m1,m2,m3,m4,mz⟩:=hB1.c5;have Aw:Hid (Blk wr w.heap.size [.map (some be),.map (some bs)]):=hB0;have A8:=hid hB1;clear A6 hB0 hB1
     by_cases A0:j<m.bodies.length
     . obtain ⟨b,off,aa,cp,rfl,B9,hc,hx⟩:=(C5.out.later AO) j A0
       have HX:Hid (DAt wr Tt aa m.bodies[j].length (zby m.bodies[j])):=hx;clear hx;go_wp2_with fail;refine (zmo be bs Tt 6 (by omega) m.bodies[j] aa cp 1 _ (by omega) HX.out ((HS.out.later DI.out).later AO) ((HU.out.later DI.out).later AO)).mono ?_
       cases h1:zah 6 m.bodies[j] with
       | true=>
         have HF:Hid (m.bodies.any (zah 6)=true):=ztk m.bodies _ j A0 h1;rintro e w8 ⟨rfl,AR⟩;go_wp2_with fail;go_ret;exact ⟨ret_bool (by rw [HR.out,HF.out];simp),thenB DI.out (thenB AO AR)⟩
       | false=>
         have HT:Hid ((m.bodies.take (j+1)).any (zah 6)=false):=by
          show _=_
          rw [zjg m.bodies _ j A0,HA.out,h1];rfl
         rintro e w8 ⟨rfl,AR⟩;have k0:=Aw.out.later AR;have k1:=A8.out.later AR;go_wp2_with fail;go_roundw
         case rel=>exact ⟨j+1,by omega,by go_num,HT.out,thenB AO AR,k0,k1⟩
         case measure=>simp [intOf];omega
     . have HT:Hid (m.bodies.any (zah 6)=false):=znz HA.out A0
       go_wp2_with fail;go_ret;exact ⟨ret_bool (by rw [HR.out,HT.out];simp [JQ.out]),thenB DI.out AO⟩
theorem zro
 (be bs:Nat) (m:Mo) (v:Value) (a1:OA) (c1:Nat) (a2:OA) (c2:Nat) (a3:OA) (c3:Nat) (a4:OA) (c4:Nat) (w:World) (hM:MoAt w Tt m v a1 c1 a2 c2 a3 c3 a4 c4) (hS:zcq w be 15 zh4) (hT:zcq w bs 7 zla) (hY:m.many=false) :
 qc 154 #[.agg #[.map (some be),.map (some bs)],v] w fun e w'=>e = .returned (.bool m.form)/\qb w w':=by
 have HY:Hid (∀ j (h:j<m.bodies.length),zah 6 m.bodies[j]=false):=fun j h=>by
  simp only [Mo.many,vas,vbz] at hY;simpa using hY.2.2.2.2 m.bodies[j] (vag h)
 clear hY;have HR:Hid (m.form=(nameOk m.name&&(m.uses.all nameOk&&(m.decls.all (fun d:De=>nameOk d.name&&zds d)&&(m.procs.all (fun p:Pr=>nameOk p.name&&(p.params.all nameOk&&p.locals.all nameOk))&&m.bodies.all (zar 6)))))):=rfl;obtain rfl:=hM.val;have Dw:=hM.uses.bound;have Dv:=hM.decls.bound;have HP:Hid (m.procs.length<=3518437208883):=ze8 hM.procs;have F1:=HP.out;have HM:Hid (MoAt w Tt m (.agg #[.string m.name,.slice a1 m.uses.length c1,.slice a2 m.decls.length c2,.slice a3 m.procs.length c3,.slice a4 m.main.length c4]) a1 c1 a2 c2 a3 c3 a4 c4):=hM;have HS:Hid (zcq w be 15 zh4):=hS;have HU:Hid (zcq w bs 7 zla):=hT;clear hM hS hT;have Aw:Hid (Blk ((w.alloc (.cells #[.map (some be),.map (some bs)] 235)).alloc (mC m a1 c1 a2 c2 a3 c3 a4 c4)) w.heap.size [.map (some be),.map (some bs)]):=Blk.new1 w _ _ _
 have A8:Hid (Blk ((w.alloc (.cells #[.map (some be),.map (some bs)] 235)).alloc (mC m a1 c1 a2 c2 a3 c3 a4 c4)) (w.heap.size+1) [.string m.name,.slice a1 m.uses.length c1,.slice a2 m.decls.length c2,.slice a3 m.procs.length c3,.slice a4 m.main.length c4]):=Blk.new2 w _ _ _;go_enter Tryz.func154,Tryz.ntmps154;go_wp2_with fail;refine (zdf m.name _ HM.out.wna).mono ?_
 cases Bq:nameOk m.name with
 | false=>
   rintro e w1 ⟨rfl,g1⟩;go_wp2_with fail;go_ret;exact ⟨ret_bool (by rw [HR.out,Bq];rfl),thenB (al2 _ _ _) g1⟩
 | true=>
 rintro e w1 ⟨rfl,g1⟩;have k0:=Aw.out.later g1;have k1:=A8.out.later g1;have g2:qb w w1:=thenB (al2 _ _ _) g1;clear Aw A8 g1;obtain ⟨m0,m1,m2,m3,m4,mz⟩:=k1.c5;have Aw:Hid (Blk w1 w.heap.size [.map (some be),.map (some bs)]):=k0;have A8:=hid k1;clear k0 k1;go_wp2_with fail;refine (zfz m.uses a1 c1 _ (HM.out.uses.later g2)).mono ?_
 cases FT:m.uses.all nameOk with
 | false=>
   rintro e w2 ⟨rfl,g1⟩;go_wp2_with fail;go_ret;exact ⟨ret_bool (by rw [HR.out,Bq,FT];rfl),thenB g2 g1⟩
 | true=>
 rintro e w2 ⟨rfl,g1⟩;have k0:=Aw.out.later g1;have k1:=A8.out.later g1;have g3:=thenB g2 g1;clear Aw A8 g1 g2 m0 m1 m2 m3 m4 mz;obtain ⟨m0,m1,m2,m3,m4,mz⟩:=k1.c5;have Aw:Hid (Blk w2 w.heap.size [.map (some be),.map (some bs)]):=k0;have A8:=hid k1;clear k0 k1;go_wp2_with fail;clear m0 m1 m2 m3 m4 mz
 go_loopw [24] (fun i wr=>∃ j:Nat,j<=m.decls.length/\i=qi j/\(m.decls.take j).all (fun d:De=>nameOk d.name&&zds d)=true/\qb w wr/\Blk wr w.heap.size [.map (some be),.map (some bs)]/\Blk wr (w.heap.size+1) [.string m.name,.slice a1 m.uses.length c1,.slice a2 m.decls.length c2,.slice a3 m.procs.length c3,.slice a4 m.main.length c4]) (fun i _=>m.decls.length - (intOf i).toNat)
 case atStart=>exact ⟨0,vae _,rfl,rfl,g3,Aw.out,A8.out⟩
 case round =>
  clear g3;clear Aw A8;obtain ⟨j,hj,rfl,A6,hb,hB0,hB1⟩:=hrel;have HA:Hid ((m.decls.take j).all (fun d:De=>nameOk d.name&&zds d)=true):=A6;obtain ⟨q0,q1,qz⟩:=hB0.c2;obtain ⟨m0,m1,m2,m3,m4,mz⟩:=hB1.c5;have Aw:Hid (Blk wr w.heap.size [.map (some be),.map (some bs)]):=hB0;have A8:=hid hB1;clear A6 hB0 hB1
  by_cases A0:j<m.decls.length
  . obtain ⟨b,off,rfl,hx⟩:=(HM.out.decls.later hb).de j A0
    have CB:=hx.c0;have Bg:=hx.c1;have C1:=hx.c2;have Ej:=hx.c3;have B9:=hx.lt
    have HF:Hid ((nameOk m.decls[j].name&&zds m.decls[j])=false->m.form=false):=fun h=>by rw [HR.out,all_not m.decls (fun d:De=>nameOk d.name&&zds d) j A0 h];simp
    have Oc:=hx.wna;clear hx;go_wp2_with fail;refine (zdf m.decls[j].name _ Oc).mono ?_
    cases h1:nameOk m.decls[j].name with
    | false=>
      rintro e w3 ⟨rfl,g1⟩;go_wp2_with fail;go_ret;exact ⟨ret_bool (HF.out (by simp [h1])).symm,z4b hb g1⟩
    | true=>
      rintro e w3 ⟨rfl,g1⟩;have kd:=(Blk.new wr #[qi m.decls[j].kind,.string m.decls[j].name,.bool m.decls[j].pub,qi m.decls[j].n] 170).later g1;have z0:=kd.cell 0 _ rfl;have z1:=kd.cell 1 _ rfl;have z2:=kd.cell 2 _ rfl;have z3:=kd.cell 3 _ rfl;have zl:=kd.lt;have k0:=(Aw.out.later (al1 _ _)).later g1;have k1:=(A8.out.later (al1 _ _)).later g1;have g2:=z4b hb g1;clear g1 kd Aw A8 q0 q1 qz m0 m1 m2 m3 m4 mz;have Aw:Hid (Blk w3 w.heap.size [.map (some be),.map (some bs)]):=k0;have A8:=hid k1;clear k0 k1;go_wp2_with fail;refine (zn0 m.decls[j] _).mono ?_
      cases h2:zds m.decls[j] with
      | false=>
        rintro e w4 ⟨rfl,g1⟩;go_wp2_with fail;go_ret;exact ⟨ret_bool (HF.out (by simp [h2])).symm,thenB g2 g1⟩
      | true=>
        have HT:Hid ((m.decls.take (j+1)).all (fun d:De=>nameOk d.name&&zds d)=true):=by
         show _=_
         rw [all_snoc m.decls _ j A0,HA.out];simp [h1,h2]
        rintro e w4 ⟨rfl,g1⟩;have k0:=Aw.out.later g1;have k1:=A8.out.later g1;have g3:=thenB g2 g1;clear g1 g2;go_wp2_with fail;go_roundw
        case rel=>exact ⟨j+1,by omega,by go_num,HT.out,g3,k0,k1⟩
        case measure=>simp [intOf];omega
  . have JQ : Hid (m.decls.all (fun d:De=>nameOk d.name&&zds d)=true):=zci HA.out A0
    go_wp2_with fail;clear A0 hj HA;clear q0 q1 qz m0 m1 m2 m3 m4 mz
    go_loopw [41] (fun i wr=>∃ j:Nat,j<=m.procs.length/\i=qi j/\(m.procs.take j).all (fun p:Pr=>nameOk p.name&&(p.params.all nameOk&&p.locals.all nameOk))=true/\qb w wr/\Blk wr w.heap.size [.map (some be),.map (some bs)]/\Blk wr (w.heap.size+1) [.string m.name,.slice a1 m.uses.length c1,.slice a2 m.decls.length c2,.slice a3 m.procs.length c3,.slice a4 m.main.length c4]) (fun i _=>m.procs.length - (intOf i).toNat)
    case atStart=>exact ⟨0,vae _,rfl,rfl,hb,Aw.out,A8.out⟩
    case round=>
     clear hb;clear Aw A8;obtain ⟨j,hj,rfl,A6,hb,hB0,hB1⟩:=hrel;have HA:Hid ((m.procs.take j).all (fun p:Pr=>nameOk p.name&&(p.params.all nameOk&&p.locals.all nameOk))=true):=A6;obtain ⟨q0,q1,qz⟩:=hB0.c2;obtain ⟨m0,m1,m2,m3,m4,mz⟩:=hB1.c5;have Aw:Hid (Blk wr w.heap.size [.map (some be),.map (some bs)]):=hB0;have A8:=hid hB1;clear A6 hB0 hB1
     by_cases A0:j<m.procs.length
     . obtain ⟨b,off,b1,d1,b2,d2,b3,d3,rfl,hx⟩:=(HM.out.procs.later hb).pr j A0
       have CB:=hx.c0;have Bg:=hx.c1;have C1:=hx.c2;have Ej:=hx.c3;have FA:=hx.c4;have B9:=hx.lt;have HX:Hid (PrAt wr Tt b (off+j*5) m.procs[j] b1 d1 b2 d2 b3 d3):=hx
       have HF:Hid ((nameOk m.procs[j].name&&(m.procs[j].params.all nameOk&&m.procs[j].locals.all nameOk))=false->m.form=false):=fun h=>by rw [HR.out,all_not m.procs (fun p:Pr=>nameOk p.name&&(p.params.all nameOk&&p.locals.all nameOk)) j A0 h];simp
       clear hx;go_wp2_with fail;refine (zdf m.procs[j].name _ HX.out.wna).mono ?_
       cases h1:nameOk m.procs[j].name with
       | false=>
         rintro e w3 ⟨rfl,g1⟩;go_wp2_with fail;go_ret;exact ⟨ret_bool (HF.out (by simp [h1])).symm,z4b hb g1⟩
       | true =>
         rintro e w3 ⟨rfl,g1⟩;have kd:=(Blk.new wr #[.string m.procs[j].name,.bool m.procs[j].pub,.slice b1 m.procs[j].params.length d1,.slice b2 m.procs[j].locals.length d2,.slice b3 m.procs[j].body.length d3] 118).later g1;obtain ⟨z0,z1,z2,z3,z4,zl⟩:=kd.c5;have HK:Hid (Blk w3 wr.heap.size [.string m.procs[j].name,.bool m.procs[j].pub,.slice b1 m.procs[j].params.length d1,.slice b2 m.procs[j].locals.length d2,.slice b3 m.procs[j].body.length d3]):=kd;have k0:=(Aw.out.later (al1 _ _)).later g1;have k1:=(A8.out.later (al1 _ _)).later g1;have g2:=thenB (al1 _ _) g1;clear g1 kd Aw A8 q0 q1 qz m0 m1 m2 m3 m4 mz;have Aw:Hid (Blk w3 w.heap.size [.map (some be),.map (some bs)]):=k0;have A8:=hid k1;clear k0 k1;go_wp2_with fail;refine (zfz m.procs[j].params b1 d1 _ (HX.out.params.later g2)).mono ?_
         cases h2:m.procs[j].params.all nameOk with
         | false=>
           rintro e w4 ⟨rfl,g1⟩;go_wp2_with fail;go_ret;exact ⟨ret_bool (HF.out (by simp [h2])).symm,thenB hb (thenB g2 g1)⟩
         | true=>
           rintro e w4 ⟨rfl,g1⟩;have kd:=HK.out.later g1;clear z0 z1 z2 z3 z4 zl HK;obtain ⟨z0,z1,z2,z3,z4,zl⟩:=kd.c5;have k0:=Aw.out.later g1;have k1:=A8.out.later g1;have g3:=thenB g2 g1;clear g1 g2 kd Aw A8;have Aw:Hid (Blk w4 w.heap.size [.map (some be),.map (some bs)]):=k0;have A8:=hid k1;clear k0 k1;go_wp2_with fail;refine (zfz m.procs[j].locals b2 d2 _ (HX.out.locals.later g3)).mono ?_
           cases h3:m.procs[j].locals.all nameOk with
           | false=>
             rintro e w5 ⟨rfl,g1⟩;go_wp2_with fail;go_ret;exact ⟨ret_bool (HF.out (by simp [h3])).symm,thenB hb (thenB g3 g1)⟩
           | true=>
             have HT:Hid ((m.procs.take (j+1)).all (fun p:Pr=>nameOk p.name&&(p.params.all nameOk&&p.locals.all nameOk))=true):=by
              show _=_
              rw [all_snoc m.procs _ j A0,HA.out];simp only [h1,h2,h3];rfl
             rintro e w5 ⟨rfl,g1⟩;have k0:=Aw.out.later g1;have k1:=A8.out.later g1;have g4:=thenB hb (thenB g3 g1);clear g1 g3;go_wp2_with fail;go_roundw
             case rel=>exact ⟨j+1,by omega,by go_num,HT.out,g4,k0,k1⟩
             case measure=>simp [intOf];omega
     . have Ry:Hid (m.procs.all (fun p:Pr=>nameOk p.name&&(p.params.all nameOk&&p.locals.all nameOk))=true):=zci HA.out A0
       go_wp2_with fail;refine (zh6 m _ a1 c1 a2 c2 a3 c3 a4 c4 _ (HM.out.later hb)).mono ?_;rintro e w5 ⟨ba,bc,rfl,hBA,Aq⟩;have C5:Hid (zpw w5 ba m.bodies):=hBA
       have Oy:m.bodies.length<=4000000000000:=by have:=HP.out;simp [Mo.bodies];omega
       have k0:=Aw.out.later Aq;have k1:=A8.out.later Aq;have AH:=thenB hb Aq;clear Aq hBA Aw A8;clear q0 q1 qz m0 m1 m2 m3 m4 mz;have Aw:Hid (Blk w5 w.heap.size [.map (some be),.map (some bs)]):=k0;have A8:=hid k1;have DI:Hid (qb w w5):=AH;clear k0 k1 AH;go_wp2_with fail
       go_loopw [65] (fun i wr=>∃ j:Nat,j<=m.bodies.length/\i=qi j/\(m.bodies.take j).all (zar 6)=true/\qb w5 wr/\Blk wr w.heap.size [.map (some be),.map (some bs)]/\Blk wr (w.heap.size+1) [.string m.name,.slice a1 m.uses.length c1,.slice a2 m.decls.length c2,.slice a3 m.procs.length c3,.slice a4 m.main.length c4]) (fun i _=>m.bodies.length - (intOf i).toNat)
       case atStart=>exact ⟨0,vae _,rfl,rfl,Below.refl _ _,Aw.out,A8.out⟩
       case round=>
        clear Aw A8;obtain ⟨j,hj,rfl,A6,AO,hB0,hB1⟩:=hrel;have HA:Hid ((m.bodies.take j).all (zar 6)=true):=A6;obtain ⟨q0,q1,qz⟩:=hB0.c2;obtain ⟨m0,m1,m2,m3,m4,mz⟩:=hB1.c5;have Aw:Hid (Blk wr w.heap.size [.map (some be),.map (some bs)]):=hB0;have A8:=hid hB1;clear A6 hB0 hB1
        by_cases A0:j<m.bodies.length
        . obtain ⟨b,off,aa,cp,rfl,B9,hc,hx⟩:=(C5.out.later AO) j A0
          have HX:Hid (DAt wr Tt aa m.bodies[j].length (zby m.bodies[j])):=hx;clear hx;go_wp2_with fail;refine (zu4 be bs Tt 6 m.bodies[j] aa cp _ HX.out ((HS.out.later DI.out).later AO) ((HU.out.later DI.out).later AO) (Or.inr (HY.out j A0))).mono ?_
          cases h1:zar 6 m.bodies[j] with
          | false=>
            have HF:Hid (m.bodies.all (zar 6)=false):=all_not m.bodies _ j A0 h1;rintro e w8 ⟨rfl,AR⟩;go_wp2_with fail;go_ret;exact ⟨ret_bool (by rw [HR.out,HF.out];simp),thenB DI.out (thenB AO AR)⟩
          | true=>
            have HT:Hid ((m.bodies.take (j+1)).all (zar 6)=true):=by
             show _=_
             rw [all_snoc m.bodies _ j A0,HA.out,h1];rfl
            rintro e w8 ⟨rfl,AR⟩;have k0:=Aw.out.later AR;have k1:=A8.out.later AR;go_wp2_with fail;go_roundw
            case rel=>exact ⟨j+1,by omega,by go_num,HT.out,thenB AO AR,k0,k1⟩
            case measure=>simp [intOf];omega
        . have HT:Hid (m.bodies.all (zar 6)=true):=zci HA.out A0
          go_wp2_with fail;go_ret;exact ⟨ret_bool (by rw [HR.out,HT.out];simp [Bq,FT,JQ.out,Ry.out]),thenB DI.out AO⟩
theorem z03 {m:Mo} (h:m.kinds=false):m.err=4:=by unfold Mo.err;rw [h];rfl
theorem z04 {m:Mo} (h:m.kinds=true) (h1:m.many=true):m.err=2:=by unfold Mo.err;rw [h,h1];rfl
theorem z05 {m:Mo} (h:m.kinds=true) (h1:m.many=false) (h2:m.form=false):m.err=1:=by unfold Mo.err;rw [h,h1,h2];rfl
theorem z6c {m:Mo} (h:m.kinds=true) (h1:m.many=false) (h2:m.form=true):m.err=0:=by unfold Mo.err;rw [h,h1,h2];rfl
theorem zmp (m:Mo) (v:Value) (a1:OA) (c1:Nat) (a2:OA) (c2:Nat) (a3:OA) (c3:Nat) (a4:OA) (c4:Nat) (w:World) (hM:MoAt w Tt m v a1 c1 a2 c2 a3 c3 a4 c4) :
 qc 112 #[v] w fun e w'=>e = .returned (qi m.err)/\qb w w':=by
 obtain rfl:=hM.val;have HM:Hid (MoAt w Tt m (.agg #[.string m.name,.slice a1 m.uses.length c1,.slice a2 m.decls.length c2,.slice a3 m.procs.length c3,.slice a4 m.main.length c4]) a1 c1 a2 c2 a3 c3 a4 c4):=hM;clear hM;have HB:Hid (Blk (w.alloc (mC m a1 c1 a2 c2 a3 c3 a4 c4)) w.heap.size [.string m.name,.slice a1 m.uses.length c1,.slice a2 m.decls.length c2,.slice a3 m.procs.length c3,.slice a4 m.main.length c4]):=Blk.new w _ _;go_enter Tryz.func112,Tryz.ntmps112;go_wp2_with fail;refine (zlp _).mono ?_;rintro e w1 ⟨be,rfl,hS,A5⟩;have HS:=hid hS;have k:=HB.out.later A5;have g1:=thenB (al1 _ _) A5;clear HB A5 hS;have HB:=hid k;obtain ⟨m0,m1,m2,m3,m4,mz⟩:=k.c5;clear k;go_wp2_with fail;refine (zlo _).mono ?_;rintro e w2 ⟨bs,rfl,hT,Aa⟩;have DK:=hid ((HS.out.later Aa).later (al1 _ (.cells #[.map (some be),.map (some bs)] 235)))
 have HT:=hid (hT.later (al1 _ (.cells #[.map (some be),.map (some bs)] 235)));have k:=(HB.out.later Aa).later (al1 _ (.cells #[.map (some be),.map (some bs)] 235));have k0:=Blk.new w2 #[.map (some be),.map (some bs)] 235;have g2:=thenB g1 Aa;have g3:=thenB g2 (al1 _ (.cells #[.map (some be),.map (some bs)] 235))
 have Ih:=(HB.out.later Aa)
 clear HB Aa hT HS g1 m0 m1 m2 m3 m4 mz;obtain ⟨m0,m1,m2,m3,m4,mz⟩:=Ih.c5;have HB:=hid k;have Aw:=hid k0;clear k k0 Ih;go_wp2_with fail;refine (zpx be bs m _ a1 c1 a2 c2 a3 c3 a4 c4 _ (HM.out.later g3) DK.out HT.out).mono ?_
 cases h1:m.kinds with
 | false=>
   rintro e w3 ⟨rfl,A9⟩;go_wp2_with fail;go_ret;exact ⟨ret_int (z03 h1).symm,thenB g3 A9⟩
 | true=>
 rintro e w3 ⟨rfl,A9⟩;have k:=HB.out.later A9;have k0:=Aw.out.later A9;have s1:=DK.out.later A9;have s2:=HT.out.later A9;have g4:=thenB g3 A9;clear HB Aw DK HT g2 g3 A9 m0 m1 m2 m3 m4 mz;obtain ⟨m0,m1,m2,m3,m4,mz⟩:=k.c5;obtain ⟨q0,q1,qz⟩:=k0.c2;have HB:=hid k;have Aw:=hid k0;have DK:=hid s1;have HT:=hid s2;clear k k0 s1 s2;go_wp2_with fail;refine (zlr be bs m _ a1 c1 a2 c2 a3 c3 a4 c4 _ (HM.out.later g4) DK.out HT.out).mono ?_
 cases h2:m.many with
 | true=>
   rintro e w4 ⟨rfl,Ah⟩;go_wp2_with fail;go_ret;exact ⟨ret_int (z04 h1 h2).symm,thenB g4 Ah⟩
 | false=>
 rintro e w4 ⟨rfl,Ah⟩;have k:=HB.out.later Ah;have k0:=Aw.out.later Ah;have s1:=DK.out.later Ah;have s2:=HT.out.later Ah;have g5:=thenB g4 Ah;clear HB Aw DK HT g4 Ah m0 m1 m2 m3 m4 mz q0 q1 qz;obtain ⟨m0,m1,m2,m3,m4,mz⟩:=k.c5;obtain ⟨q0,q1,qz⟩:=k0.c2;have DK:=hid s1;have HT:=hid s2;clear k k0 s1 s2;go_wp2_with fail;refine (zro be bs m _ a1 c1 a2 c2 a3 c3 a4 c4 _ (HM.out.later g5) DK.out HT.out h2).mono ?_
 cases h3:m.form with
 | false=>
   rintro e w5 ⟨rfl,Aq⟩;go_wp2_with fail;go_ret;exact ⟨ret_int (z05 h1 h2 h3).symm,thenB g5 Aq⟩
 | true=>
 rintro e w5 ⟨rfl,Aq⟩;go_wp2_with fail;go_ret;exact ⟨ret_int (z6c h1 h2 h3).symm,thenB g5 Aq⟩
end Go.Proofs.YtndkhgakfodldaaGreatDoor

namespace Go.Proofs.YtndkhgakfodldaaGreatDoor
open Go.RowKit
abbrev zn1:ByteArray:=⟨#[109,111,100,117,108,101]⟩
abbrev zvw:ByteArray:=⟨#[117,115,101]⟩
abbrev zrp:ByteArray:=⟨#[112,117,98]⟩
abbrev ztn:ByteArray:=⟨#[99,111,110,115,116]⟩
abbrev z64:ByteArray:=⟨#[118,97,114]⟩
abbrev zto:ByteArray:=⟨#[97,114,114,97,121]⟩
abbrev z6d:ByteArray:=⟨#[112,114,111,99]⟩
abbrev z2n:ByteArray:=⟨#[108,111,99,97,108]⟩
abbrev z06:ByteArray:=⟨#[109,97,105,110]⟩
abbrev tIf:ByteArray:=⟨#[105,102]⟩
abbrev zrq:ByteArray:=⟨#[101,108,115,101]⟩
abbrev zgm:ByteArray:=⟨#[119,104,105,108,101]⟩
abbrev ze9:ByteArray:=⟨#[114,101,116,117,114,110]⟩
abbrev z2o:ByteArray:=⟨#[111,117,116]⟩
abbrev tIn:ByteArray:=⟨#[105,110]⟩
abbrev tLb:ByteArray:=⟨#[123]⟩
abbrev tRb:ByteArray:=⟨#[125]⟩
abbrev tLp:ByteArray:=⟨#[40]⟩
abbrev tRp:ByteArray:=⟨#[41]⟩
abbrev tLs:ByteArray:=⟨#[91]⟩
abbrev tRs:ByteArray:=⟨#[93]⟩
abbrev z65:ByteArray:=⟨#[44]⟩
abbrev zrr:ByteArray:=⟨#[59]⟩
abbrev tEq:ByteArray:=⟨#[61]⟩
abbrev z5d:ByteArray:=⟨#[46]⟩
abbrev z6e:ByteArray:=⟨#[33]⟩
def z6f:List (L8):=[[109,111,100,117,108,101],[117,115,101],[112,117,98],[99,111,110,115,116],[118,97,114],[97,114,114,97,121],[112,114,111,99],[108,111,99,97,108],[109,97,105,110],[105,102],[101,108,115,101],[119,104,105,108,101],[114,101,116,117,114,110],[111,117,116],[105,110]]
def opTexts:List ByteArray:=[⟨#[38]⟩,⟨#[124]⟩,⟨#[43]⟩,⟨#[45]⟩,⟨#[42]⟩,⟨#[47]⟩,⟨#[37]⟩,⟨#[61]⟩,⟨#[60]⟩]
def zu6 (s:ByteArray):Bool:=z6f.any (fun k=>s.toList == k)
def noTk:Tk:=⟨0,0,⟨#[]⟩⟩
def hd (l:List Tk):Tk:=l.getD 0 noTk
def skB (l:List Tk) (t:ByteArray):Bool:=(hd l).text.toList == t.toList
def zi0 (l:List Tk) (ts:List ByteArray):Option ByteArray:=ts.find? (fun t=>skB l t)
def zd3 (l:List Tk):Option (ByteArray × List Tk):=if ((hd l).kind == 1 && !zu6 (hd l).text)=true then some ((hd l).text,l.tail) else none
def pNum (l:List Tk):Option (Int × List Tk):=if (hd l).kind=2 then some ((hd l).n,l.tail) else none
def zzo (l:List Tk):Option ((ByteArray × ByteArray) × List Tk):=
 match zd3 l with
 | none=>none
 | some (a,l1)=>if skB l1 z5d then (match zd3 l1.tail with | none=>none | some (b,l2)=>some ((a,b),l2)) else some ((⟨#[]⟩,a),l1)
def z07 (l:List Tk):Option Nat:=opTexts.findIdx? (fun t=>skB l t)
mutual
def zbo:Nat->List Tk->Option (Ex × List Tk)
 | 0,_=>none
 | f+1,l=>
   if (hd l).kind=2 then some (.mk 1 (hd l).n ⟨#[]⟩ ⟨#[]⟩ [],l.tail)
   else if skB l tIn then some (.mk 2 0 ⟨#[]⟩ ⟨#[]⟩ [],l.tail)
   else if skB l z6e then (match zbo f l.tail with | none=>none | some (x,l1)=>some (.mk 6 0 ⟨#[]⟩ ⟨#[]⟩ [x],l1))
   else if skB l tLp then zhe f l.tail
   else match zzo l with
    | none=>none
    | some ((m,n),l1)=>
      if skB l1 tLs then (match zbo f l1.tail with | none=>none | some (x,l2)=>if skB l2 tRs then some (.mk 4 0 m n [x],l2.tail) else none)
      else if skB l1 tLp then (match zew f l1.tail with | none=>none | some (xs,l2)=>some (.mk 5 0 m n xs,l2))
      else some (.mk 3 0 m n [],l1)
def zhe:Nat->List Tk->Option (Ex × List Tk)
 | 0,_=>none
 | f + 1,l=>
   match zbo f l with
   | none=>none
   | some (a,l1)=>match z07 l1 with
     | none=>none
     | some k=>match zbo f l1.tail with
       | none=>none
       | some (b,l2)=>if skB l2 tRp then some (.mk (7+k) 0 ⟨#[]⟩ ⟨#[]⟩ [a,b],l2.tail) else none
def zew:Nat->List Tk->Option (List Ex × List Tk)
 | 0,_=>none
 | f+1,l=>
   if skB l tRp then some ([],l.tail)
   else match zbo f l with
    | none=>none
    | some (x,l1)=>zh7 f [x] l1
def zh7:Nat->List Ex->List Tk->Option (List Ex × List Tk)
 | 0,_,_=>none
 | f+1,A7,l=>
   if skB l z65 then (match zbo f l.tail with | none=>none | some (x,l1)=>zh7 f (A7++[x]) l1)
   else if skB l tRp then some (A7,l.tail) else none
end
theorem z2p {l:List Tk} {t:ByteArray} (ht:0<t.size) (h:skB l t=true):l≠[]:=by
 rintro rfl;unfold skB at h
 have e:(hd ([]:List Tk)).text.toList=[]:=by rw [vbb];rfl
 rw [e,vbb] at h;have h1:t.data.toList=[]:=(beq_iff_eq.1 h).symm;have h2:=Lx.zbe t;rw [h1] at h2;simp at h2;omega
theorem zkj {l:List Tk} (h:l≠[]):l.tail.length<l.length:=by cases l with | nil=>exact absurd rfl h | cons x r=>simp
theorem za0 {l:List Tk} {t:ByteArray} (ht:0<t.size) (h:skB l t=true):l.tail.length<l.length:=zkj (z2p ht h)
theorem zn2 {l:List Tk} (h:(hd l).kind≠0):l≠[]:=by rintro rfl;exact h rfl
theorem zjh {l l':List Tk} {a:ByteArray} (h:zd3 l=some (a,l')):l'.length<l.length:=by
 unfold zd3 at h
 split at h
 . rename_i hk
   have F5:(hd l).kind=1:=by
    simp only [vab,beq_iff_eq] at hk;exact hk.1
   obtain ⟨_,rfl⟩:=vbc (vai h);exact zkj (zn2 (by rw [F5];decide))
 . cases h
theorem zrs {l l':List Tk} {a:ByteArray × ByteArray} (h:zzo l=some (a,l')):l'.length<l.length:=by
 unfold zzo at h
 split at h
 . cases h
 . rename_i a1 l1 h1
   have:=zjh h1
   split at h
   . rename_i hs
     have:=za0 (by decide) hs
     split at h
     . cases h
     . rename_i b l2 h2
       have:=zjh h2;obtain ⟨_,rfl⟩:=vbc (vai h);omega
   . obtain ⟨_,rfl⟩:=vbc (vai h)
     omega
theorem zyc {l:List Tk} {k:Nat} (h:z07 l=some k):l≠[]:=by
 unfold z07 at h;obtain ⟨hk,h2,_⟩:=vbu.1 h
 have:0<(opTexts[k]).size:=by
  have:∀ x ∈ opTexts,0<x.size:=by decide
  exact this _ (vag hk)
 exact z2p this h2
mutual
theorem zdc:∀ (f:Nat) (l l':List Tk) (x:Ex),zbo f l=some (x,l')->l'.length<l.length
 | 0,_,_,_,h=>by simp [zbo] at h
 | f + 1,l,l',x,h=>by
   unfold zbo at h
   split at h
   . rename_i hk
     obtain ⟨_,rfl⟩:=vbc (vai h);exact zkj (zn2 (by rw [hk];decide))
   split at h
   . rename_i hs
     obtain ⟨_,rfl⟩:=vbc (vai h);exact za0 (by decide) hs
   split at h
   . rename_i hs
     have:=za0 (by decide) hs
     split at h
     . cases h
     . rename_i y l1 h1
       have:=zdc f _ _ _ h1;obtain ⟨_,rfl⟩:=vbc (vai h);omega
   split at h
   . rename_i hs
     have:=za0 (by decide) hs;have:=z08 f _ _ _ h;omega
   split at h
   . cases h
   . rename_i m n l1 h1
     have:=zrs h1
     split at h
     . rename_i hs
       have:=za0 (by decide) hs
       split at h
       . cases h
       . rename_i y l2 h2
         have:=zdc f _ _ _ h2
         split at h
         . rename_i B7
           have:=za0 (by decide) B7;obtain ⟨_,rfl⟩:=vbc (vai h);omega
         . cases h
     split at h
     . rename_i hs
       have:=za0 (by decide) hs
       split at h
       . cases h
       . rename_i y l2 h2
         have:=ztp f _ _ _ h2;obtain ⟨_,rfl⟩:=vbc (vai h);omega
     . obtain ⟨_,rfl⟩:=vbc (vai h)
       omega
theorem z08:∀ (f:Nat) (l l':List Tk) (x:Ex),zhe f l=some (x,l')->l'.length<l.length
 | 0,_,_,_,h=>by simp [zhe] at h
 | f + 1,l,l',x,h=>by
   unfold zhe at h
   split at h
   . cases h
   . rename_i a l1 h1
     have:=zdc f _ _ _ h1
     split at h
     . cases h
     . rename_i k hk
       have:=zkj (zyc hk)
       split at h
       . cases h
       . rename_i b l2 h2
         have:=zdc f _ _ _ h2
         split at h
         . rename_i B7
           have:=za0 (by decide) B7;obtain ⟨_,rfl⟩:=vbc (vai h);omega
         . cases h
theorem ztp:∀ (f:Nat) (l l':List Tk) (x:List Ex),zew f l=some (x,l')->l'.length<l.length
 | 0,_,_,_,h=>by simp [zew] at h
 | f + 1,l,l',x,h=>by
   unfold zew at h
   split at h
   . rename_i hs
     obtain ⟨_,rfl⟩:=vbc (vai h);exact za0 (by decide) hs
   split at h
   . cases h
   . rename_i y l1 h1
     have:=zdc f _ _ _ h1;have:=ztq f _ _ _ _ h;omega
theorem ztq:∀ (f:Nat) (A7:List Ex) (l l':List Tk) (x:List Ex),zh7 f A7 l=some (x,l')->l'.length<l.length
 | 0,_,_,_,_,h=>by simp [zh7] at h
 | f + 1,A7,l,l',x,h=>by
   unfold zh7 at h
   split at h
   . rename_i hs
     have:=za0 (by decide) hs
     split at h
     . cases h
     . rename_i y l1 h1
       have:=zdc f _ _ _ h1;have:=ztq f _ _ _ _ h;omega
   split at h
   . rename_i hs
     obtain ⟨_,rfl⟩:=vbc (vai h);exact za0 (by decide) hs
   . cases h
end
def pX (l:List Tk):Option (Ex × List Tk):=zbo (3*l.length+8) l
def pAs (l:List Tk):Option (List Ex × List Tk):=zew (3*l.length+8) l
theorem zn3 {l l':List Tk} {x:Ex} (h:pX l=some (x,l')):l'.length<l.length:=zdc _ _ _ _ h
theorem z6g {l l':List Tk} {x:List Ex} (h:pAs l=some (x,l')):l'.length<l.length:=ztp _ _ _ _ h
def zbu (l:List Tk):Option (St × List Tk):=
 match zzo l with
 | none=>none
 | some ((m,n),l1)=>
   if skB l1 tEq then (match pX l1.tail with | none=>none | some (x,l2)=>some (.mk 1 m n [x] [] [],l2))
   else if skB l1 tLs then (match pX l1.tail with
    | none=>none
    | some (x,l2)=>if skB l2 tRs then (if skB l2.tail tEq then (match pX l2.tail.tail with | none=>none | some (y,l3)=>some (.mk 2 m n [x,y] [] [],l3)) else none) else none)
   else if skB l1 tLp then (match pAs l1.tail with | none=>none | some (xs,l2)=>some (.mk 3 m n xs [] [],l2))
   else none
def zee (r:Option (St × List Tk)):Option (St × List Tk):=match r with | none=>none | some (s,l)=>if skB l zrr then some (s,l.tail) else none
mutual
def zcy:Nat->List Tk->Option (St × List Tk)
 | 0,_=>none
 | f+1,l=>
   if skB l tIf then (match pX l.tail with
    | none=>none
    | some (x,l1)=>match zb1 f l1 with
      | none=>none
      | some (b,l2)=>if skB l2 zrq then (match zb1 f l2.tail with | none=>none | some (o,l3)=>if o.length=0 then none else some (.mk 4 ⟨#[]⟩ ⟨#[]⟩ [x] b o,l3))
        else some (.mk 4 ⟨#[]⟩ ⟨#[]⟩ [x] b [],l2))
   else if skB l zgm then (match pX l.tail with
    | none=>none
    | some (x,l1)=>match zb1 f l1 with | none=>none | some (b,l2)=>some (.mk 5 ⟨#[]⟩ ⟨#[]⟩ [x] b [],l2))
   else if skB l ze9 then zee (match pX l.tail with | none=>none | some (x,l1)=>some (.mk 6 ⟨#[]⟩ ⟨#[]⟩ [x] [] [],l1))
   else if skB l z2o then zee (match pX l.tail with | none=>none | some (x,l1)=>some (.mk 7 ⟨#[]⟩ ⟨#[]⟩ [x] [] [],l1))
   else zee (zbu l)
def zb1:Nat->List Tk->Option (List St × List Tk)
 | 0,_=>none
 | f+1,l=>if skB l tLb then zfj f [] l.tail else none
def zfj:Nat->List St->List Tk->Option (List St × List Tk)
 | 0,_,_=>none
 | f+1,A7,l=>
   if skB l tRb then some (A7,l.tail)
   else match zcy f l with | none=>none | some (s,l1)=>zfj f (A7++[s]) l1
end
end Go.Proofs.YtndkhgakfodldaaGreatDoor
