import Derived.Test.YtndkhgakfodldaaGreatDoorLeafc
import Derived.Deep.AppendLies
namespace Go.Proofs.YtndkhgakfodldaaGreatDoor
open Go.RowKit
inductive D where
 | int (n:Int)
 | str (s:ByteArray)
 | bool (b:Bool)
 | list (n:Nat) (ds:List D)
def zgb (w:World) (b off:Nat) (l:List Value):Prop:=∀ j u,l[j]? = some u->w.cell? ⟨b,off+j,none⟩=some u
mutual
def zc7 (w:World) (A:Nat->Prop):D->Value->Prop
 | .int n,v=>v = .int .i64 n/\(Lit.int .i64 n).wf=true
 | .str s,v=>v = .string s/\s.size<=maxLen
 | .bool b,v=>v = .bool b
 | .list n ds,v=>∃ a cap,v = .slice a n cap/\n<=ds.length/\ds.length<=17592186044416/\(n=0\/∃ b off cs,a=some ⟨b,off,none⟩/\A b/\b<w.heap.size/\zgb w b off cs/\zap w A ds cs)
def zap (w:World) (A:Nat->Prop):List D->List Value->Prop
 | [],cs=>cs=[]
 | d :: ds,cs=>∃ v r,cs=v :: r/\zc7 w A d v/\zap w A ds r
end
def zfx (lo:Nat) (w w':World):Prop:=w.heap.size<=w'.heap.size/\∀ k,lo<=k->k<w.heap.size->w'.heap[k]? = w.heap[k]?
theorem zfx.refl (lo:Nat) (w:World):zfx lo w w:=⟨vaa _,fun _ _ _=>rfl⟩
theorem zfx.trans {lo:Nat} {a b c:World} (h:zfx lo a b) (k:zfx lo b c):zfx lo a c:=
 ⟨vbc h.1 k.1,fun i h1 h2=>(k.2 i h1 (vah h2 h.1)).trans (h.2 i h1 h2)⟩
theorem zfx.mono {lo lo':Nat} {w w':World} (h:zfx lo w w') (hl:lo<=lo'):zfx lo' w w':=⟨h.1,fun k h1 h2=>h.2 k (vbc hl h1) h2⟩
theorem zfx.of_below {w w':World} (h:qb w w') (lo:Nat):zfx lo w w':=⟨h.size,fun k _ h2=>h.block k h2⟩
theorem zfx.cell {lo:Nat} {w w':World} (h:zfx lo w w') {b off:Nat} (h1:lo<=b) (h2:b<w.heap.size):w'.cell? (qa b off)=w.cell? (qa b off):=
 vei (w:=w) (h.2 b h1 h2)
theorem zfx.alloc {lo:Nat} {w w':World} (h:zfx lo w w') (o:Obj):zfx lo w (w'.alloc o):=
 h.trans (zfx.of_below ((Below.refl w'.heap.size w').alloc (vaa _) o) lo)
def zad (w:World) (A:Nat->Prop) (w':World) (A':Nat->Prop):Prop:=w.heap.size<=w'.heap.size/\∀ b,b<w.heap.size->A b->A' b/\w'.heap[b]? = w.heap[b]?
theorem zad.refl (w:World) (A:Nat->Prop):zad w A w A:=⟨vaa _,fun _ _ h=>⟨h,rfl⟩⟩
theorem zad.trans {w1 w2 w3:World} {A1 A2 A3:Nat->Prop} (h:zad w1 A1 w2 A2) (k:zad w2 A2 w3 A3):zad w1 A1 w3 A3:=
 ⟨vbc h.1 k.1,fun b hb ha=>⟨(k.2 b (vah hb h.1) (h.2 b hb ha).1).1,(k.2 b (vah hb h.1) (h.2 b hb ha).1).2.trans (h.2 b hb ha).2⟩⟩
theorem zad.of_below {w w':World} (h:qb w w') (A:Nat->Prop):zad w A w' A:=⟨h.size,fun b hb ha=>⟨ha,h.block b hb⟩⟩
theorem zad.alloc {w w':World} {A A':Nat->Prop} (h:zad w A w' A') (o:Obj):zad w A (w'.alloc o) A':=h.trans (zad.of_below ((Below.refl w'.heap.size w').alloc (vaa _) o) A')
theorem zad.lower {w:World} {lo lo':Nat} (h:lo'<=lo):zad w (lo<=·) w (lo'<=·):=⟨vaa _,fun _ _ ha=>⟨vbc h ha,rfl⟩⟩
theorem zgb.moves {A A':Nat->Prop} {w w':World} {b off:Nat} {l:List Value} (h:zgb w b off l) (hs:zad w A w' A') (h1:A b) (h2:b<w.heap.size):zgb w' b off l:=
 fun j u hj=>(vei (w:=w) (hs.2 b h2 h1).2).trans (h j u hj)
mutual
theorem zc7.moves {A A':Nat->Prop} {w w':World} (hs:zad w A w' A'):∀ (d:D) (v:Value),zc7 w A d v->zc7 w' A' d v
 | .int _,_,h=>h
 | .str _,_,h=>h
 | .bool _,_,h=>h
 | .list n ds,v,h=>by
   unfold zc7 at h ⊢;obtain ⟨a,cap,h1,h2,h3,h4⟩:=h;refine ⟨a,cap,h1,h2,h3,?_⟩
   rcases h4 with h4 | ⟨b,off,cs,ha,hl,hb,hc,hx⟩
   . exact Or.inl h4
   . exact Or.inr ⟨b,off,cs,ha,(hs.2 b hb hl).1,vah hb hs.1,hc.moves hs hl hb,zap.moves hs ds cs hx⟩
theorem zap.moves {A A':Nat->Prop} {w w':World} (hs:zad w A w' A'):∀ (l:List D) (cs:List Value),zap w A l cs->zap w' A' l cs
 | [],_,h=>h
 | d :: ds,cs,h=>by
   unfold zap at h ⊢;obtain ⟨v,r,h1,h2,h3⟩:=h;exact ⟨v,r,h1,zc7.moves hs d v h2,zap.moves hs ds r h3⟩
end
theorem zc7.one {w:World} {lo:Nat->Prop}:∀ {d:D} {v:Value},zc7 w lo d v->v.oneCell'=true
 | .int _,_,h=>by unfold zc7 at h;rw [h.1];rfl
 | .str _,_,h=>by unfold zc7 at h;rw [h.1];rfl
 | .bool _,_,h=>by unfold zc7 at h;rw [h];rfl
 | .list _ _,_,h=>by unfold zc7 at h;obtain ⟨a,cap,h,_⟩:=h;rw [h];rfl
theorem zap.one {w:World} {lo:Nat->Prop}:∀ {l:List D} {cs:List Value},zap w lo l cs->∀ u ∈ cs,u.oneCell'=true
 | [],_,h=>by unfold zap at h;rw [h];intro u hu;cases hu
 | d :: ds,cs,h=>by
   unfold zap at h;obtain ⟨v,r,rfl,h2,h3⟩:=h;intro u hu
   rcases vca.1 hu with rfl | hu
   . exact h2.one
   . exact zap.one h3 u hu
theorem zap.len {w:World} {lo:Nat->Prop}:∀ {l:List D} {cs:List Value},zap w lo l cs->cs.length=l.length
 | [],_,h=>by unfold zap at h;rw [h];rfl
 | d :: ds,cs,h=>by
   unfold zap at h;obtain ⟨v,r,rfl,h2,h3⟩:=h;simp [zap.len h3]
theorem zap.nil {w:World} {lo:Nat->Prop}:zap w lo [] []:=by unfold zap;rfl
theorem zap.cons {w:World} {lo:Nat->Prop} {d:D} {ds:List D} {v:Value} {cs:List Value} (h:zc7 w lo d v) (k:zap w lo ds cs):zap w lo (d :: ds) (v :: cs):=by
 unfold zap;exact ⟨v,cs,rfl,h,k⟩
theorem zap.append {w:World} {lo:Nat->Prop}:∀ {l m:List D} {cs es:List Value},zap w lo l cs->zap w lo m es->zap w lo (l++m) (cs++es)
 | [],m,cs,es,h,k=>by unfold zap at h;subst h;exact k
 | d :: ds,m,cs,es,h,k=>by
   unfold zap at h;obtain ⟨v,r,rfl,h2,h3⟩:=h;exact zap.cons h2 (zap.append h3 k)
theorem zap.get {w:World} {lo:Nat->Prop}:∀ {l:List D} {cs:List Value},zap w lo l cs->∀ (j:Nat) (d:D),l[j]? = some d->∃ v,cs[j]? = some v/\zc7 w lo d v
 | [],_,_,j,d,hj=>by simp at hj
 | e :: ds,cs,h,j,d,hj=>by
   unfold zap at h;obtain ⟨v,r,rfl,h2,h3⟩:=h
   cases j with
   | zero=>simp at hj;subst hj;exact ⟨v,rfl,h2⟩
   | succ j=>simpa using zap.get h3 j d (by simpa using hj)
theorem zdl {w:World} {lo:Nat->Prop} {n:Int} (h:(Lit.int .i64 n).wf=true):zc7 w lo (.int n) (qi n):=by unfold zc7;exact ⟨rfl,h⟩
theorem zeu {w:World} {lo:Nat->Prop} {s:ByteArray} (h:s.size<=maxLen):zc7 w lo (.str s) (.string s):=by unfold zc7;exact ⟨rfl,h⟩
theorem z2f {w:World} {lo:Nat->Prop} {b:Bool}:zc7 w lo (.bool b) (.bool b):=by unfold zc7;rfl
theorem zpv {w:World} {lo:Nat->Prop} {a:OA} {cap:Nat}:zc7 w lo (.list 0 []) (.slice a 0 cap):=by unfold zc7;exact ⟨a,cap,rfl,vaa _,by simp,Or.inl rfl⟩
theorem z88 {w:World} {lo:Nat->Prop} {n b off cap:Nat} {ds:List D} {cs:List Value} (h1:n<=ds.length) (h2:ds.length<=17592186044416) (hl:lo b) (hb:b<w.heap.size) (hc:zgb w b off cs) (hx:zap w lo ds cs):zc7 w lo (.list n ds) (.slice (some (qa b off)) n cap):=by
 unfold zc7;exact ⟨_,cap,rfl,h1,h2,Or.inr ⟨b,off,cs,rfl,hl,hb,hc,hx⟩⟩
theorem za3 {w:World} {lo:Nat->Prop} {n:Int} {v:Value} (h:zc7 w lo (.int n) v):v=qi n/\(Lit.int .i64 n).wf=true:=by unfold zc7 at h;exact h
theorem zc8 {w:World} {lo:Nat->Prop} {s:ByteArray} {v:Value} (h:zc7 w lo (.str s) v):v = .string s/\s.size<=maxLen:=by unfold zc7 at h;exact h
theorem zuz {w:World} {lo:Nat->Prop} {b:Bool} {v:Value} (h:zc7 w lo (.bool b) v):v = .bool b:=by unfold zc7 at h;exact h
def DAt (w:World) (lo:Nat->Prop) (a:OA) (n:Nat) (ds:List D):Prop:=n<=ds.length/\ds.length<=17592186044416/\(n=0\/∃ b off cs,a=some (qa b off)/\lo b/\b<w.heap.size/\zgb w b off cs/\zap w lo ds cs)
theorem za0 {w:World} {lo:Nat->Prop} {n:Nat} {ds:List D} {v:Value} (h:zc7 w lo (.list n ds) v):∃ a cap,v = .slice a n cap/\DAt w lo a n ds:=by unfold zc7 at h;exact h
theorem DAt.val {w:World} {lo:Nat->Prop} {n cap:Nat} {a:OA} {ds:List D} (h:DAt w lo a n ds):zc7 w lo (.list n ds) (.slice a n cap):=by unfold zc7;exact ⟨a,cap,rfl,h⟩
theorem DAt.moves {A A':Nat->Prop} {w w':World} {n:Nat} {a:OA} {ds:List D} (h:DAt w A a n ds) (hs:zad w A w' A'):DAt w' A' a n ds:=by
 obtain ⟨h1,h2,h3⟩:=h;refine ⟨h1,h2,?_⟩
 rcases h3 with h4 | ⟨b,off,cs,ha,hl,hb,hc,hx⟩
 . exact Or.inl h4
 . exact Or.inr ⟨b,off,cs,ha,(hs.2 b hb hl).1,vah hb hs.1,hc.moves hs hl hb,zap.moves hs ds cs hx⟩
theorem DAt.later {A:Nat->Prop} {w w':World} {n:Nat} {a:OA} {ds:List D} (h:DAt w A a n ds) (hb:qb w w'):DAt w' A a n ds:=h.moves (zad.of_below hb A)
theorem DAt.bound {A:Nat->Prop} {w:World} {n:Nat} {a:OA} {ds:List D} (h:DAt w A a n ds):n<=17592186044416:=vbc h.1 h.2.1
theorem DAt.cell {A:Nat->Prop} {w:World} {n:Nat} {a:OA} {ds:List D} (h:DAt w A a n ds) (hn:0<n):∃ b off,a=some (qa b off)/\b<w.heap.size/\∀ (j:Nat) (d:D),ds[j]? = some d->∃ v,w.cell? ⟨b,off+j,none⟩=some v/\zc7 w A d v:=by
 rcases h.2.2 with h0 | ⟨b,off,cs,ha,_,hb,hc,hx⟩
 . omega
 . refine ⟨b,off,ha,hb,fun j d hj=>?_⟩
   obtain ⟨v,hv,hd⟩:=hx.get j d hj;exact ⟨v,hc j v hv,hd⟩
inductive Ex where
 | mk (op n:Int) (mod name:ByteArray) (args:List Ex)
def Ex.op:Ex->Int | .mk op _ _ _ _=>op
def Ex.n:Ex->Int | .mk _ n _ _ _=>n
def Ex.mod:Ex->ByteArray | .mk _ _ m _ _=>m
def Ex.name:Ex->ByteArray | .mk _ _ _ m _=>m
def Ex.args:Ex->List Ex | .mk _ _ _ _ l=>l
inductive St where
 | mk (op:Int) (mod name:ByteArray) (args:List Ex) (body other:List St)
def St.op:St->Int | .mk op _ _ _ _ _=>op
def St.mod:St->ByteArray | .mk _ m _ _ _ _=>m
def St.name:St->ByteArray | .mk _ _ m _ _ _=>m
def St.args:St->List Ex | .mk _ _ _ l _ _=>l
def St.body:St->List St | .mk _ _ _ _ l _=>l
def St.other:St->List St | .mk _ _ _ _ _ l=>l
mutual
def Ex.ds:Ex->List D
 | .mk op n mod name args=>[.int op,.int n,.str mod,.str name,.list args.length (zbo args)]
def zbo:List Ex->List D
 | []=>[]
 | x :: r=>x.ds++zbo r
end
mutual
def St.ds:St->List D
 | .mk op mod name args body other=>[.int op,.str mod,.str name,.list args.length (zbo args),.list body.length (zbp body),.list other.length (zbp other)]
def zbp:List St->List D
 | []=>[]
 | x :: r=>x.ds++zbp r
end
theorem Ex.ds_len (x:Ex):x.ds.length=5:=by cases x;unfold Ex.ds;rfl
theorem St.ds_len (x:St):x.ds.length=6:=by cases x;unfold St.ds;rfl
theorem zhf:∀ (l m:List Ex),zbo (l++m)=zbo l++zbo m
 | [],m=>by simp [zbo]
 | x :: r,m=>by simp [zbo,zhf r m]
theorem zhg:∀ (l m:List St),zbp (l++m)=zbp l++zbp m
 | [],m=>by simp [zbp]
 | x :: r,m=>by simp [zbp,zhg r m]
theorem zjz (x:Ex):zbo [x]=x.ds:=by simp [zbo]
theorem zu0 (x:St):zbp [x]=x.ds:=by simp [zbp]
theorem zu1:∀ (l:List Ex) (i:Nat) (h:i<l.length) (j:Nat),j<5->(zbo l)[i*5+j]? = (l[i].ds)[j]?
 | [],i,h,_,_=>by simp at h
 | x :: r,0,_,j,hj=>by
   have:=x.ds_len;simp only [zbo,vbh];rw [vbb (by omega),vbi,vba]
 | x :: r,i+1,h,j,hj=>by
   have:=x.ds_len;simp only [zbo,vbn];rw [vbd (by omega),show (i+1)*5+j - x.ds.length=i*5+j from by omega];exact zu1 r i (by simpa using h) j hj
theorem zu2:∀ (l:List St) (i:Nat) (h:i<l.length) (j:Nat),j<6->(zbp l)[i*6+j]? = (l[i].ds)[j]?
 | [],i,h,_,_=>by simp at h
 | x :: r,0,_,j,hj=>by
   have:=x.ds_len;simp only [zbp,vbh];rw [vbb (by omega),vbi,vba]
 | x :: r,i+1,h,j,hj=>by
   have:=x.ds_len;simp only [zbp,vbn];rw [vbd (by omega),show (i+1)*6+j - x.ds.length=i*6+j from by omega];exact zu2 r i (by simpa using h) j hj
structure ExAt (w:World) (A:Nat->Prop) (b o:Nat) (x:Ex) (aa:OA) (cap:Nat):Prop where
 lt:b<w.heap.size
 c0:w.cell? (qa b o)=some (qi x.op)
 c1:w.cell? ⟨b,o+1,none⟩=some (qi x.n)
 c2:w.cell? ⟨b,o+2,none⟩=some (.string x.mod)
 c3:w.cell? ⟨b,o+3,none⟩=some (.string x.name)
 c4:w.cell? ⟨b,o+4,none⟩=some (.slice aa x.args.length cap)
 args:DAt w A aa x.args.length (zbo x.args)
 wop:(Lit.int .i64 x.op).wf=true
 wn:(Lit.int .i64 x.n).wf=true
 wm:x.mod.size<=maxLen
 wna:x.name.size<=maxLen
structure StAt (w:World) (A:Nat->Prop) (b o:Nat) (x:St) (a1:OA) (c1':Nat) (a2:OA) (c2':Nat) (a3:OA) (c3':Nat):Prop where
 lt:b<w.heap.size
 c0:w.cell? (qa b o)=some (qi x.op)
 c1:w.cell? ⟨b,o+1,none⟩=some (.string x.mod)
 c2:w.cell? ⟨b,o+2,none⟩=some (.string x.name)
 c3:w.cell? ⟨b,o+3,none⟩=some (.slice a1 x.args.length c1')
 c4:w.cell? ⟨b,o+4,none⟩=some (.slice a2 x.body.length c2')
 c5:w.cell? ⟨b,o+5,none⟩=some (.slice a3 x.other.length c3')
 args:DAt w A a1 x.args.length (zbo x.args)
 body:DAt w A a2 x.body.length (zbp x.body)
 other:DAt w A a3 x.other.length (zbp x.other)
 wop:(Lit.int .i64 x.op).wf=true
 wm:x.mod.size<=maxLen
 wna:x.name.size<=maxLen
theorem DAt.ex {w:World} {A:Nat->Prop} {a:OA} {l:List Ex} (h:DAt w A a l.length (zbo l)) (i:Nat) (hi:i<l.length):∃ b off aa cap,a=some (qa b off)/\ExAt w A b (off+i*5) l[i] aa cap:=by
 obtain ⟨b,off,ha,hb,hc⟩:=h.cell (by omega);generalize hx:l[i]=x;obtain ⟨op,n,mod,name,args⟩:=x
 have g:∀ j d,j<5->(Ex.mk op n mod name args).ds[j]? = some d->∃ v,w.cell? ⟨b,off+i*5+j,none⟩=some v/\zc7 w A d v:=fun j d hj hd=>by
  rw [vbj];exact hc (i*5+j) d ((zu1 l i hi j hj).trans (by rw [hx];exact hd))
 obtain ⟨v0,k0,d0⟩:=g 0 (.int op) (by omega) (by simp [Ex.ds]);obtain ⟨v1,k1,d1⟩:=g 1 (.int n) (by omega) (by simp [Ex.ds]);obtain ⟨v2,k2,d2⟩:=g 2 (.str mod) (by omega) (by simp [Ex.ds]);obtain ⟨v3,k3,d3⟩:=g 3 (.str name) (by omega) (by simp [Ex.ds]);obtain ⟨v4,k4,d4⟩:=g 4 (.list args.length (zbo args)) (by omega) (by simp [Ex.ds]);obtain ⟨rfl,w0⟩:=za3 d0;obtain ⟨rfl,w1⟩:=za3 d1;obtain ⟨rfl,w2⟩:=zc8 d2;obtain ⟨rfl,w3⟩:=zc8 d3;obtain ⟨aa,cap,rfl,hA⟩:=za0 d4;exact ⟨b,off,aa,cap,ha,hb,k0,k1,k2,k3,k4,hA,w0,w1,w2,w3⟩
theorem DAt.st {w:World} {A:Nat->Prop} {a:OA} {l:List St} (h:DAt w A a l.length (zbp l)) (i:Nat) (hi:i<l.length):∃ b off a1 c1 a2 c2 a3 c3,a=some (qa b off)/\StAt w A b (off+i*6) l[i] a1 c1 a2 c2 a3 c3:=by
 obtain ⟨b,off,ha,hb,hc⟩:=h.cell (by omega);generalize hx:l[i]=x;obtain ⟨op,mod,name,args,body,other⟩:=x
 have g:∀ j d,j<6->(St.mk op mod name args body other).ds[j]? = some d->∃ v,w.cell? ⟨b,off+i*6+j,none⟩=some v/\zc7 w A d v:=fun j d hj hd=>by
  rw [vbj];exact hc (i*6+j) d ((zu2 l i hi j hj).trans (by rw [hx];exact hd))
 obtain ⟨v0,k0,d0⟩:=g 0 (.int op) (by omega) (by simp [St.ds]);obtain ⟨v1,k1,d1⟩:=g 1 (.str mod) (by omega) (by simp [St.ds]);obtain ⟨v2,k2,d2⟩:=g 2 (.str name) (by omega) (by simp [St.ds]);obtain ⟨v3,k3,d3⟩:=g 3 (.list args.length (zbo args)) (by omega) (by simp [St.ds]);obtain ⟨v4,k4,d4⟩:=g 4 (.list body.length (zbp body)) (by omega) (by simp [St.ds]);obtain ⟨v5,k5,d5⟩:=g 5 (.list other.length (zbp other)) (by omega) (by simp [St.ds]);obtain ⟨rfl,w0⟩:=za3 d0;obtain ⟨rfl,w1⟩:=zc8 d1;obtain ⟨rfl,w2⟩:=zc8 d2;obtain ⟨a1,c1,rfl,h1⟩:=za0 d3;obtain ⟨a2,c2,rfl,h2⟩:=za0 d4;obtain ⟨a3,c3,rfl,h3⟩:=za0 d5;exact ⟨b,off,a1,c1,a2,c2,a3,c3,ha,hb,k0,k1,k2,k3,k4,k5,h1,h2,h3,w0,w1,w2⟩
structure De where
 kind:Int
 name:ByteArray
 pub:Bool
 n:Int
structure Pr where
 name:ByteArray
 pub:Bool
 params:List ByteArray
 locals:List ByteArray
 body:List St
structure Mo where
 name:ByteArray
 uses:List ByteArray
 decls:List De
 procs:List Pr
 main:List St
def De.ds (d:De):List D:=[.int d.kind,.str d.name,.bool d.pub,.int d.n]
def zaj (l:List ByteArray):List D:=l.map .str
def Pr.ds (p:Pr):List D:=[.str p.name,.bool p.pub,.list p.params.length (zaj p.params),.list p.locals.length (zaj p.locals),.list p.body.length (zbp p.body)]
def Mo.ds (m:Mo):List D:=[.str m.name,.list m.uses.length (zaj m.uses),.list m.decls.length (m.decls.flatMap De.ds),.list m.procs.length (m.procs.flatMap Pr.ds),.list m.main.length (zbp m.main)]
def zhz (l:List Pr):List D:=l.flatMap Pr.ds
def zj0 (l:List De):List D:=l.flatMap De.ds
def yay (l:List Mo):List D:=l.flatMap Mo.ds
theorem zck {α:Type} (f:α->List D) (k:Nat) (hf:∀ x,(f x).length=k):∀ (l:List α) (i:Nat) (h:i<l.length) (j:Nat),j<k->(l.flatMap f)[i*k+j]? = (f l[i])[j]?
 | [],i,h,_,_=>by simp at h
 | x :: r,0,_,j,hj=>by
   have:=hf x;simp only [vbf,vbh];rw [vbb (by omega),vbi,vba]
 | x :: r,i+1,h,j,hj=>by
   have:=hf x;have e:(i+1)*k=i*k+k:=Nat.succ_mul i k;simp only [vbf,vbn];rw [vbd (by omega),show (i+1)*k+j - (f x).length=i*k+j from by omega];exact zck f k hf r i (by simpa using h) j hj
structure DeAt (w:World) (b o:Nat) (x:De):Prop where
 lt:b<w.heap.size
 c0:w.cell? (qa b o)=some (qi x.kind)
 c1:w.cell? ⟨b,o+1,none⟩=some (.string x.name)
 c2:w.cell? ⟨b,o+2,none⟩=some (.bool x.pub)
 c3:w.cell? ⟨b,o+3,none⟩=some (qi x.n)
 wk:(Lit.int .i64 x.kind).wf=true
 wn:(Lit.int .i64 x.n).wf=true
 wna:x.name.size<=maxLen
structure PrAt (w:World) (A:Nat->Prop) (b o:Nat) (x:Pr) (a1:OA) (c1':Nat) (a2:OA) (c2':Nat) (a3:OA) (c3':Nat):Prop where
 lt:b<w.heap.size
 c0:w.cell? (qa b o)=some (.string x.name)
 c1:w.cell? ⟨b,o+1,none⟩=some (.bool x.pub)
 c2:w.cell? ⟨b,o+2,none⟩=some (.slice a1 x.params.length c1')
 c3:w.cell? ⟨b,o+3,none⟩=some (.slice a2 x.locals.length c2')
 c4:w.cell? ⟨b,o+4,none⟩=some (.slice a3 x.body.length c3')
 params:DAt w A a1 x.params.length (zaj x.params)
 locals:DAt w A a2 x.locals.length (zaj x.locals)
 body:DAt w A a3 x.body.length (zbp x.body)
 wna:x.name.size<=maxLen
structure MoAt (w:World) (A:Nat->Prop) (m:Mo) (v:Value) (a1:OA) (c1:Nat) (a2:OA) (c2:Nat) (a3:OA) (c3:Nat) (a4:OA) (c4:Nat):Prop where
 val:v = .agg #[.string m.name,.slice a1 m.uses.length c1,.slice a2 m.decls.length c2,.slice a3 m.procs.length c3,.slice a4 m.main.length c4]
 wna:m.name.size<=maxLen
 uses:DAt w A a1 m.uses.length (zaj m.uses)
 decls:DAt w A a2 m.decls.length (zj0 m.decls)
 procs:DAt w A a3 m.procs.length (zhz m.procs)
 main:DAt w A a4 m.main.length (zbp m.main)
theorem MoAt.later {w w':World} {A:Nat->Prop} {m:Mo} {v:Value} {a1 a2 a3 a4:OA} {c1 c2 c3 c4:Nat} (h:MoAt w A m v a1 c1 a2 c2 a3 c3 a4 c4) (hb:qb w w'):MoAt w' A m v a1 c1 a2 c2 a3 c3 a4 c4:=
 ⟨h.val,h.wna,h.uses.later hb,h.decls.later hb,h.procs.later hb,h.main.later hb⟩
theorem DAt.str {w:World} {A:Nat->Prop} {a:OA} {l:List ByteArray} (h:DAt w A a l.length (zaj l)) (i:Nat) (hi:i<l.length):∃ b off,a=some (qa b off)/\b<w.heap.size/\w.cell? ⟨b,off+i,none⟩=some (.string l[i])/\l[i].size<=maxLen:=by
 obtain ⟨b,off,ha,hb,hc⟩:=h.cell (by omega);obtain ⟨v,hv,hd⟩:=hc i (.str l[i]) (by simp [zaj,hi]);obtain ⟨rfl,h2⟩:=zc8 hd;exact ⟨b,off,ha,hb,hv,h2⟩
theorem DAt.de {w:World} {A:Nat->Prop} {a:OA} {l:List De} (h:DAt w A a l.length (zj0 l)) (i:Nat) (hi:i<l.length):∃ b off,a=some (qa b off)/\DeAt w b (off+i*4) l[i]:=by
 obtain ⟨b,off,ha,hb,hc⟩:=h.cell (by omega);generalize hx:l[i]=x;obtain ⟨kind,name,pub,n⟩:=x
 have g:∀ j d,j<4->(De.mk kind name pub n).ds[j]? = some d->∃ v,w.cell? ⟨b,off+i*4+j,none⟩=some v/\zc7 w A d v:=fun j d hj hd=>by
  rw [vbj];exact hc (i*4+j) d ((zck De.ds 4 (fun _=>rfl) l i hi j hj).trans (by rw [hx];exact hd))
 obtain ⟨v0,k0,d0⟩:=g 0 (.int kind) (by omega) (by simp [De.ds]);obtain ⟨v1,k1,d1⟩:=g 1 (.str name) (by omega) (by simp [De.ds]);obtain ⟨v2,k2,d2⟩:=g 2 (.bool pub) (by omega) (by simp [De.ds]);obtain ⟨v3,k3,d3⟩:=g 3 (.int n) (by omega) (by simp [De.ds]);obtain ⟨rfl,w0⟩:=za3 d0;obtain ⟨rfl,w1⟩:=zc8 d1;obtain rfl:=zuz d2;obtain ⟨rfl,w3⟩:=za3 d3;exact ⟨b,off,ha,hb,k0,k1,k2,k3,w0,w3,w1⟩
theorem DAt.pr {w:World} {A:Nat->Prop} {a:OA} {l:List Pr} (h:DAt w A a l.length (zhz l)) (i:Nat) (hi:i<l.length):∃ b off a1 c1 a2 c2 a3 c3,a=some (qa b off)/\PrAt w A b (off+i*5) l[i] a1 c1 a2 c2 a3 c3:=by
 obtain ⟨b,off,ha,hb,hc⟩:=h.cell (by omega);generalize hx:l[i]=x;obtain ⟨name,pub,params,locals,body⟩:=x
 have g:∀ j d,j<5->(Pr.mk name pub params locals body).ds[j]? = some d->∃ v,w.cell? ⟨b,off+i*5+j,none⟩=some v/\zc7 w A d v:=fun j d hj hd=>by
  rw [vbj];exact hc (i*5+j) d ((zck Pr.ds 5 (fun _=>rfl) l i hi j hj).trans (by rw [hx];exact hd))
 obtain ⟨v0,k0,d0⟩:=g 0 (.str name) (by omega) (by simp [Pr.ds]);obtain ⟨v1,k1,d1⟩:=g 1 (.bool pub) (by omega) (by simp [Pr.ds]);obtain ⟨v2,k2,d2⟩:=g 2 (.list params.length (zaj params)) (by omega) (by simp [Pr.ds]);obtain ⟨v3,k3,d3⟩:=g 3 (.list locals.length (zaj locals)) (by omega) (by simp [Pr.ds]);obtain ⟨v4,k4,d4⟩:=g 4 (.list body.length (zbp body)) (by omega) (by simp [Pr.ds]);obtain ⟨rfl,w0⟩:=zc8 d0;obtain rfl:=zuz d1;obtain ⟨a1,c1,rfl,h1⟩:=za0 d2;obtain ⟨a2,c2,rfl,h2⟩:=za0 d3;obtain ⟨a3,c3,rfl,h3⟩:=za0 d4;exact ⟨b,off,a1,c1,a2,c2,a3,c3,ha,hb,k0,k1,k2,k3,k4,h1,h2,h3,w0⟩
theorem DAt.mo {w:World} {A:Nat->Prop} {a:OA} {l:List Mo} (h:DAt w A a l.length (yay l)) (i:Nat) (hi:i<l.length):∃ b off v a1 c1 a2 c2 a3 c3 a4 c4,a=some (qa b off)/\b<w.heap.size/\MoAt w A l[i] v a1 c1 a2 c2 a3 c3 a4 c4/\
 w.cell? ⟨b,off+i*5,none⟩=some (.string l[i].name)/\w.cell? ⟨b,off+i*5+1,none⟩=some (.slice a1 l[i].uses.length c1)/\w.cell? ⟨b,off+i*5+2,none⟩=some (.slice a2 l[i].decls.length c2)/\
 w.cell? ⟨b,off+i*5+3,none⟩=some (.slice a3 l[i].procs.length c3)/\w.cell? ⟨b,off+i*5+4,none⟩=some (.slice a4 l[i].main.length c4):=by
 obtain ⟨b,off,ha,hb,hc⟩:=h.cell (by omega);generalize hx:l[i]=x;obtain ⟨name,uses,decls,procs,main⟩:=x
 have g:∀ j d,j<5->(Mo.mk name uses decls procs main).ds[j]? = some d->∃ v,w.cell? ⟨b,off+i*5+j,none⟩=some v/\zc7 w A d v:=fun j d hj hd=>by
  rw [vbj];exact hc (i*5+j) d ((zck Mo.ds 5 (fun _=>rfl) l i hi j hj).trans (by rw [hx];exact hd))
 obtain ⟨v0,k0,d0⟩:=g 0 (.str name) (by omega) (by simp [Mo.ds]);obtain ⟨v1,k1,d1⟩:=g 1 (.list uses.length (zaj uses)) (by omega) (by simp [Mo.ds]);obtain ⟨v2,k2,d2⟩:=g 2 (.list decls.length (zj0 decls)) (by omega) (by simp [Mo.ds,zj0]);obtain ⟨v3,k3,d3⟩:=g 3 (.list procs.length (zhz procs)) (by omega) (by simp [Mo.ds,zhz]);obtain ⟨v4,k4,d4⟩:=g 4 (.list main.length (zbp main)) (by omega) (by simp [Mo.ds]);obtain ⟨rfl,w0⟩:=zc8 d0;obtain ⟨a1,c1,rfl,h1⟩:=za0 d1;obtain ⟨a2,c2,rfl,h2⟩:=za0 d2;obtain ⟨a3,c3,rfl,h3⟩:=za0 d3;obtain ⟨a4,c4,rfl,h4⟩:=za0 d4;exact ⟨b,off,_,a1,c1,a2,c2,a3,c3,a4,c4,ha,hb,⟨rfl,w0,h1,h2,h3,h4⟩,k0,k1,k2,k3,k4⟩
mutual
def zgl (w:World) (A:Nat->Prop):D->Value->Prop
 | .int n,v=>v = .int .i64 n
 | .str s,v=>v = .string s/\s.size<=maxLen
 | .bool b,v=>v = .bool b
 | .list n ds,v=>∃ a cap,v = .slice a n cap/\(n=0\/∃ b off cs,a=some ⟨b,off,none⟩/\A b/\b<w.heap.size/\zgb w b off cs/\zau w A ds cs)
def zau (w:World) (A:Nat->Prop):List D->List Value->Prop
 | [],cs=>cs=[]
 | d :: ds,cs=>∃ v r,cs=v :: r/\zgl w A d v/\zau w A ds r
end
mutual
theorem zgl.moves {A A':Nat->Prop} {w w':World} (hs:zad w A w' A'):∀ (d:D) (v:Value),zgl w A d v->zgl w' A' d v
 | .int _,_,h=>h
 | .str _,_,h=>h
 | .bool _,_,h=>h
 | .list n ds,v,h=>by
   unfold zgl at h ⊢;obtain ⟨a,cap,h1,h4⟩:=h;refine ⟨a,cap,h1,?_⟩
   rcases h4 with h4 | ⟨b,off,cs,ha,hl,hb,hc,hx⟩
   . exact Or.inl h4
   . exact Or.inr ⟨b,off,cs,ha,(hs.2 b hb hl).1,vah hb hs.1,hc.moves hs hl hb,zau.moves hs ds cs hx⟩
theorem zau.moves {A A':Nat->Prop} {w w':World} (hs:zad w A w' A'):∀ (l:List D) (cs:List Value),zau w A l cs->zau w' A' l cs
 | [],_,h=>h
 | d :: ds,cs,h=>by
   unfold zau at h ⊢;obtain ⟨v,r,h1,h2,h3⟩:=h;exact ⟨v,r,h1,zgl.moves hs d v h2,zau.moves hs ds r h3⟩
end
theorem zgl.one {w:World} {lo:Nat->Prop}:∀ {d:D} {v:Value},zgl w lo d v->v.oneCell'=true
 | .int _,_,h=>by unfold zgl at h;rw [h];rfl
 | .str _,_,h=>by unfold zgl at h;rw [h.1];rfl
 | .bool _,_,h=>by unfold zgl at h;rw [h];rfl
 | .list _ _,_,h=>by unfold zgl at h;obtain ⟨a,cap,h,_⟩:=h;rw [h];rfl
theorem zau.one {w:World} {lo:Nat->Prop}:∀ {l:List D} {cs:List Value},zau w lo l cs->∀ u ∈ cs,u.oneCell'=true
 | [],_,h=>by unfold zau at h;rw [h];intro u hu;cases hu
 | d :: ds,cs,h=>by
   unfold zau at h;obtain ⟨v,r,rfl,h2,h3⟩:=h;intro u hu
   rcases vca.1 hu with rfl | hu
   . exact h2.one
   . exact zau.one h3 u hu
theorem zau.len {w:World} {lo:Nat->Prop}:∀ {l:List D} {cs:List Value},zau w lo l cs->cs.length=l.length
 | [],_,h=>by unfold zau at h;rw [h];rfl
 | d :: ds,cs,h=>by
   unfold zau at h;obtain ⟨v,r,rfl,h2,h3⟩:=h;simp [zau.len h3]
theorem zau.nil {w:World} {lo:Nat->Prop}:zau w lo [] []:=by unfold zau;rfl
theorem zau.cons {w:World} {lo:Nat->Prop} {d:D} {ds:List D} {v:Value} {cs:List Value} (h:zgl w lo d v) (k:zau w lo ds cs):zau w lo (d :: ds) (v :: cs):=by
 unfold zau;exact ⟨v,cs,rfl,h,k⟩
theorem zau.append {w:World} {lo:Nat->Prop}:∀ {l m:List D} {cs es:List Value},zau w lo l cs->zau w lo m es->zau w lo (l++m) (cs++es)
 | [],m,cs,es,h,k=>by unfold zau at h;subst h;exact k
 | d :: ds,m,cs,es,h,k=>by
   unfold zau at h;obtain ⟨v,r,rfl,h2,h3⟩:=h;exact zau.cons h2 (zau.append h3 k)
theorem zau.get {w:World} {lo:Nat->Prop}:∀ {l:List D} {cs:List Value},zau w lo l cs->∀ (j:Nat) (d:D),l[j]? = some d->∃ v,cs[j]? = some v/\zgl w lo d v
 | [],_,_,j,d,hj=>by simp at hj
 | e :: ds,cs,h,j,d,hj=>by
   unfold zau at h;obtain ⟨v,r,rfl,h2,h3⟩:=h
   cases j with
   | zero=>simp at hj;subst hj;exact ⟨v,rfl,h2⟩
   | succ j=>simpa using zau.get h3 j d (by simpa using hj)
theorem zpw {w:World} {lo:Nat->Prop} {n:Int}:zgl w lo (.int n) (qi n):=by unfold zgl;rfl
theorem zw9 {w:World} {lo:Nat->Prop} {s:ByteArray} (h:s.size<=maxLen):zgl w lo (.str s) (.string s):=by unfold zgl;exact ⟨rfl,h⟩
theorem z7t {w:World} {lo:Nat->Prop} {b:Bool}:zgl w lo (.bool b) (.bool b):=by unfold zgl;rfl
theorem zo0 {w:World} {lo:Nat->Prop} {n:Int} {v:Value} (h:zgl w lo (.int n) v):v=qi n:=by unfold zgl at h;exact h
theorem zzm {w:World} {lo:Nat->Prop} {s:ByteArray} {v:Value} (h:zgl w lo (.str s) v):v = .string s/\s.size<=maxLen:=by unfold zgl at h;exact h
def EAt (w:World) (lo:Nat->Prop) (a:OA) (n:Nat) (ds:List D):Prop:=n=0\/∃ b off cs,a=some (qa b off)/\lo b/\b<w.heap.size/\zgb w b off cs/\zau w lo ds cs
theorem EAt.val {w:World} {lo:Nat->Prop} {n cap:Nat} {a:OA} {ds:List D} (h:EAt w lo a n ds):zgl w lo (.list n ds) (.slice a n cap):=by unfold zgl;exact ⟨a,cap,rfl,h⟩
theorem EAt.moves {A A':Nat->Prop} {w w':World} {n:Nat} {a:OA} {ds:List D} (h:EAt w A a n ds) (hs:zad w A w' A'):EAt w' A' a n ds:=by
 rcases h with h4 | ⟨b,off,cs,ha,hl,hb,hc,hx⟩
 . exact Or.inl h4
 . exact Or.inr ⟨b,off,cs,ha,(hs.2 b hb hl).1,vah hb hs.1,hc.moves hs hl hb,zau.moves hs ds cs hx⟩
theorem EAt.of_own {w:World} {A:Nat->Prop} {base n cap:Nat} {a:OA} {e:TypeId} {size:Nat} {ds:List D} {xs:List Value} (h:w.ownsRow base e size (.slice a n cap) n xs) (hl:∀ b,base<=b->A b) (hx:zau w A ds xs):EAt w A a n ds:=by
 rcases h.2 with ⟨h1,h2⟩ | ⟨g,cap',AC,h1,hb,hg,hn,hc,hs,ht⟩
 . exact Or.inl h2
 . injection h1 with h1 _ _
   refine Or.inr ⟨g,0,xs,h1,hl g hb,lt_of_heap hg,fun j u hj=>?_,hx⟩;have:=h.cells (g:=g) (by rw [h1];rfl) j u hj;rw [vba]
   have e:((qa g 0):Addr).add j=(qa g j):=by unfold Addr.add;split<;>simp_all
   rwa [e] at this
mutual
def D.fine:D->Prop
 | .int n=>(Lit.int .i64 n).wf=true
 | .str _=>True
 | .bool _=>True
 | .list n ds=>n<=ds.length/\ds.length<=17592186044416/\D.fines ds
def D.fines:List D->Prop
 | []=>True
 | d :: ds=>d.fine/\D.fines ds
end
mutual
theorem zgl.toD {A:Nat->Prop} {w:World}:∀ (d:D) (v:Value),zgl w A d v->d.fine->zc7 w A d v
 | .int _,_,h,k=>by unfold zgl at h;unfold D.fine at k;unfold zc7;exact ⟨h,k⟩
 | .str _,_,h,_=>by unfold zgl at h;unfold zc7;exact h
 | .bool _,_,h,_=>by unfold zgl at h;unfold zc7;exact h
 | .list n ds,v,h,k=>by
   unfold zgl at h;unfold D.fine at k;unfold zc7;obtain ⟨a,cap,h1,h4⟩:=h;refine ⟨a,cap,h1,k.1,k.2.1,?_⟩
   rcases h4 with h4 | ⟨b,off,cs,ha,hl,hb,hc,hx⟩
   . exact Or.inl h4
   . exact Or.inr ⟨b,off,cs,ha,hl,hb,hc,zau.toD ds cs hx k.2.2⟩
theorem zau.toD {A:Nat->Prop} {w:World}:∀ (l:List D) (cs:List Value),zau w A l cs->D.fines l->zap w A l cs
 | [],_,h,_=>by unfold zau at h;unfold zap;exact h
 | d :: ds,cs,h,k=>by
   unfold zau at h;unfold D.fines at k;unfold zap;obtain ⟨v,r,h1,h2,h3⟩:=h;exact ⟨v,r,h1,zgl.toD d v h2 k.1,zau.toD ds r h3 k.2⟩
end
theorem EAt.toD {A:Nat->Prop} {w:World} {a:OA} {n:Nat} {ds:List D} (h:EAt w A a n ds) (h1:n<=ds.length) (h2:ds.length<=17592186044416) (k:D.fines ds):DAt w A a n ds:=by
 refine ⟨h1,h2,?_⟩
 rcases h with h | ⟨b,off,cs,ha,hl,hb,hc,hx⟩
 . exact Or.inl h
 . exact Or.inr ⟨b,off,cs,ha,hl,hb,hc,hx.toD _ _ k⟩
theorem D.fines_append:∀ {l m:List D},D.fines l->D.fines m->D.fines (l++m)
 | [],_,_,k=>k
 | d :: ds,m,h,k=>by
   unfold D.fines at h;show D.fines (d :: (ds++m));unfold D.fines;exact ⟨h.1,D.fines_append h.2 k⟩
inductive Nd where
 | mk (op n m at_:Int) (args:List Nd)
def Nd.op:Nd->Int | .mk op _ _ _ _=>op
def Nd.n:Nd->Int | .mk _ n _ _ _=>n
def Nd.m:Nd->Int | .mk _ _ m _ _=>m
def Nd.at_:Nd->Int | .mk _ _ _ a _=>a
def Nd.args:Nd->List Nd | .mk _ _ _ _ l=>l
inductive Ac where
 | mk (op n m at_:Int) (args:List Nd) (body other:List Ac)
def Ac.op:Ac->Int | .mk op _ _ _ _ _ _=>op
def Ac.n:Ac->Int | .mk _ n _ _ _ _ _=>n
def Ac.m:Ac->Int | .mk _ _ m _ _ _ _=>m
def Ac.at_:Ac->Int | .mk _ _ _ a _ _ _=>a
def Ac.args:Ac->List Nd | .mk _ _ _ _ l _ _=>l
def Ac.body:Ac->List Ac | .mk _ _ _ _ _ l _=>l
def Ac.other:Ac->List Ac | .mk _ _ _ _ _ _ l=>l
mutual
def Nd.ds:Nd->List D
 | .mk op n m a args=>[.int op,.int n,.int m,.int a,.list args.length (zdg args)]
def zdg:List Nd->List D
 | []=>[]
 | x :: r=>x.ds++zdg r
end
mutual
def Ac.ds:Ac->List D
 | .mk op n m a args body other=>[.int op,.int n,.int m,.int a,.list args.length (zdg args),.list body.length (zdm body),.list other.length (zdm other)]
def zdm:List Ac->List D
 | []=>[]
 | x :: r=>x.ds++zdm r
end
theorem Nd.ds_len (x:Nd):x.ds.length=5:=by cases x;unfold Nd.ds;rfl
theorem Ac.ds_len (x:Ac):x.ds.length=7:=by cases x;unfold Ac.ds;rfl
theorem zk5:∀ (l m:List Nd),zdg (l++m)=zdg l++zdg m
 | [],m=>by simp [zdg]
 | x :: r,m=>by simp [zdg,zk5 r m]
theorem zk6:∀ (l m:List Ac),zdm (l++m)=zdm l++zdm m
 | [],m=>by simp [zdm]
 | x :: r,m=>by simp [zdm,zk6 r m]
theorem z2g (x:Nd):zdg [x]=x.ds:=by simp [zdg]
theorem z2h (x:Ac):zdm [x]=x.ds:=by simp [zdm]
structure Pt where
 params:Int
 locals:Int
 body:List Ac
def Pt.ds (p:Pt):List D:=[.int p.params,.int p.locals,.list p.body.length (zdm p.body)]
def zk7 (l:List Pt):List D:=l.flatMap Pt.ds
structure Un where
 name:ByteArray
 uses:List ByteArray
 data:Int
 parts:List Pt
 main:List Ac
structure Mg where
 kind:Int
 n:Int
 m:Int
 at_:Int
def mg0:Mg:=⟨0,0,0,0⟩
abbrev Kn:=ByteArray->ByteArray->Option Mg
abbrev Lc:=ByteArray->Option Int
def z7u (K:Kn) (L:Lc) (mod name:ByteArray):Option Mg:=
 if mod.size=0 then (match L name with | some a=>some ⟨0,0,0,a⟩ | none=>K mod name) else K mod name
def findM (K:Kn) (L:Lc) (mod name:ByteArray) (ks:List Int):Mg × Int:=
 match z7u K L mod name with
 | none=>(mg0,5)
 | some x=>if ks.contains x.kind then (x,0) else (mg0,7)
def ziq (K:Kn) (L:Lc) (mod name:ByteArray) (Bg:Int):Mg × Int:=
 if (findM K L mod name [4]).2=0/\(findM K L mod name [4]).1.n≠Bg then (mg0,8) else findM K L mod name [4]
structure Al where
 op:Int
 n:Int
 m:Int
 at_:Int
 err:Int
def z6u (K:Kn) (L:Lc) (mod name:ByteArray):Al:=
 if (findM K L mod name [0,1,2]).2≠0 then ⟨0,0,0,0,(findM K L mod name [0,1,2]).2⟩
 else if (findM K L mod name [0,1,2]).1.kind=1 then ⟨1,(findM K L mod name [0,1,2]).1.n,0,0,0⟩
 else if (findM K L mod name [0,1,2]).1.kind=2 then ⟨3,0,(findM K L mod name [0,1,2]).1.m,(findM K L mod name [0,1,2]).1.at_,0⟩
 else ⟨16,0,0,(findM K L mod name [0,1,2]).1.at_,0⟩
def ndM (K:Kn) (L:Lc) (x:Ex):Al:=
 if x.op=3 then z6u K L x.mod x.name
 else if x.op=4 then ⟨4,(findM K L x.mod x.name [3]).1.n,(findM K L x.mod x.name [3]).1.m,(findM K L x.mod x.name [3]).1.at_,(findM K L x.mod x.name [3]).2⟩
 else if x.op=5 then ⟨5,0,(ziq K L x.mod x.name x.args.length).1.m,(ziq K L x.mod x.name x.args.length).1.at_,(ziq K L x.mod x.name x.args.length).2⟩
 else ⟨x.op,x.n,0,0,0⟩
def acM (K:Kn) (L:Lc) (s:St):Al:=
 if s.op=1 then ⟨1,0,if (findM K L s.mod s.name [0,2]).1.kind=0 then -1 else (findM K L s.mod s.name [0,2]).1.m,(findM K L s.mod s.name [0,2]).1.at_,(findM K L s.mod s.name [0,2]).2⟩
 else if s.op=2 then ⟨2,(findM K L s.mod s.name [3]).1.n,(findM K L s.mod s.name [3]).1.m,(findM K L s.mod s.name [3]).1.at_,(findM K L s.mod s.name [3]).2⟩
 else if s.op=3 then ⟨3,0,(ziq K L s.mod s.name s.args.length).1.m,(ziq K L s.mod s.name s.args.length).1.at_,(ziq K L s.mod s.name s.args.length).2⟩
 else ⟨s.op,0,0,0,0⟩
def zc9 {α β:Type}:Except Int α->(α->Except Int β)->Except Int β
 | .error e,_=>.error e
 | .ok a,f=>f a
def alE (a:Al):Except Int Al:=if a.err=0 then .ok a else .error a.err
mutual
def rsE (K:Kn) (L:Lc):Ex->Except Int Nd
 | .mk op n mod name args=>zc9 (alE (ndM K L (.mk op n mod name args))) fun h=>zc9 (zgt K L args) fun l=>.ok (.mk h.op h.n h.m h.at_ l)
def zgt (K:Kn) (L:Lc):List Ex->Except Int (List Nd)
 | []=>.ok []
 | x :: r=>zc9 (rsE K L x) fun y=>zc9 (zgt K L r) fun l=>.ok (y :: l)
end
mutual
def rsS (K:Kn) (L:Lc):St->Except Int Ac
 | .mk op mod name args body other=>zc9 (alE (acM K L (.mk op mod name args body other))) fun h=>zc9 (zgt K L args) fun l=>zc9 (zfo K L body) fun b=>zc9 (zfo K L other) fun o=>.ok (.mk h.op h.n h.m h.at_ l b o)
def zfo (K:Kn) (L:Lc):List St->Except Int (List Ac)
 | []=>.ok []
 | x :: r=>zc9 (rsS K L x) fun y=>zc9 (zfo K L r) fun l=>.ok (y :: l)
end
theorem zo1 {α:Type} (x:Except Int α):zc9 x .ok=x:=by cases x<;>rfl
theorem zo2 (K:Kn) (L:Lc):∀ (a b:List Ex) (A5:List Nd),zgt K L a = .ok A5->zgt K L (a++b)=zc9 (zgt K L b) fun l=>.ok (A5++l)
 | [],b,A5,h=>by
   rw [zgt] at h;obtain rfl:=vdb h;show zgt K L b=_;exact (zo1 _).symm
 | x :: a,b,A5,h=>by
   rw [zgt] at h;show zgt K L (x :: (a++b))=_;rw [zgt]
   cases hx:rsE K L x with
   | error e=>rw [hx] at h;cases h
   | ok y=>
     rw [hx] at h;simp only [zc9] at h ⊢
     cases ha:zgt K L a with
     | error e=>rw [ha] at h;cases h
     | ok l=>
       rw [ha] at h;obtain rfl:=vdb h;rw [zo2 K L a b l ha]
       cases zgt K L b<;>rfl
theorem zo3 (K:Kn) (L:Lc):∀ (a b:List St) (A5:List Ac),zfo K L a = .ok A5->zfo K L (a++b)=zc9 (zfo K L b) fun l=>.ok (A5++l)
 | [],b,A5,h=>by
   rw [zfo] at h;obtain rfl:=vdb h;show zfo K L b=_;exact (zo1 _).symm
 | x :: a,b,A5,h=>by
   rw [zfo] at h;show zfo K L (x :: (a++b))=_;rw [zfo]
   cases hx:rsS K L x with
   | error e=>rw [hx] at h;cases h
   | ok y=>
     rw [hx] at h;simp only [zc9] at h ⊢
     cases ha:zfo K L a with
     | error e=>rw [ha] at h;cases h
     | ok l=>
       rw [ha] at h;obtain rfl:=vdb h;rw [zo3 K L a b l ha]
       cases zfo K L b<;>rfl
theorem zo4 {α:Type} (l:List α) (j:Nat) (h:j<l.length):l=l.take j++l[j] :: l.drop (j+1):=by
 rw [List.getElem_cons_drop,vco]
theorem z2i {K:Kn} {L:Lc} {l:List Ex} {j:Nat} {A5:List Nd} {e:Int} (h:j<l.length) (ha:zgt K L (l.take j) = .ok A5) (he:rsE K L l[j] = .error e):zgt K L l = .error e:=by
 rw [zo4 l j h,zo2 K L _ _ A5 ha,zgt,he];rfl
theorem zzn {K:Kn} {L:Lc} {l:List Ex} {j:Nat} {A5:List Nd} {y:Nd} (h:j<l.length) (ha:zgt K L (l.take j) = .ok A5) (he:rsE K L l[j] = .ok y):zgt K L (l.take (j+1)) = .ok (A5++[y]):=by
 rw [vaf h,zo2 K L _ _ A5 ha,zgt,he];rfl
theorem z2j {K:Kn} {L:Lc} {l:List St} {j:Nat} {A5:List Ac} {e:Int} (h:j<l.length) (ha:zfo K L (l.take j) = .ok A5) (he:rsS K L l[j] = .error e):zfo K L l = .error e:=by
 rw [zo4 l j h,zo3 K L _ _ A5 ha,zfo,he];rfl
theorem zzo {K:Kn} {L:Lc} {l:List St} {j:Nat} {A5:List Ac} {y:Ac} (h:j<l.length) (ha:zfo K L (l.take j) = .ok A5) (he:rsS K L l[j] = .ok y):zfo K L (l.take (j+1)) = .ok (A5++[y]):=by
 rw [vaf h,zo3 K L _ _ A5 ha,zfo,he];rfl
theorem zzp (K:Kn) (L:Lc) (x:Ex):rsE K L x=zc9 (alE (ndM K L x)) fun h=>zc9 (zgt K L x.args) fun l=>.ok (.mk h.op h.n h.m h.at_ l):=by
 obtain ⟨op,n,mod,name,args⟩:=x;rw [rsE];rfl
theorem zqy (K:Kn) (L:Lc) (x:St):rsS K L x=zc9 (alE (acM K L x)) fun h=>zc9 (zgt K L x.args) fun l=>zc9 (zfo K L x.body) fun b=>zc9 (zfo K L x.other) fun o=>.ok (.mk h.op h.n h.m h.at_ l b o):=by
 obtain ⟨op,mod,name,args,body,other⟩:=x;rw [rsS];rfl
structure Sh where
 named:Bool
 number:Bool
 least:Int
 most:Int
 body:Bool
 other:Bool
def Sh.val (s:Sh):Value:=.agg #[.bool s.named,.bool s.number,qi s.least,qi s.most,.bool s.body,.bool s.other]
def sh0:Sh:=⟨false,false,0,0,false,false⟩
def zir (op:Int):Option Sh:=
 if op=1 then some ⟨false,true,0,0,false,false⟩ else if op=2 then some sh0 else if op=3 then some ⟨true,false,0,0,false,false⟩
 else if op=4 then some ⟨true,false,1,1,false,false⟩ else if op=5 then some ⟨true,false,0,3,false,false⟩ else if op=6 then some ⟨false,false,1,1,false,false⟩
 else if 7<=op/\op<=15 then some ⟨false,false,2,2,false,false⟩ else none
def zl1 (op:Int):Option Sh:=
 if op=1 then some ⟨true,false,1,1,false,false⟩ else if op=2 then some ⟨true,false,2,2,false,false⟩ else if op=3 then some ⟨true,false,0,3,false,false⟩
 else if op=4 then some ⟨false,false,1,1,true,true⟩ else if op=5 then some ⟨false,false,1,1,true,false⟩ else if op=6 then some ⟨false,false,1,1,false,false⟩
 else if op=7 then some ⟨false,false,1,1,false,false⟩ else none
def exB (op:Int):Bool:=(zir op).isSome
def stB (op:Int):Bool:=(zl1 op).isSome
def exS (op:Int):Sh:=(zir op).getD sh0
def stS (op:Int):Sh:=(zl1 op).getD sh0
def kept:List (L8):=[[109,111,100,117,108,101],[117,115,101],[112,117,98],[99,111,110,115,116],[118,97,114],[97,114,114,97,121],[112,114,111,99],[108,111,99,97,108],[109,97,105,110],
 [105,102],[101,108,115,101],[119,104,105,108,101],[114,101,116,117,114,110],[111,117,116],[105,110]]
def zqz (s:ByteArray):Bool:=kept.contains s.data.toList
def nameOk (s:ByteArray):Bool:=!zqz s&&Lx.zby s.data.toList
def numOkB (n:Int):Bool:=decide (0<=n)&&decide (n<=1099511627775)
def zcy (h:Sh) (mod name:ByteArray):Bool:=if h.named then nameOk name&&(decide (mod.size=0)||nameOk mod) else decide (mod.size=0)&&decide (name.size=0)
def nOk (h:Sh) (n:Int):Bool:=if h.number then numOkB n else decide (n=0)
def zbb (h:Sh) (k:Nat):Bool:=decide (h.least<=(k:Int))&&decide ((k:Int)<=h.most)
def zbc:Nat->List Ex->Bool
 | 0,_=>true
 | k+1,l=>l.all (fun x=>exB x.op&&zbc k x.args)
def zas:Nat->List St->Bool
 | 0,_=>true
 | k+1,l=>l.all (fun s=>stB s.op&&(zbc 6 s.args&&(zas k s.body&&zas k s.other)))
def zan:Nat->List Ex->Bool
 | 0,l=>decide (0<l.length)
 | k+1,l=>decide (3<l.length)||l.any (fun x=>zan k x.args)
def zaf:Nat->List St->Bool
 | 0,_=>true
 | k+1,l=>decide (10<l.length)||l.any (fun s=>zan 6 s.args||(((stS s.op).body||decide (0<s.body.length))&&zaf k s.body||(decide (0<s.other.length)&&zaf k s.other)))
def zbh:Nat->List Ex->Bool
 | 0,_=>true
 | k+1,l=>l.all (fun x=>zcy (exS x.op) x.mod x.name&&(nOk (exS x.op) x.n&&(zbb (exS x.op) x.args.length&&zbh k x.args)))
def zat:Nat->List St->Bool
 | 0,_=>true
 | k+1,l=>l.all (fun s=>zcy (stS s.op) s.mod s.name&&(zbb (stS s.op) s.args.length&&(zbh 6 s.args&&(((stS s.op).body||decide (s.body.length=0))&&(((stS s.op).other||decide (s.other.length=0))&&(zat k s.body&&zat k s.other))))))
def zd8 (d:De):Bool:=if d.kind=1 then numOkB d.n else if d.kind=3 then decide (1<=d.n)&&decide (d.n<=32) else decide (d.n=0)
def Mo.bodies (m:Mo):List (List St):=m.procs.map Pr.body++[m.main]
def Mo.kinds (m:Mo):Bool:=m.decls.all (fun d=>decide (1<=d.kind)&&decide (d.kind<=3))&&m.bodies.all (zas 6)
def Mo.many (m:Mo):Bool:=decide (3<m.uses.length)||(decide (10<m.decls.length)||(decide (6<m.procs.length)||(m.procs.any (fun p=>decide (3<p.params.length)||decide (4<p.locals.length))||m.bodies.any (zaf 6))))
def Mo.form (m:Mo):Bool:=nameOk m.name&&(m.uses.all nameOk&&(m.decls.all (fun d=>nameOk d.name&&zd8 d)&&(m.procs.all (fun p=>nameOk p.name&&(p.params.all nameOk&&p.locals.all nameOk))&&m.bodies.all (zat 6))))
def Mo.err (m:Mo):Int:=if m.kinds then (if m.many then 2 else (if m.form then 0 else 1)) else 4
theorem zj1 {α:Type} (ts:List α) (p:α->Bool) (k:Nat) (h:k<ts.length):(ts.take (k+1)).any p=((ts.take k).any p||p ts[k]):=by
 rw [vaf h,List.any_append];simp
theorem zu3 {α:Type} (ts:List α) (p:α->Bool) (k:Nat) (h:k<ts.length) (hp:p ts[k]=true):ts.any p=true:=by
 rw [List.any_eq_true];exact ⟨ts[k],vaj _,hp⟩
theorem zda {α:Type} {ts:List α} {p:α->Bool} {k:Nat} (h:(ts.take k).all p=true) (hk:¬ k<ts.length):ts.all p=true:=by
 rw [vaw (by omega)] at h;exact h
theorem zo5 {α:Type} {ts:List α} {p:α->Bool} {k:Nat} (h:(ts.take k).any p=false) (hk:¬ k<ts.length):ts.any p=false:=by
 rw [vaw (by omega)] at h;exact h
set_option maxRecDepth 100000
set_option maxHeartbeats 1600000
theorem z2k (s:ByteArray):zqz s=((s.toList == [109,111,100,117,108,101])||((s.toList == [117,115,101])||((s.toList == [112,117,98])||((s.toList == [99,111,110,115,116])||((s.toList == [118,97,114])||((s.toList == [97,114,114,97,121])||((s.toList == [112,114,111,99])||((s.toList == [108,111,99,97,108])||((s.toList == [109,97,105,110]) ||
 ((s.toList == [105,102])||((s.toList == [101,108,115,101])||((s.toList == [119,104,105,108,101])||((s.toList == [114,101,116,117,114,110])||((s.toList == [111,117,116])||((s.toList == [105,110])||false))))))))))))))):=by
 unfold zqz kept;rw [vax];simp only [List.contains_cons,List.contains_nil]
theorem znj (s:ByteArray) (w:World) :
 qc 237 #[.string s] w fun e w'=>e = .returned (.bool (zqz s))/\w'=w:=by
 go_enter Tryz.func237,Tryz.ntmps237;go_wp2_with fail
 all_goals go_ret
 all_goals refine ⟨ret_bool ?_,rfl⟩
 all_goals rw [z2k]
 all_goals simp only [*,Bool.true_or,Bool.false_or,Bool.or_true]
 all_goals simp_all only [vcu]
theorem zu4 (w:World) (o:Obj):(w.alloc o).heap[w.heap.size]? = some o:=(MapKept.heap_alloc w o).1
theorem znk (t:Tk) (hk:zea t=true):(zc1 [t] == 0)=t.okB:=by
 unfold zc1;simp only [vcr,veb,hk,Bool.and_true,if_true,vav,vcv]
 cases t.okB<;>rfl
theorem zzq (t:Tk) (w:World) (hs:t.text.size<=maxLen):zc2 (w.alloc (.cells #[qi t.kind,qi t.n,.string t.text] 184)) (some (qa w.heap.size 0)) [t]:=by
 have h:∀ j u,#[Value.int .i64 t.kind,qi t.n,.string t.text][j]? = some u->(w.alloc (.cells #[qi t.kind,qi t.n,.string t.text] 184)).cell? (qa w.heap.size j)=some u:=fun j u hj=>by
  rw [vef (zu4 w _)];exact hj
 refine Or.inr ⟨_,0,rfl,by simp,?_,?_,?_,?_⟩
 . intro i hi
   obtain rfl:i=0:=by simpa using hi
   exact h 0 _ rfl
 . intro i hi
   obtain rfl:i=0:=by simpa using hi
   exact h 1 _ rfl
 . intro i hi
   obtain rfl:i=0:=by simpa using hi
   exact h 2 _ rfl
 . intro i hi
   obtain rfl:i=0:=by simpa using hi
   exact hs
theorem zq0 (t:Tk) (w:World) (hs:t.text.size<=maxLen) (hk:zea t=true) :
 qc 238 #[t.val] w fun e w'=>e = .returned (.bool t.okB)/\qb w w':=by
 have HK:Hid ((zc1 [t] == 0)=t.okB):=znk t hk
 have HC:Hid (∀ (w1:World) (n:Nat),n=w1.heap.size->qc 116 #[.slice (some (qa n 0)) 1 1] (w1.alloc (.cells #[qi t.kind,qi t.n,.string t.text] 184)) fun e w'=>e = .returned (qi (zc1 [t]))/\qb w1 w'):=
  fun w1 n hn=>by
   subst hn;refine (Check_any _ 1 [t] _ (zzq t w1 hs) (by simp)).mono ?_;rintro e w' ⟨rfl,hb⟩;exact ⟨rfl,((Below.refl _ _).alloc (vaa _) _).trans (hb.mono (by simp))⟩
 obtain ⟨K,N,S⟩:=t;simp only [Tk.val] at *;go_enter Tryz.func238,Tryz.ntmps238
 go_wp2_with (go_at_call 116;refine (HC.out _ _ (by simp)).mono ?_;rintro e w' ⟨rfl,hb⟩)
 go_ret;exact ⟨ret_bool HK.out,((Below.refl _ _).alloc (vaa _) _).trans (hb.mono (by simp))⟩
theorem zu5 (s:ByteArray):Tk.okB ⟨1,0,s⟩=Lx.zby s.data.toList:=by simp [Tk.okB]
theorem z5r (n:Int):Tk.okB ⟨2,n,⟨#[]⟩⟩=numOkB n:=by simp [Tk.okB,numOkB,vax]
theorem zdw (s:ByteArray) (w:World) (hs:s.size<=maxLen) :
 qc 186 #[.string s] w fun e w'=>e = .returned (.bool (nameOk s))/\qb w w':=by
 have HC:Hid (∀ w1:World,qc 238 #[.agg #[qi 1,qi 0,.string s]] w1 fun e w'=>e = .returned (.bool (Lx.zby s.data.toList))/\qb w1 w'):=fun w1=>by
  rw [← zu5];exact zq0 ⟨1,0,s⟩ w1 hs rfl
 by_cases hk:zqz s=true
 . have HN:Hid (nameOk s=false):=by show _=_;simp [nameOk,hk]
   go_enter Tryz.func186,Tryz.ntmps186
   go_wp2_with (go_at_call 237;refine (znj s _).mono ?_;rintro e w' ⟨rfl,rfl⟩)
   go_ret;exact ⟨ret_bool (by rw [HN.out]),Below.refl _ _⟩
 . have Fu:zqz s=false:=by simpa using hk
   clear hk
   have HN:Hid (nameOk s=Lx.zby s.data.toList):=by show _=_;simp [nameOk,Fu]
   go_enter Tryz.func186,Tryz.ntmps186
   go_wp2_with (first | (go_at_call 237;refine (znj s _).mono ?_;rintro e w' ⟨rfl,rfl⟩) | (go_at_call 238;refine (HC.out _).mono ?_;rintro e w' ⟨rfl,hb⟩))
   go_ret;exact ⟨ret_bool (by rw [HN.out]),hb⟩
theorem zk8 (n:Int) (w:World) :
 qc 241 #[qi n] w fun e w'=>e = .returned (.bool (numOkB n))/\qb w w':=by
 have HC:Hid (∀ w1:World,qc 238 #[.agg #[qi 2,qi n,.string ⟨#[]⟩]] w1 fun e w'=>e = .returned (.bool (numOkB n))/\qb w1 w'):=fun w1=>by
  rw [← z5r];exact zq0 ⟨2,n,⟨#[]⟩⟩ w1 (vag _) rfl
 go_enter Tryz.func241,Tryz.ntmps241
 go_wp2_with (go_at_call 238;refine (HC.out _).mono ?_;rintro e w' ⟨rfl,hb⟩)
 go_ret;exact ⟨rfl,hb⟩
theorem zis (s:ByteArray):s.toList.isEmpty=decide (s.size=0):=by
 rw [vax];have h:=Lx.zaz s
 cases hl:s.data.toList with
 | nil=>rw [hl] at h;have h':s.size=0:=h.symm;simp [h']
 | cons c r => rw [hl] at h;have h':s.size≠0:=by simp at h;omega
               simp [h']
theorem zi9 (h:Sh) (mod name:ByteArray) (w:World) (h1:mod.size<=maxLen) (h2:name.size<=maxLen) :
 qc 242 #[h.val,.string mod,.string name] w fun e w'=>e = .returned (.bool (zcy h mod name))/\qb w w':=by
 obtain ⟨a,b,c,d,e,f⟩:=h;simp only [Sh.val]
 cases a with
 | false=>
   have HR:Hid (zcy ⟨false,b,c,d,e,f⟩ mod name=(mod.toList.isEmpty&&name.toList.isEmpty)):=by show _=_;simp [zcy,zis]
   cases hm:mod.toList.isEmpty with
   | false=>
     go_enter Tryz.func242,Tryz.ntmps242;go_wp2_with fail;go_ret;exact ⟨ret_bool (by rw [HR.out,hm];rfl),(Below.refl _ _).alloc (vaa _) _⟩
   | true=>
     go_enter Tryz.func242,Tryz.ntmps242;go_wp2_with fail;go_ret;exact ⟨ret_bool (by rw [HR.out,hm];rfl),(Below.refl _ _).alloc (vaa _) _⟩
 | true=>
   have HR:Hid (zcy ⟨true,b,c,d,e,f⟩ mod name=(nameOk name&&(mod.toList.isEmpty||nameOk mod))):=by show _=_;simp [zcy,zis]
   cases hn:nameOk name with
   | false=>
     go_enter Tryz.func242,Tryz.ntmps242
     go_wp2_with (go_at_call 186;refine (zdw name _ h2).mono ?_;rw [hn];rintro e w' ⟨rfl,hb⟩)
     go_ret;exact ⟨ret_bool (by rw [HR.out,hn];rfl),((Below.refl _ _).alloc (vaa _) _).trans (hb.mono (by simp))⟩
   | true=>
     cases hm:mod.toList.isEmpty with
     | true=>
       go_enter Tryz.func242,Tryz.ntmps242
       go_wp2_with (go_at_call 186;refine (zdw name _ h2).mono ?_;rw [hn];rintro e w' ⟨rfl,hb⟩)
       go_ret;exact ⟨ret_bool (by rw [HR.out,hn,hm];rfl),((Below.refl _ _).alloc (vaa _) _).trans (hb.mono (by simp))⟩
     | false=>
       go_enter Tryz.func242,Tryz.ntmps242;go_wp2_with fail;refine (zdw name _ h2).mono ?_;rw [hn];rintro e w1 ⟨rfl,hb⟩;go_wp2_with fail;refine (zdw mod _ h1).mono ?_;rintro e w2 ⟨rfl,Ab⟩;go_wp2_with fail;go_ret;exact ⟨ret_bool (by rw [HR.out,hn,hm];simp),(((Below.refl _ _).alloc (vaa _) _).trans (hb.mono (by simp))).trans (Ab.mono (vbc (by simp) hb.size))⟩
theorem zk9 (h:Sh) (n:Int) (w:World) :
 qc 280 #[h.val,qi n] w fun e w'=>e = .returned (.bool (nOk h n))/\qb w w':=by
 obtain ⟨a,b,c,d,e,f⟩:=h;simp only [Sh.val]
 cases b with
 | false=>
   have HR:Hid (nOk ⟨a,false,c,d,e,f⟩ n=(n == 0)):=by show _=_;rw [vcj];simp [nOk]
   go_enter Tryz.func280,Tryz.ntmps280;go_wp2_with fail;go_ret;exact ⟨ret_bool HR.out.symm,(Below.refl _ _).alloc (vaa _) _⟩
 | true=>
   have HR:Hid (nOk ⟨a,true,c,d,e,f⟩ n=numOkB n):=by show _=_;simp [nOk]
   go_enter Tryz.func280,Tryz.ntmps280
   go_wp2_with (go_at_call 241;refine (zk8 n _).mono ?_;rintro e w' ⟨rfl,hb⟩)
   go_ret;exact ⟨ret_bool HR.out.symm,((Below.refl _ _).alloc (vaa _) _).trans (hb.mono (by simp))⟩
theorem zgz (h:Sh) (aa:OA) (k cap:Nat) (w:World) :
 qc 243 #[h.val,.slice aa k cap] w fun e w'=>e = .returned (.bool (zbb h k))/\qb w w':=by
 obtain ⟨a,b,c,d,e,f⟩:=h;simp only [Sh.val];have HR:Hid (zbb ⟨a,b,c,d,e,f⟩ k=(decide (c<=(k:Int))&&decide ((k:Int)<=d))):=rfl
 by_cases h1:c<=(k:Int)
 . go_enter Tryz.func243,Tryz.ntmps243
   go_wp2_with fail
   all_goals go_ret
   all_goals exact ⟨ret_bool (by rw [HR.out];simp [*]<;>omega),(Below.refl _ _).alloc (vaa _) _⟩
 . go_enter Tryz.func243,Tryz.ntmps243
   go_wp2_with fail
   all_goals go_ret
   all_goals exact ⟨ret_bool (by rw [HR.out];simp [*]<;>omega),(Below.refl _ _).alloc (vaa _) _⟩
theorem zo6 (x:De) (w:World) :
 qc 188 #[.agg #[qi x.kind,.string x.name,.bool x.pub,qi x.n]] w fun e w'=>e = .returned (.bool (zd8 x))/\qb w w':=by
 obtain ⟨K,S,B,N⟩:=x
 by_cases k1:K=1
 . have HR:Hid (zd8 ⟨K,S,B,N⟩=numOkB N):=if_pos k1
   subst k1;go_enter Tryz.func188,Tryz.ntmps188
   go_wp2_with (go_at_call 241;refine (zk8 N _).mono ?_;rintro e w' ⟨rfl,hb⟩)
   go_ret;exact ⟨ret_bool HR.out.symm,((Below.refl _ _).alloc (vaa _) _).trans (hb.mono (by simp))⟩
 . have b1:(K == 1)=false:=beq_eq_false_iff_ne.2 k1
   by_cases k3:K=3
   . have HR:Hid (zd8 ⟨K,S,B,N⟩=(decide (1<=N)&&decide (N<=32))):=(if_neg k1).trans (if_pos k3)
     subst k3;clear k1 b1
     by_cases n1:1<=N
     . go_enter Tryz.func188,Tryz.ntmps188
       go_wp2_with fail
       all_goals go_ret
       all_goals exact ⟨ret_bool (by rw [HR.out];simp [*]<;>omega),(Below.refl _ _).alloc (vaa _) _⟩
     . go_enter Tryz.func188,Tryz.ntmps188
       go_wp2_with fail
       all_goals go_ret
       all_goals exact ⟨ret_bool (by rw [HR.out];simp [*]<;>omega),(Below.refl _ _).alloc (vaa _) _⟩
   . have b3:(K == 3)=false:=beq_eq_false_iff_ne.2 k3
     have HR:Hid (zd8 ⟨K,S,B,N⟩=(N == 0)):=by
      show _=_
      rw [vcj];simp [zd8,k1,k3]
     clear k1 k3;go_enter Tryz.func188,Tryz.ntmps188;go_wp2_with fail
     all_goals go_ret
     all_goals exact ⟨ret_bool (by rw [HR.out]),(Below.refl _ _).alloc (vaa _) _⟩
end Go.Proofs.YtndkhgakfodldaaGreatDoor

namespace Go.Proofs.YtndkhgakfodldaaGreatDoor
set_option maxRecDepth 100000
set_option maxHeartbeats 1600000
open Go.RowKit Go.Maps
def zq1 (v:Value):Option (DataW Value × List MemPlace):=some (.held v,[])
theorem zzr:Keyed Tryz.prog 3:=int_keyed Tryz.underlying3
theorem z38 (w:World):(zeroValue 270).run Tryz.prog w = .ok sh0.val w:=by kernel_rfl
def z2l (D:DataW Value) (f:Int->Option Sh):Prop:=∀ a:Int,has D (.int .i64 a)=(f a).isSome/\D.atKey (.int .i64 a) (.held sh0.val) = .held ((f a).getD sh0).val
def upd (f:Int->Option Sh) (k:Int) (s:Sh):Int->Option Sh:=fun a=>if a=k then some s else f a
theorem z2l.put {D:DataW Value} {f:Int->Option Sh} (h:z2l D f) (hD:IsMap D) (k:Int) (s:Sh):z2l (D.put (.int .i64 k) (.held s.val)) (upd f k s):=by
 intro a
 by_cases e:a=k
 . subst e
   simp only [upd,if_true];exact ⟨has_put_same (k:=.int .i64 a) hD trivial _,atKey_put_same (k:=.int .i64 a) hD trivial _ _⟩
 . simp only [upd,if_neg e]
   have Ak:Lit.int .i64 a≠.int .i64 k:=fun h=>e (by injection h)
   rw [has_put_other Ak,atKey_put_other Ak];exact h a
def zcz (w:World) (b n:Nat) (f:Int->Option Sh):Prop:=∃ D,w.ownsMap Tryz.prog 3 zq1 b n D/\z2l D f
theorem zcz.later {w w':World} {b n:Nat} {f:Int->Option Sh} (h:zcz w b n f) (hb:Below w.heap.size w w'):zcz w' b n f:=by
 obtain ⟨D,h1,h2⟩:=h;have A4:=h1.lt;obtain ⟨es,clock,AY,r⟩:=h1;exact ⟨D,⟨es,clock,(hb.block b A4).trans AY,r⟩,h2⟩
theorem zcz.lt {w:World} {b n:Nat} {f:Int->Option Sh} (h:zcz w b n f):b<w.heap.size:=by obtain ⟨D,h1,_⟩:=h;exact h1.lt
theorem zcz.made (w:World):zcz (w.alloc (.map #[] 0)) w.heap.size 0 (fun _=>none):=
 ⟨.map [],vel w _ _ _,fun _=>⟨rfl,rfl⟩⟩
theorem zcz.look {w:World} {b n:Nat} {f:Int->Option Sh} (h:zcz w b n f) {k:Int} (hk:(Lit.int .i64 k).wf=true) :
 (Instr.lookup 232 (.map (some b)) (.int .i64 k) false).run Tryz.prog w = .ok ((f k).getD sh0).val w:=by
 obtain ⟨D,h1,h2⟩:=h;obtain ⟨v,ps,hrun,hv⟩:=h1.lookup zzr Tryz.underlying232 (z38 w) (zd:=.held sh0.val) (zp:=[]) rfl (keyOf_int_mk Tryz.underlying3 hk);rw [(h2 k).2] at hv;simp only [zq1,vbe,vcz,vcy] at hv;rw [hrun,hv.1]
theorem zcz.look_ok {w:World} {b n:Nat} {f:Int->Option Sh} (h:zcz w b n f) {k:Int} (hk:(Lit.int .i64 k).wf=true) :
 (Instr.lookup 232 (.map (some b)) (.int .i64 k) true).run Tryz.prog w = .ok (.tuple #[((f k).getD sh0).val,.bool (f k).isSome]) w:=by
 obtain ⟨D,h1,h2⟩:=h;obtain ⟨v,ps,hrun,hv⟩:=h1.look_ok zzr Tryz.underlying232 (z38 w) (zd:=.held sh0.val) (zp:=[]) rfl (keyOf_int_mk Tryz.underlying3 hk);rw [(h2 k).2] at hv;simp only [zq1,vbe,vcz,vcy] at hv;rw [hrun,hv.1,(h2 k).1]
theorem zcz.put {w:World} {b n:Nat} {f:Int->Option Sh} (h:zcz w b n f) (hn:n<maxLen) {k:Int} (hk:(Lit.int .i64 k).wf=true) (s:Sh) :
 ∃ w',(Instr.mapUpdate 232 (.map (some b)) (.int .i64 k) s.val).run Tryz.prog w = .ok () w'/\zcz w' b (n+1) (upd f k s)/\w.grownBy w' (some b):=by
 obtain ⟨D,h1,h2⟩:=h;obtain ⟨w',r1,r2,r3⟩:=h1.update zzr Tryz.underlying232 hn (keyOf_int_mk Tryz.underlying3 hk) (val:=s.val) (d:=.held s.val) (ps:=[]) rfl;exact ⟨w',r1,⟨_,r2,h2.put h1.isMap k s⟩,r3⟩
theorem zq2 {ops:Array Oper} {rest:List Oper} {o:Oper} {a:Act} {w:World} {Q:Exit->Act->World->Prop} (hg:o.guard=none) (m x v:Operand) (Br:o.op=Op.insert 232 m x v) {b n:Nat} {f:Int->Option Sh} (hS:zcz w b n f)
 (hm:a.eval m = .map (some b)) (k:Int) (hx:a.eval x = .int .i64 k) (x1 x2:Bool) (x3 x4:Int) (x5 x6:Bool) (hv:a.eval v = .agg #[.bool x1,.bool x2,.int .i64 x3,.int .i64 x4,.bool x5,.bool x6]) (hk:(Lit.int .i64 k).wf=true) (hn:n<maxLen)
 (hK:∀ w',zcz w' b (n+1) (upd f k ⟨x1,x2,x3,x4,x5,x6⟩)->w.grownBy w' (some b)->wpList Tryz.prog ops Q rest (a.put o.dst undef) w'):wpList Tryz.prog ops Q (o :: rest) a w:=by
 refine wpList_plain hg fun K' Mq=>?_
 obtain ⟨w',hrun,r1,r2⟩:=hS.put hn hk ⟨x1,x2,x3,x4,x5,x6⟩;simp only [Sh.val] at hrun;unfold Oper.wp;simp [execOp,Br,hm,hx,hv,hrun,Result.andThen];exact Mq _ _ (hK w' r1 r2)
theorem zzs {ops:Array Oper} {rest:List Oper} {o:Oper} {a:Act} {w:World} {Q:Exit->Act->World->Prop} (hg:o.guard=none) (m x v:Operand) (Br:o.op=Op.mapUpdate 232 m x v) {b n:Nat} {f:Int->Option Sh} (hS:zcz w b n f)
 (hm:a.eval m = .map (some b)) (k:Int) (hx:a.eval x = .int .i64 k) (x1 x2:Bool) (x3 x4:Int) (x5 x6:Bool) (hv:a.eval v = .agg #[.bool x1,.bool x2,.int .i64 x3,.int .i64 x4,.bool x5,.bool x6]) (hk:(Lit.int .i64 k).wf=true) (hn:n<maxLen)
 (hK:∀ w',zcz w' b (n+1) (upd f k ⟨x1,x2,x3,x4,x5,x6⟩)->w.grownBy w' (some b)->wpList Tryz.prog ops Q rest (a.put o.dst undef) w'):wpList Tryz.prog ops Q (o :: rest) a w:=by
 refine wpList_plain hg fun K' Mq=>?_
 obtain ⟨w',hrun,r1,r2⟩:=hS.put hn hk ⟨x1,x2,x3,x4,x5,x6⟩;simp only [Sh.val] at hrun;unfold Oper.wp;simp [execOp,Br,hm,hx,hv,hrun,Result.andThen];exact Mq _ _ (hK w' r1 r2)
def stF:Int->Option Sh:=upd (upd (upd (upd (upd (upd (upd (fun _=>none) 1 ⟨true,false,1,1,false,false⟩) 2 ⟨true,false,2,2,false,false⟩) 3 ⟨true,false,0,3,false,false⟩) 4 ⟨false,false,1,1,true,true⟩) 5 ⟨false,false,1,1,true,false⟩) 6 ⟨false,false,1,1,false,false⟩) 7 ⟨false,false,1,1,false,false⟩
theorem z7v:stF=zl1:=by
 funext a
 unfold stF upd zl1
 repeat' split
 all_goals first | rfl | omega
def z89:Int->Option Sh:=upd (upd (upd (upd (upd (upd (fun _=>none) 1 ⟨false,true,0,0,false,false⟩) 2 ⟨false,false,0,0,false,false⟩) 3 ⟨true,false,0,0,false,false⟩) 4 ⟨true,false,1,1,false,false⟩) 5 ⟨true,false,0,3,false,false⟩) 6 ⟨false,false,1,1,false,false⟩
def exF (k:Nat):Int->Option Sh:=fun a=>if 7<=a/\a<7+(k:Int) then some ⟨false,false,2,2,false,false⟩ else z89 a
theorem z2m:z89=exF 0:=by
 funext a
 unfold exF;rw [if_neg (by omega)]
theorem z2n (k:Nat):upd (exF k) (7+(k:Int)) ⟨false,false,2,2,false,false⟩=exF (k+1):=by
 funext a
 simp only [upd,exF]
 by_cases e:a=7+(k:Int)
 . rw [if_pos e,if_pos (by omega)]
 . rw [if_neg e]
   by_cases h:7<=a/\a<7+(k:Int)
   . rw [if_pos h,if_pos (by omega)]
   . rw [if_neg h,if_neg (by omega)]
theorem z5s:exF 9=zir:=by
 funext a
 unfold exF z89 upd zir
 repeat' split
 all_goals first | rfl | omega
theorem zmd (w:World) :
 Calls Tryz.prog 151 #[] w fun e w'=>∃ b,e = .returned (.map (some b))/\zcz w' b 7 zl1/\Below w.heap.size w w':=by
 have GN:=@run_makeMap Tryz.prog;have hS:=zcz.made w;have hB:Below w.heap.size w (w.alloc (.map #[] 0)):=(Below.refl _ _).alloc (vaa _) _;go_enter Tryz.func151,Tryz.ntmps151
 go_wp2_with (refine zq2 rfl _ _ _ rfl hS rfl _ rfl _ _ _ _ _ _ rfl (by decide) (by decide) ?_;clear hS;intro w1 hS hG;replace hB:=hB.grown hG hB.size (fun j hj=>by cases hj;exact vaa _);clear hG)
 go_ret;refine ⟨_,rfl,?_,hB⟩;rw [← z7v];exact hS
theorem zme (w:World) :
 Calls Tryz.prog 150 #[] w fun e w'=>∃ b,e = .returned (.map (some b))/\zcz w' b 15 zir/\Below w.heap.size w w':=by
 have GN:=@run_makeMap Tryz.prog;have hS:=zcz.made w;have hB:Below w.heap.size w (w.alloc (.map #[] 0)):=(Below.refl _ _).alloc (vaa _) _;go_enter Tryz.func150,Tryz.ntmps150
 go_wp2_with (refine zq2 rfl _ _ _ rfl hS rfl _ rfl _ _ _ _ _ _ rfl (by decide) (by decide) ?_;clear hS;intro w1 hS hG;replace hB:=hB.grown hG hB.size (fun j hj=>by cases hj;exact vaa _);clear hG)
 have OB:zcz w1 w.heap.size 6 (exF 0):=by rw [← z2m];exact hS
 clear hS
 go_loopw [2] (fun i wr=>∃ k:Nat,k<=9/\i = .int .i64 (7+(k:Int))/\zcz wr w.heap.size (6+k) (exF k)/\Below w.heap.size w wr) (fun i _=>16 - (intOf i).toNat)
 case atStart=>exact ⟨0,by omega,rfl,OB,hB⟩
 case round=>
  clear OB hB;obtain ⟨k,hk,rfl,hS,hB⟩:=hrel
  by_cases A4:k<9
  . go_wp2_with (refine zzs rfl _ _ _ rfl hS rfl _ rfl _ _ _ _ _ _ rfl (WalkArith.wf_i64 (by omega)) (by unfold maxLen;omega) ?_;clear hS;intro w2 hS hG;replace hB:=hB.grown hG hB.size (fun j hj=>by cases hj;exact vaa _);clear hG)
    rw [z2n] at hS;go_roundw
    case rel=>exact ⟨k+1,by omega,by go_num,hS,hB⟩
    case measure=>simp [intOf];omega
  . obtain rfl:k=9:=by omega
    go_wp2_with fail;go_ret;refine ⟨_,rfl,?_,hB⟩;rw [← z5s];exact hS
theorem z5t {w w1 w3:World} {o1:Obj} (hb:qb w w1) (h3:Below (w1.alloc o1).heap.size (w1.alloc o1) w3):qb w w3:=by
 have h1:=hb.alloc hb.size o1;exact h1.trans (h3.mono h1.size)
theorem z8i {w w1 w3:World} {o1 o2:Obj} (hb:qb w w1) (h3:Below ((w1.alloc o1).alloc o2).heap.size ((w1.alloc o1).alloc o2) w3):qb w w3:=
 z5t (hb.alloc hb.size o1) h3
theorem thenB {w w1 w3:World} (hb:qb w w1) (h3:qb w1 w3):qb w w3:=hb.trans (h3.mono hb.size)
theorem al1 (w:World) (o:Obj):qb w (w.alloc o):=(Below.refl _ _).alloc (vaa _) _
theorem al2 (w:World) (o1 o2:Obj):qb w ((w.alloc o1).alloc o2):=(al1 w o1).alloc (by simp) _
structure Blk (w:World) (b:Nat) (cs:List Value):Prop where
 lt:b<w.heap.size
 cell:∀ j v,cs[j]? = some v->w.cell? (qa b j)=some v
theorem Blk.later {w w':World} {b:Nat} {cs:List Value} (h:Blk w b cs) (hb:qb w w'):Blk w' b cs:=
 ⟨vah h.lt hb.size,fun j v hj=>(hb.cell (p:=(qa b j)) h.lt).trans (h.cell j v hj)⟩
theorem Blk.new (w:World) (cs:Array Value) (t:TypeId):Blk (w.alloc (.cells cs t)) w.heap.size cs.toList:=
 ⟨by simp,fun j v hj=>by rw [vef (zu4 w _)];simpa using hj⟩
theorem Blk.new1 (w:World) (cs:Array Value) (t:TypeId) (o:Obj):Blk ((w.alloc (.cells cs t)).alloc o) w.heap.size cs.toList:=(Blk.new w cs t).later (al1 _ _)
theorem Blk.new2 (w:World) (cs:Array Value) (t:TypeId) (o:Obj):Blk ((w.alloc o).alloc (.cells cs t)) (w.heap.size+1) cs.toList:=by
 have:=Blk.new (w.alloc o) cs t;simpa using this
theorem Blk.c2 {w:World} {b:Nat} {a0 a1:Value} (h:Blk w b [a0,a1]):w.cell? (qa b 0)=some a0/\w.cell? (qa b 1)=some a1/\b<w.heap.size:=⟨h.cell 0 _ rfl,h.cell 1 _ rfl,h.lt⟩
theorem Blk.c5 {w:World} {b:Nat} {a0 a1 a2 a3 a4:Value} (h:Blk w b [a0,a1,a2,a3,a4]):w.cell? (qa b 0)=some a0/\w.cell? (qa b 1)=some a1/\w.cell? (qa b 2)=some a2/\w.cell? (qa b 3)=some a3/\w.cell? (qa b 4)=some a4/\b<w.heap.size:=
 ⟨h.cell 0 _ rfl,h.cell 1 _ rfl,h.cell 2 _ rfl,h.cell 3 _ rfl,h.cell 4 _ rfl,h.lt⟩
theorem Blk.c6 {w:World} {b:Nat} {a0 a1 a2 a3 a4 a5:Value} (h:Blk w b [a0,a1,a2,a3,a4,a5]):w.cell? (qa b 0)=some a0/\w.cell? (qa b 1)=some a1/\w.cell? (qa b 2)=some a2/\w.cell? (qa b 3)=some a3/\w.cell? (qa b 4)=some a4/\w.cell? (qa b 5)=some a5/\b<w.heap.size:=
 ⟨h.cell 0 _ rfl,h.cell 1 _ rfl,h.cell 2 _ rfl,h.cell 3 _ rfl,h.cell 4 _ rfl,h.cell 5 _ rfl,h.lt⟩
theorem zla (be bs:Nat) (A:Nat->Prop):∀ (k:Nat),k<=6->∀ (l:List Ex) (a:OA) (cap:Nat) (Ad:Int) (w:World),Ad=7 - (k:Int)->DAt w A a l.length (zbo l)->zcz w be 15 zir->
 qc 235 #[.agg #[.map (some be),.map (some bs)],.slice a l.length cap,qi Ad] w fun e w'=>e = .returned (.bool (zbc k l))/\qb w w'
 | 0,_,l,a,cap,Ad,w,hd,_,_=>by
   subst hd
   have HR:Hid (zbc 0 l=true):=by show _=_;simp [zbc]
   go_enter Tryz.func235,Tryz.ntmps235;go_wp2_with fail;go_ret;exact ⟨ret_bool HR.out.symm,(Below.refl _ _).alloc (vaa _) _⟩
 | k + 1, hk,l,a,cap,Ad,w,hd,hD,hS=>by
   have HR:Hid (zbc (k+1) l=l.all (fun x=>exB x.op&&zbc k x.args)):=by show _=_;simp [zbc]
   have BH:=hD.bound
   have C6:1<=Ad:=by omega
   have Jl:Ad<=6:=by omega
   have HI:Hid (∀ (l:List Ex) (a:OA) (cap:Nat) (w:World),DAt w A a l.length (zbo l)->zcz w be 15 zir->
    qc 235 #[.agg #[.map (some be),.map (some bs)],.slice a l.length cap,qi (Ad+1)] w fun e w'=>e = .returned (.bool (zbc k l))/\qb w w'):=
    fun l a cap w h1 h2=>zla be bs A k (by omega) l a cap (Ad+1) w (by omega) h1 h2
   have HD:Hid (DAt w A a l.length (zbo l)):=hD;have HS:Hid (zcz w be 15 zir):=hS;clear hD hS hd;have HB:Hid (Blk (w.alloc (.cells #[.map (some be),.map (some bs)] 235)) w.heap.size [.map (some be),.map (some bs)]):=Blk.new w _ _;go_enter Tryz.func235,Tryz.ntmps235;go_wp2_with fail
   go_loopw [15] (fun i wr=>∃ j:Nat,j<=l.length/\i=qi j/\(l.take j).all (fun x=>exB x.op&&zbc k x.args)=true/\qb w wr/\Blk wr w.heap.size [.map (some be),.map (some bs)]) (fun i _=>l.length - (intOf i).toNat)
   case atStart=>exact ⟨0,vag _,rfl,rfl,al1 _ _,HB.out⟩
   case round=>
    clear HB;obtain ⟨j,hj,rfl,A8,hb,hB⟩:=hrel;have q0:=hB.cell 0 _ rfl;have q1:=hB.cell 1 _ rfl;have qz:=hB.lt;have HB:Hid (Blk wr w.heap.size [.map (some be),.map (some bs)]):=hB;have HA:Hid ((l.take j).all (fun x=>exB x.op&&zbc k x.args)=true):=A8;clear A8 hB
    by_cases A4:j<l.length
    . obtain ⟨b,off,aa,cp,rfl,hx⟩:=(HD.out.later hb).ex j A4
      have Ct:=hx.c0;have Be:=hx.c1;have BU:=hx.c2;have Es:=hx.c3;have FR:=hx.c4;have C4:=hx.lt;have HX:Hid (DAt wr A aa l[j].args.length (zbo l[j].args)):=hx.args;have Bk:=((HS.out.later hb).later (al1 _ (kzE l[j].op l[j].n l[j].mod l[j].name aa l[j].args.length cp))).look_ok hx.wop;simp only [Sh.val] at Bk;clear hx
      cases Br:(zir l[j].op).isSome with
      | false=>
        rw [Br] at Bk;have HF:Hid (l.all (fun x=>exB x.op&&zbc k x.args)=false):=all_not l _ j A4 (by simp [exB,Br]);go_wp2_with fail;go_ret;exact ⟨ret_bool (by rw [HR.out,HF.out]),thenB hb (al2 _ _ _)⟩
      | true=>
        rw [Br] at Bk;go_wp2_with fail;refine (HI.out l[j].args aa cp _ (HX.out.later (al2 _ _ _)) ((HS.out.later hb).later (al2 _ _ _))).mono ?_
        cases hr:zbc k l[j].args with
        | false=>
          have HF:Hid (l.all (fun x=>exB x.op&&zbc k x.args)=false):=all_not l _ j A4 (by simp [hr]);rintro e w3 ⟨rfl,A9⟩;go_wp2_with fail;go_ret;exact ⟨ret_bool (by rw [HR.out,HF.out]),z8i hb A9⟩
        | true=>
          have HT:Hid ((l.take (j+1)).all (fun x=>exB x.op&&zbc k x.args)=true):=by
           show _=_
           rw [all_snoc l _ j A4,HA.out];simp [exB,Br,hr]
          rintro e w3 ⟨rfl,A9⟩;go_wp2_with fail;go_roundw
          case rel=>exact ⟨j+1,by omega,by go_num,HT.out,z8i hb A9,HB.out.later (thenB (al2 _ _ _) A9)⟩
          case measure=>simp [intOf];omega
    . have HT:Hid (l.all (fun x=>exB x.op&&zbc k x.args)=true):=zda HA.out A4
      go_wp2_with fail;go_ret;exact ⟨ret_bool (by rw [HR.out,HT.out]),hb⟩
theorem znl (a:OA) (cap:Nat) (Ad:Int) (w:World) :
 qc 236 #[.slice a 0 cap,qi Ad] w fun e w'=>e = .returned (.bool false)/\qb w w':=by
 go_enter Tryz.func236,Tryz.ntmps236;go_wp2_with fail
 go_loopw [21] (fun i wr=>i=qi 0/\wr=w) (fun _ _=>0)
 case atStart=>exact ⟨rfl,rfl⟩
 case round=>
  obtain ⟨rfl,rfl⟩:=hrel;go_wp2_with fail;go_ret;exact ⟨rfl,Below.refl _ _⟩
theorem zh0 (k:Nat) {l:List Ex} (h:l.length=0):zan k l=false:=by
 have:l=[]:=vak h;subst this
 cases k<;>simp [zan]
theorem znm (A:Nat->Prop):∀ (k:Nat),k<=6->∀ (l:List Ex) (a:OA) (cap:Nat) (Ad:Int) (w:World),Ad=7 - (k:Int)->DAt w A a l.length (zbo l)->
 qc 236 #[.slice a l.length cap,qi Ad] w fun e w'=>e = .returned (.bool (zan k l))/\qb w w'
 | 0,_,l,a,cap,Ad,w,hd,hD=>by
   subst hd;have BH:=hD.bound;clear hD
   by_cases h0:l.length=0
   . rw [zh0 0 h0,h0]
     exact znl a cap _ w
   . have HR:Hid (zan 0 l=true):=by show _=_;simp [zan];omega
     by_cases h3:3<l.length
     . go_enter Tryz.func236,Tryz.ntmps236
       go_wp2_with fail;go_ret;exact ⟨ret_bool HR.out.symm,Below.refl _ _⟩
     . go_enter Tryz.func236,Tryz.ntmps236
       go_wp2_with fail;go_ret;exact ⟨ret_bool HR.out.symm,Below.refl _ _⟩
 | k + 1, hk,l,a,cap,Ad,w,hd,hD=>by
   have HR:Hid (zan (k+1) l=(decide (3<l.length)||l.any (fun x=>zan k x.args))):=by show _=_;simp [zan]
   have BH:=hD.bound
   have C6:1<=Ad:=by omega
   have Jl:Ad<=6:=by omega
   have HI:Hid (∀ (l:List Ex) (a:OA) (cap:Nat) (w:World),DAt w A a l.length (zbo l)->
    qc 236 #[.slice a l.length cap,qi (Ad+1)] w fun e w'=>e = .returned (.bool (zan k l))/\qb w w'):=
    fun l a cap w h1=>znm A k (by omega) l a cap (Ad+1) w (by omega) h1
   have HD:Hid (DAt w A a l.length (zbo l)):=hD;clear hD hd
   by_cases h0:l.length=0
   . rw [zh0 (k+1) h0,h0]
     exact znl a cap _ w
   have Jz:0<l.length:=by omega
   clear h0
   by_cases h3:3<l.length
   . have HT:Hid (zan (k+1) l=true):=by show _=_;rw [HR.out];simp [h3]
     clear C6;go_enter Tryz.func236,Tryz.ntmps236;go_wp2_with fail;go_ret;exact ⟨ret_bool HT.out.symm,Below.refl _ _⟩
   . have HN : Hid (zan (k+1) l=l.any (fun x=>zan k x.args)):=by show _=_;rw [HR.out];simp [h3]
     clear HR;go_enter Tryz.func236,Tryz.ntmps236;go_wp2_with fail
     . go_loopw [21] (fun i wr=>∃ j:Nat,j<=l.length/\i=qi j/\(l.take j).any (fun x=>zan k x.args)=false/\qb w wr) (fun i _=>l.length - (intOf i).toNat)
       case atStart=>exact ⟨0,vag _,rfl,rfl,Below.refl _ _⟩
       case round=>
        obtain ⟨j,hj,rfl,A8,hb⟩:=hrel;have HA:Hid ((l.take j).any (fun x=>zan k x.args)=false):=A8;clear A8
        by_cases A4:j<l.length
        . obtain ⟨b,off,aa,cp,rfl,hx⟩:=(HD.out.later hb).ex j A4
          have Ct:=hx.c0;have Be:=hx.c1;have BU:=hx.c2;have Es:=hx.c3;have FR:=hx.c4;have C4:=hx.lt;have HX:Hid (DAt wr A aa l[j].args.length (zbo l[j].args)):=hx.args;clear hx;go_wp2_with fail;refine (HI.out l[j].args aa cp _ (HX.out.later (al1 _ _))).mono ?_
          cases hr:zan k l[j].args with
          | true=>
            have HF:Hid (l.any (fun x=>zan k x.args)=true):=zu3 l _ j A4 hr;rintro e w3 ⟨rfl,A9⟩;go_wp2_with fail;go_ret;exact ⟨ret_bool (by rw [HN.out,HF.out]),z5t hb A9⟩
          | false=>
            have HT:Hid ((l.take (j+1)).any (fun x=>zan k x.args)=false):=by
             show _=_
             rw [zj1 l _ j A4,HA.out];simp [hr]
            rintro e w3 ⟨rfl,A9⟩;go_wp2_with fail;go_roundw
            case rel=>exact ⟨j+1,by omega,by go_num,HT.out,z5t hb A9⟩
            case measure=>simp [intOf];omega
        . have HT:Hid (l.any (fun x=>zan k x.args)=false):=zo5 HA.out A4
          go_wp2_with fail;go_ret;exact ⟨ret_bool (by rw [HN.out,HT.out]),hb⟩
theorem zs2 {k:Nat} {l:List Ex} (h:zan (k+1) l=false) (j:Nat) (hj:j<l.length):zan k l[j].args=false:=by
 simp only [zan,vat,vbw] at h;have:=h.2 l[j] (vaj hj);simpa using this
theorem zwi (be bs:Nat) (A:Nat->Prop):∀ (k:Nat) (l:List Ex) (a:OA) (cap:Nat) (w:World),DAt w A a l.length (zbo l)->zcz w be 15 zir->zan k l=false->
 qc 244 #[.agg #[.map (some be),.map (some bs)],.slice a l.length cap] w fun e w'=>e = .returned (.bool (zbh k l))/\qb w w':=by
 intro k
 induction k with
 | zero=>
   intro l a cap w hD hS hM
   have h0:l.length=0:=by simp [zan] at hM;simp [hM]
   have HR:Hid (zbh 0 l=true):=by show _=_;simp [zbh]
   rw [h0];go_enter Tryz.func244,Tryz.ntmps244;go_wp2_with fail
   go_loopw [10] (fun i wr=>i=qi 0/\qb w wr) (fun _ _=>0)
   case atStart=>exact ⟨rfl,al1 _ _⟩
   case round=>
    obtain ⟨rfl,hb⟩:=hrel;go_wp2_with fail;go_ret;exact ⟨ret_bool HR.out.symm,hb⟩
 | succ k ih=>
   intro l a cap w hD hS hM
   have HR:Hid (zbh (k+1) l=l.all (fun x=>zcy (exS x.op) x.mod x.name&&(nOk (exS x.op) x.n&&(zbb (exS x.op) x.args.length&&zbh k x.args)))):=by show _=_;simp [zbh]
   have BH:=hD.bound
   have HI:Hid (∀ (l:List Ex) (a:OA) (cap:Nat) (w:World),DAt w A a l.length (zbo l)->zcz w be 15 zir->zan k l=false->
    qc 244 #[.agg #[.map (some be),.map (some bs)],.slice a l.length cap] w fun e w'=>e = .returned (.bool (zbh k l))/\qb w w'):=ih
   have HD:Hid (DAt w A a l.length (zbo l)):=hD;have HS:Hid (zcz w be 15 zir):=hS;have HM:Hid (∀ (j:Nat) (hj:j<l.length),zan k l[j].args=false):=zs2 hM;clear hD hS ih hM;have HB:Hid (Blk (w.alloc (.cells #[.map (some be),.map (some bs)] 235)) w.heap.size [.map (some be),.map (some bs)]):=Blk.new w _ _;go_enter Tryz.func244,Tryz.ntmps244;go_wp2_with fail
   go_loopw [10] (fun i wr=>∃ j:Nat,j<=l.length/\i=qi j/\(l.take j).all (fun x=>zcy (exS x.op) x.mod x.name&&(nOk (exS x.op) x.n&&(zbb (exS x.op) x.args.length&&zbh k x.args)))=true/\qb w wr/\Blk wr w.heap.size [.map (some be),.map (some bs)]) (fun i _=>l.length - (intOf i).toNat)
   case atStart=>exact ⟨0,vag _,rfl,rfl,al1 _ _,HB.out⟩
   case round =>
    clear HB;obtain ⟨j,hj,rfl,A8,hb,hB⟩:=hrel;have q0:=hB.cell 0 _ rfl;have q1:=hB.cell 1 _ rfl;have qz:=hB.lt;have HB:Hid (Blk wr w.heap.size [.map (some be),.map (some bs)]):=hB;have HA:Hid ((l.take j).all (fun x=>zcy (exS x.op) x.mod x.name&&(nOk (exS x.op) x.n&&(zbb (exS x.op) x.args.length&&zbh k x.args)))=true):=A8;clear A8 hB
    by_cases A4:j<l.length
    . obtain ⟨b,off,aa,cp,rfl,hx⟩:=(HD.out.later hb).ex j A4
      have Ct:=hx.c0;have Be:=hx.c1;have BU:=hx.c2;have Es:=hx.c3;have FR:=hx.c4;have C4:=hx.lt;have HX:Hid (ExAt wr A b (off+j*5) l[j] aa cp):=hx
      have HF:Hid (∀ c:Bool,(zcy (exS l[j].op) l[j].mod l[j].name&&(nOk (exS l[j].op) l[j].n&&(zbb (exS l[j].op) l[j].args.length&&zbh k l[j].args)))=false->zbh (k+1) l=false):=fun _ h=>by rw [HR.out];exact all_not l _ j A4 h
      have HT:Hid ((zcy (exS l[j].op) l[j].mod l[j].name&&(nOk (exS l[j].op) l[j].n&&(zbb (exS l[j].op) l[j].args.length&&zbh k l[j].args)))=true->(l.take (j+1)).all (fun x=>zcy (exS x.op) x.mod x.name&&(nOk (exS x.op) x.n&&(zbb (exS x.op) x.args.length&&zbh k x.args)))=true):=fun h=>by
       rw [all_snoc l _ j A4,HA.out,h];rfl
      have Bk:=((HS.out.later hb).later (al1 _ (kzE l[j].op l[j].n l[j].mod l[j].name aa l[j].args.length cp))).look hx.wop;clear hx;have Jb:(Instr.lookup 232 (.map (some be)) (qi l[j].op) false).run Tryz.prog (wr.alloc (kzE l[j].op l[j].n l[j].mod l[j].name aa l[j].args.length cp)) = .ok (exS l[j].op).val (wr.alloc (kzE l[j].op l[j].n l[j].mod l[j].name aa l[j].args.length cp)):=Bk;clear Bk;generalize hs:exS l[j].op=s at Jb HF HT;clear hs;simp only [Sh.val] at Jb;go_wp2_with fail;refine (zi9 s l[j].mod l[j].name _ HX.out.wm HX.out.wna).mono ?_
      cases h1:zcy s l[j].mod l[j].name with
      | false=>
        rintro e w3 ⟨rfl,c3⟩;have A9:qb wr w3:=thenB (al2 _ _ _) c3;clear c3;go_wp2_with fail;go_ret;exact ⟨ret_bool (HF.out true (by simp [h1])).symm,thenB hb A9⟩
      | true=>
        rintro e w3 ⟨rfl,c3⟩;have B0:=(HB.out.later (al2 _ _ _)).later c3;have B1:=(Blk.new1 wr #[qi l[j].op,qi l[j].n,.string l[j].mod,.string l[j].name,.slice aa l[j].args.length cp] 174 _).later c3;have B2:=(Blk.new2 wr #[.bool s.named,.bool s.number,qi s.least,qi s.most,.bool s.body,.bool s.other] 270 _).later c3;have A9:qb wr w3:=thenB (al2 _ _ _) c3;clear c3 q0 q1 qz;obtain ⟨q0,q1,qz⟩:=B0.c2;obtain ⟨x0,x1,x2,x3,x4,xz⟩:=B1.c5;obtain ⟨y0,y1,y2,y3,y4,y5,yz⟩:=B2.c6;have K0:Hid (Blk w3 w.heap.size [.map (some be),.map (some bs)]):=B0;have K1:Hid (Blk w3 wr.heap.size [qi l[j].op,qi l[j].n,.string l[j].mod,.string l[j].name,.slice aa l[j].args.length cp]):=B1;have K2:Hid (Blk w3 (wr.heap.size+1) [.bool s.named,.bool s.number,qi s.least,qi s.most,.bool s.body,.bool s.other]):=B2;clear B0 B1 B2;go_wp2_with fail;refine (zk9 s l[j].n _).mono ?_
        cases h2:nOk s l[j].n with
        | false=>
          rintro e w4 ⟨rfl,c4⟩;have Aj:=thenB A9 c4;clear c4;go_wp2_with fail;go_ret;exact ⟨ret_bool (HF.out true (by simp [h2])).symm,thenB hb Aj⟩
        | true=>
          rintro e w4 ⟨rfl,c4⟩;have B0:=K0.out.later c4;have B1:=K1.out.later c4;have B2:=K2.out.later c4;have Aj:=thenB A9 c4;clear c4 K0 K1 K2;clear q0 q1 qz x0 x1 x2 x3 x4 xz y0 y1 y2 y3 y4 y5 yz;obtain ⟨q0,q1,qz⟩:=B0.c2;obtain ⟨x0,x1,x2,x3,x4,xz⟩:=B1.c5;obtain ⟨y0,y1,y2,y3,y4,y5,yz⟩:=B2.c6;have K0:Hid (Blk w4 w.heap.size [.map (some be),.map (some bs)]):=B0;have K1:Hid (Blk w4 wr.heap.size [qi l[j].op,qi l[j].n,.string l[j].mod,.string l[j].name,.slice aa l[j].args.length cp]):=B1;have K2:Hid (Blk w4 (wr.heap.size+1) [.bool s.named,.bool s.number,qi s.least,qi s.most,.bool s.body,.bool s.other]):=B2;clear B0 B1 B2;go_wp2_with fail;refine (zgz s aa l[j].args.length cp _).mono ?_
          cases h3:zbb s l[j].args.length with
          | false=>
            rintro e w5 ⟨rfl,c5⟩;have As:=thenB Aj c5;clear c5;go_wp2_with fail;go_ret;exact ⟨ret_bool (HF.out true (by simp [h3])).symm,thenB hb As⟩
          | true=>
            rintro e w5 ⟨rfl,c5⟩;have B0:=K0.out.later c5;have B1:=K1.out.later c5;have B2:=K2.out.later c5;have As:=thenB Aj c5;clear c5 K0 K1 K2;clear q0 q1 qz x0 x1 x2 x3 x4 xz y0 y1 y2 y3 y4 y5 yz;obtain ⟨q0,q1,qz⟩:=B0.c2;obtain ⟨x0,x1,x2,x3,x4,xz⟩:=B1.c5;obtain ⟨y0,y1,y2,y3,y4,y5,yz⟩:=B2.c6;have K0:Hid (Blk w5 w.heap.size [.map (some be),.map (some bs)]):=B0;have K1:Hid (Blk w5 wr.heap.size [qi l[j].op,qi l[j].n,.string l[j].mod,.string l[j].name,.slice aa l[j].args.length cp]):=B1;have K2:Hid (Blk w5 (wr.heap.size+1) [.bool s.named,.bool s.number,qi s.least,qi s.most,.bool s.body,.bool s.other]):=B2;clear B0 B1 B2;go_wp2_with fail;refine (HI.out l[j].args aa cp _ (HX.out.args.later As) ((HS.out.later hb).later As) (HM.out j A4)).mono ?_
            cases h4:zbh k l[j].args with
            | false=>
              rintro e w6 ⟨rfl,c6⟩;have AK:=thenB As c6;clear c6;go_wp2_with fail;go_ret;exact ⟨ret_bool (HF.out true (by simp [h4])).symm,thenB hb AK⟩
            | true=>
              rintro e w6 ⟨rfl,c6⟩;have AK:=thenB As c6;have B0:=K0.out.later c6;clear c6;have B6:Hid ((l.take (j+1)).all (fun x=>zcy (exS x.op) x.mod x.name&&(nOk (exS x.op) x.n&&(zbb (exS x.op) x.args.length&&zbh k x.args)))=true):=HT.out (by simp [h1,h2,h3,h4]);go_wp2_with fail;go_roundw
              case rel=>exact ⟨j+1,by omega,by go_num,B6.out,thenB hb AK,B0⟩
              case measure=>simp [intOf];omega
    . have HT:Hid (l.all (fun x=>zcy (exS x.op) x.mod x.name&&(nOk (exS x.op) x.n&&(zbb (exS x.op) x.args.length&&zbh k x.args)))=true):=zda HA.out A4
      go_wp2_with fail;go_ret;exact ⟨ret_bool (by rw [HR.out,HT.out]),hb⟩
set_option maxHeartbeats 3200000
theorem z2o (a0 a1:Bool) (a2 a3:Int) (a4 a5:Bool) (w:World):(Instr.field 270 (.agg #[.bool a0,.bool a1,qi a2,qi a3,.bool a4,.bool a5]) 4).run Tryz.prog w = .ok (.bool a4) w:=by kernel_rfl
theorem zlb (be bs:Nat) (A:Nat->Prop):∀ (k:Nat),k<=6->∀ (l:List St) (a:OA) (cap:Nat) (Ad:Int) (w:World),Ad=7 - (k:Int)->DAt w A a l.length (zbp l)->zcz w be 15 zir->zcz w bs 7 zl1->
 qc 184 #[.agg #[.map (some be),.map (some bs)],.slice a l.length cap,qi Ad] w fun e w'=>e = .returned (.bool (zas k l))/\qb w w'
 | 0,_,l,a,cap,Ad,w,hd,_,_,_=>by
   subst hd
   have HR:Hid (zas 0 l=true):=by show _=_;simp [zas]
   go_enter Tryz.func184,Tryz.ntmps184;go_wp2_with fail;go_ret;exact ⟨ret_bool HR.out.symm,al1 _ _⟩
 | k + 1, hk, l,a,cap,Ad,w,hd,hD,hS,hT=>by
   have HR:Hid (zas (k+1) l=l.all (fun s=>stB s.op&&(zbc 6 s.args&&(zas k s.body&&zas k s.other)))):=by show _=_;simp [zas]
   have BH:=hD.bound
   have C6:1<=Ad:=by omega
   have Jl:Ad<=6:=by omega
   have HI:Hid (∀ (l:List St) (a:OA) (cap:Nat) (w:World),DAt w A a l.length (zbp l)->zcz w be 15 zir->zcz w bs 7 zl1->
    qc 184 #[.agg #[.map (some be),.map (some bs)],.slice a l.length cap,qi (Ad+1)] w fun e w'=>e = .returned (.bool (zas k l))/\qb w w'):=
    fun l a cap w h1 h2 h3=>zlb be bs A k (by omega) l a cap (Ad+1) w (by omega) h1 h2 h3
   have HD:Hid (DAt w A a l.length (zbp l)):=hD;have HS:Hid (zcz w be 15 zir):=hS;have HU:Hid (zcz w bs 7 zl1):=hT;clear hD hS hT hd;have HB:Hid (Blk (w.alloc (.cells #[.map (some be),.map (some bs)] 235)) w.heap.size [.map (some be),.map (some bs)]):=Blk.new w _ _;go_enter Tryz.func184,Tryz.ntmps184;go_wp2_with fail
   go_loopw [15] (fun i wr=>∃ j:Nat,j<=l.length/\i=qi j/\(l.take j).all (fun s=>stB s.op&&(zbc 6 s.args&&(zas k s.body&&zas k s.other)))=true/\qb w wr/\Blk wr w.heap.size [.map (some be),.map (some bs)]) (fun i _=>l.length - (intOf i).toNat)
   case atStart=>exact ⟨0,vag _,rfl,rfl,al1 _ _,HB.out⟩
   case round =>
    clear HB;obtain ⟨j,hj,rfl,A8,hb,hB⟩:=hrel;have q0:=hB.cell 0 _ rfl;have q1:=hB.cell 1 _ rfl;have qz:=hB.lt;have HB:Hid (Blk wr w.heap.size [.map (some be),.map (some bs)]):=hB;have HA:Hid ((l.take j).all (fun s=>stB s.op&&(zbc 6 s.args&&(zas k s.body&&zas k s.other)))=true):=A8;clear A8 hB
    by_cases A4:j<l.length
    . obtain ⟨b,off,a1,p1,a2,p2,a3,p3,rfl,hx⟩:=(HD.out.later hb).st j A4
      have Ct:=hx.c0;have Be:=hx.c1;have BU:=hx.c2;have Es:=hx.c3;have FR:=hx.c4;have Ox:=hx.c5;have C4:=hx.lt;have DM:=hx.args.bound;have DL:=hx.body.bound;have Fq:=hx.other.bound;have HX:Hid (StAt wr A b (off+j*6) l[j] a1 p1 a2 p2 a3 p3):=hx
      have HF:Hid ((stB l[j].op&&(zbc 6 l[j].args&&(zas k l[j].body&&zas k l[j].other)))=false->zas (k+1) l=false):=fun h=>by rw [HR.out];exact all_not l _ j A4 h
      have HT:Hid ((stB l[j].op&&(zbc 6 l[j].args&&(zas k l[j].body&&zas k l[j].other)))=true->(l.take (j+1)).all (fun s=>stB s.op&&(zbc 6 s.args&&(zas k s.body&&zas k s.other)))=true):=fun h=>by rw [all_snoc l _ j A4,HA.out,h];rfl
      have Bk:=((HU.out.later hb).later (al1 _ (kzB l[j].op l[j].mod l[j].name a1 l[j].args.length p1 a2 l[j].body.length p2 a3 l[j].other.length p3))).look_ok hx.wop;clear hx
      cases Br:(zl1 l[j].op).isSome with
      | false=>
        rw [Br] at Bk;simp only [Sh.val] at Bk;go_wp2_with fail;go_ret;exact ⟨ret_bool (HF.out (by simp [stB,Br])).symm,thenB hb (al2 _ _ _)⟩
      | true=>
        rw [Br] at Bk;generalize hs:(zl1 l[j].op).getD sh0=s at Bk;simp only [Sh.val] at Bk;clear hs;go_wp2_with fail;refine (zla be bs A 6 (by omega) l[j].args a1 p1 1 _ (by omega) (HX.out.args.later (al2 _ _ _)) ((HS.out.later hb).later (al2 _ _ _))).mono ?_
        cases h1:zbc 6 l[j].args with
        | false=>
          rintro e w3 ⟨rfl,c3⟩;go_wp2_with fail;go_ret;exact ⟨ret_bool (HF.out (by simp [h1])).symm,z8i hb c3⟩
        | true=>
          rintro e w3 ⟨rfl,c3⟩;have B0:=(HB.out.later (al2 _ _ _)).later c3;have B1:=(Blk.new1 wr #[qi l[j].op,.string l[j].mod,.string l[j].name,.slice a1 l[j].args.length p1,.slice a2 l[j].body.length p2,.slice a3 l[j].other.length p3] 176 _).later c3;have A9:qb wr w3:=thenB (al2 _ _ _) c3;clear c3 q0 q1 qz;obtain ⟨q0,q1,qz⟩:=B0.c2;obtain ⟨x0,x1,x2,x3,x4,x5,xz⟩:=B1.c6;have K0:Hid (Blk w3 w.heap.size [.map (some be),.map (some bs)]):=B0;have K1:Hid (Blk w3 wr.heap.size [qi l[j].op,.string l[j].mod,.string l[j].name,.slice a1 l[j].args.length p1,.slice a2 l[j].body.length p2,.slice a3 l[j].other.length p3]):=B1;clear B0 B1;go_wp2_with fail;refine (HI.out l[j].body a2 p2 _ (HX.out.body.later A9) ((HS.out.later hb).later A9) ((HU.out.later hb).later A9)).mono ?_
          cases h2:zas k l[j].body with
          | false=>
            rintro e w4 ⟨rfl,c4⟩;have Aj:=thenB A9 c4;clear c4;go_wp2_with fail;go_ret;exact ⟨ret_bool (HF.out (by simp [h2])).symm,thenB hb Aj⟩
          | true=>
            rintro e w4 ⟨rfl,c4⟩;have B0:=K0.out.later c4;have B1:=K1.out.later c4;have Aj:=thenB A9 c4;clear c4 K0 K1;clear q0 q1 qz x0 x1 x2 x3 x4 x5 xz;obtain ⟨q0,q1,qz⟩:=B0.c2;obtain ⟨x0,x1,x2,x3,x4,x5,xz⟩:=B1.c6;have K0:Hid (Blk w4 w.heap.size [.map (some be),.map (some bs)]):=B0;have K1:Hid (Blk w4 wr.heap.size [qi l[j].op,.string l[j].mod,.string l[j].name,.slice a1 l[j].args.length p1,.slice a2 l[j].body.length p2,.slice a3 l[j].other.length p3]):=B1;clear B0 B1;go_wp2_with fail;refine (HI.out l[j].other a3 p3 _ (HX.out.other.later Aj) ((HS.out.later hb).later Aj) ((HU.out.later hb).later Aj)).mono ?_
            cases h3:zas k l[j].other with
            | false=>
              rintro e w5 ⟨rfl,c5⟩;have As:=thenB Aj c5;clear c5;go_wp2_with fail;go_ret;exact ⟨ret_bool (HF.out (by simp [h3])).symm,thenB hb As⟩
            | true=>
              rintro e w5 ⟨rfl,c5⟩;have K0':=K0.out.later c5;have As:=thenB Aj c5;clear c5;have B6:Hid ((l.take (j+1)).all (fun s=>stB s.op&&(zbc 6 s.args&&(zas k s.body&&zas k s.other)))=true):=HT.out (by simp [stB,Br,h1,h2,h3]);go_wp2_with fail;go_roundw
              case rel=>exact ⟨j+1,by omega,by go_num,B6.out,thenB hb As,K0'⟩
              case measure=>simp [intOf];omega
    . have HT:Hid (l.all (fun s=>stB s.op&&(zbc 6 s.args&&(zas k s.body&&zas k s.other)))=true):=zda HA.out A4
      go_wp2_with fail;go_ret;exact ⟨ret_bool (by rw [HR.out,HT.out]),hb⟩
theorem znn (be bs:Nat) (A:Nat->Prop):∀ (k:Nat),k<=6->∀ (l:List St) (a:OA) (cap:Nat) (Ad:Int) (w:World),Ad=7 - (k:Int)->DAt w A a l.length (zbp l)->zcz w be 15 zir->zcz w bs 7 zl1->
 qc 185 #[.agg #[.map (some be),.map (some bs)],.slice a l.length cap,qi Ad] w fun e w'=>e = .returned (.bool (zaf k l))/\qb w w'
 | 0,_,l,a,cap,Ad,w,hd,_,_,_=>by
   subst hd
   have HR:Hid (zaf 0 l=true):=by show _=_;simp [zaf]
   go_enter Tryz.func185,Tryz.ntmps185;go_wp2_with fail;go_ret;exact ⟨ret_bool HR.out.symm,al1 _ _⟩
 | k + 1, hk, l,a,cap,Ad,w,hd,hD,hS,hT=>by
   have HR:Hid (zaf (k+1) l=(decide (10<l.length)||l.any (fun s=>zan 6 s.args||(((stS s.op).body||decide (0<s.body.length))&&zaf k s.body||(decide (0<s.other.length)&&zaf k s.other))))):=by show _=_;simp [zaf]
   have BH:=hD.bound
   have C6:1<=Ad:=by omega
   have Jl:Ad<=6:=by omega
   have HI:Hid (∀ (l:List St) (a:OA) (cap:Nat) (w:World),DAt w A a l.length (zbp l)->zcz w be 15 zir->zcz w bs 7 zl1->
    qc 185 #[.agg #[.map (some be),.map (some bs)],.slice a l.length cap,qi (Ad+1)] w fun e w'=>e = .returned (.bool (zaf k l))/\qb w w'):=
    fun l a cap w h1 h2 h3=>znn be bs A k (by omega) l a cap (Ad+1) w (by omega) h1 h2 h3
   have HD:Hid (DAt w A a l.length (zbp l)):=hD;have HS:Hid (zcz w be 15 zir):=hS;have HU:Hid (zcz w bs 7 zl1):=hT;clear hD hS hT hd;have HB:Hid (Blk (w.alloc (.cells #[.map (some be),.map (some bs)] 235)) w.heap.size [.map (some be),.map (some bs)]):=Blk.new w _ _
   by_cases DW:10<l.length
   . have HN:Hid (zaf (k+1) l=true):=by show _=_;rw [HR.out];simp [DW]
     go_enter Tryz.func185,Tryz.ntmps185;go_wp2_with fail;go_ret;exact ⟨ret_bool HN.out.symm,al1 _ _⟩
   have HN:Hid (zaf (k+1) l=l.any (fun s=>zan 6 s.args||(((stS s.op).body||decide (0<s.body.length))&&zaf k s.body||(decide (0<s.other.length)&&zaf k s.other)))):=by show _=_;rw [HR.out];simp [DW]
   clear HR;go_enter Tryz.func185,Tryz.ntmps185;go_wp2_with fail
   go_loopw [18] (fun i wr=>∃ j:Nat,j<=l.length/\i=qi j/\(l.take j).any (fun s=>zan 6 s.args||(((stS s.op).body||decide (0<s.body.length))&&zaf k s.body||(decide (0<s.other.length)&&zaf k s.other)))=false/\qb w wr/\Blk wr w.heap.size [.map (some be),.map (some bs)]) (fun i _=>l.length - (intOf i).toNat)
   case atStart=>exact ⟨0,vag _,rfl,rfl,al1 _ _,HB.out⟩
   case round =>
    clear HB;obtain ⟨j,hj,rfl,A8,hb,hB⟩:=hrel;have q0:=hB.cell 0 _ rfl;have q1:=hB.cell 1 _ rfl;have qz:=hB.lt;have HB:Hid (Blk wr w.heap.size [.map (some be),.map (some bs)]):=hB;have HA:Hid ((l.take j).any (fun s=>zan 6 s.args||(((stS s.op).body||decide (0<s.body.length))&&zaf k s.body||(decide (0<s.other.length)&&zaf k s.other)))=false):=A8;clear A8 hB
    by_cases A4:j<l.length
    . obtain ⟨b,off,a1,p1,a2,p2,a3,p3,rfl,hx⟩:=(HD.out.later hb).st j A4
      have Ct:=hx.c0;have Be:=hx.c1;have BU:=hx.c2;have Es:=hx.c3;have FR:=hx.c4;have Ox:=hx.c5;have C4:=hx.lt;have DM:=hx.args.bound;have DL:=hx.body.bound;have Fq:=hx.other.bound;have HX:Hid (StAt wr A b (off+j*6) l[j] a1 p1 a2 p2 a3 p3):=hx
      have HF:Hid ((zan 6 l[j].args||(((stS l[j].op).body||decide (0<l[j].body.length))&&zaf k l[j].body||(decide (0<l[j].other.length)&&zaf k l[j].other)))=true->zaf (k+1) l=true):=fun h=>by rw [HN.out];exact zu3 l _ j A4 h
      have HT:Hid ((zan 6 l[j].args||(((stS l[j].op).body||decide (0<l[j].body.length))&&zaf k l[j].body||(decide (0<l[j].other.length)&&zaf k l[j].other)))=false->(l.take (j+1)).any (fun s=>zan 6 s.args||(((stS s.op).body||decide (0<s.body.length))&&zaf k s.body||(decide (0<s.other.length)&&zaf k s.other)))=false):=fun h=>by rw [zj1 l _ j A4,HA.out,h];rfl
      clear hx;go_wp2_with fail;refine (znm A 6 (by omega) l[j].args a1 p1 1 _ (by omega) (HX.out.args.later (al1 _ _))).mono ?_
      cases h1:zan 6 l[j].args with
      | true=>
        rintro e w3 ⟨rfl,c3⟩;go_wp2_with fail;go_ret;exact ⟨ret_bool (HF.out (by simp [h1])).symm,z5t hb c3⟩
      | false =>
        rintro e w3 ⟨rfl,c3⟩;have B0:=(HB.out.later (al1 _ _)).later c3;have B1:=(Blk.new wr #[qi l[j].op,.string l[j].mod,.string l[j].name,.slice a1 l[j].args.length p1,.slice a2 l[j].body.length p2,.slice a3 l[j].other.length p3] 176).later c3;have A9:qb wr w3:=thenB (al1 _ _) c3;clear c3 q0 q1 qz;obtain ⟨q0,q1,qz⟩:=B0.c2;obtain ⟨x0,x1,x2,x3,x4,x5,xz⟩:=B1.c6;have K0:Hid (Blk w3 w.heap.size [.map (some be),.map (some bs)]):=B0;have K1:Hid (Blk w3 wr.heap.size [qi l[j].op,.string l[j].mod,.string l[j].name,.slice a1 l[j].args.length p1,.slice a2 l[j].body.length p2,.slice a3 l[j].other.length p3]):=B1;clear B0 B1;have Bk:(Instr.lookup 232 (.map (some bs)) (qi l[j].op) false).run Tryz.prog w3 = .ok (stS l[j].op).val w3:=((HU.out.later hb).later A9).look HX.out.wop;simp only [Sh.val] at Bk;have Iw:=z2o
        cases Df:(stS l[j].op).body with
        | true=>
          rw [Df] at Bk
          have HG:Hid (((stS l[j].op).body||decide (0<l[j].body.length))=true):=by show _=_;simp [Df]
          clear Df;go_wp2_with fail;refine (HI.out l[j].body a2 p2 _ (HX.out.body.later A9) ((HS.out.later hb).later A9) ((HU.out.later hb).later A9)).mono ?_
          cases h2:zaf k l[j].body with
          | true=>
            rintro e w4 ⟨rfl,c4⟩;have Aj:=thenB A9 c4;clear c4;go_wp2_with fail;go_ret;exact ⟨ret_bool (HF.out (by simp [HG.out,h2])).symm,thenB hb Aj⟩
          | false=>
            rintro e w4 ⟨rfl,c4⟩;have B0:=K0.out.later c4;have B1:=K1.out.later c4;have Aj:=thenB A9 c4;clear c4 K0 K1;clear q0 q1 qz x0 x1 x2 x3 x4 x5 xz;obtain ⟨q0,q1,qz⟩:=B0.c2;obtain ⟨x0,x1,x2,x3,x4,x5,xz⟩:=B1.c6;have K0:Hid (Blk w4 w.heap.size [.map (some be),.map (some bs)]):=B0;have K1:Hid (Blk w4 wr.heap.size [qi l[j].op,.string l[j].mod,.string l[j].name,.slice a1 l[j].args.length p1,.slice a2 l[j].body.length p2,.slice a3 l[j].other.length p3]):=B1;clear B0 B1
            have HQ:Hid ((((stS l[j].op).body||decide (0<l[j].body.length))&&zaf k l[j].body)=false):=by show _=_;simp [h2]
            by_cases h5:0<l[j].other.length
            . go_wp2_with fail
              refine (HI.out l[j].other a3 p3 _ (HX.out.other.later Aj) ((HS.out.later hb).later Aj) ((HU.out.later hb).later Aj)).mono ?_
              cases h6:zaf k l[j].other with
              | true=>
                rintro e w9 ⟨rfl,c9⟩;have BN:=thenB Aj c9;clear c9;go_wp2_with fail;go_ret;exact ⟨ret_bool (HF.out (by simp [h5,h6])).symm,thenB hb BN⟩
              | false=>
                rintro e w9 ⟨rfl,c9⟩;have K0':=K0.out.later c9;have BN:=thenB Aj c9;clear c9;have B6:Hid ((l.take (j+1)).any (fun s=>zan 6 s.args||(((stS s.op).body||decide (0<s.body.length))&&zaf k s.body||(decide (0<s.other.length)&&zaf k s.other)))=false):=HT.out (by simp [h1,h6,HQ.out]);go_wp2_with fail;go_roundw
                case rel=>exact ⟨j+1,by omega,by go_num,B6.out,thenB hb BN,K0'⟩
                case measure=>simp [intOf];omega
            . have B6:Hid ((l.take (j+1)).any (fun s=>zan 6 s.args||(((stS s.op).body||decide (0<s.body.length))&&zaf k s.body||(decide (0<s.other.length)&&zaf k s.other)))=false):=HT.out (by simp [h1,h5,HQ.out])
              have K0':=K0.out;go_wp2_with fail;go_roundw
              case rel=>exact ⟨j+1,by omega,by go_num,B6.out,thenB hb Aj,K0'⟩
              case measure=>simp [intOf];omega
        | false =>
          rw [Df] at Bk
          by_cases h4:0<l[j].body.length
          . have HG:Hid (((stS l[j].op).body||decide (0<l[j].body.length))=true):=by show _=_;simp [h4]
            clear Df;go_wp2_with fail;refine (HI.out l[j].body a2 p2 _ (HX.out.body.later A9) ((HS.out.later hb).later A9) ((HU.out.later hb).later A9)).mono ?_
            cases h2:zaf k l[j].body with
            | true=>
              rintro e w4 ⟨rfl,c4⟩;have Aj:=thenB A9 c4;clear c4;go_wp2_with fail;go_ret;exact ⟨ret_bool (HF.out (by simp [HG.out,h2])).symm,thenB hb Aj⟩
            | false=>
              rintro e w4 ⟨rfl,c4⟩;have B0:=K0.out.later c4;have B1:=K1.out.later c4;have Aj:=thenB A9 c4;clear c4 K0 K1;clear q0 q1 qz x0 x1 x2 x3 x4 x5 xz;obtain ⟨q0,q1,qz⟩:=B0.c2;obtain ⟨x0,x1,x2,x3,x4,x5,xz⟩:=B1.c6;have K0:Hid (Blk w4 w.heap.size [.map (some be),.map (some bs)]):=B0;have K1:Hid (Blk w4 wr.heap.size [qi l[j].op,.string l[j].mod,.string l[j].name,.slice a1 l[j].args.length p1,.slice a2 l[j].body.length p2,.slice a3 l[j].other.length p3]):=B1;clear B0 B1
              have HQ:Hid ((((stS l[j].op).body||decide (0<l[j].body.length))&&zaf k l[j].body)=false):=by show _=_;simp [h2]
              by_cases h5:0<l[j].other.length
              . go_wp2_with fail
                refine (HI.out l[j].other a3 p3 _ (HX.out.other.later Aj) ((HS.out.later hb).later Aj) ((HU.out.later hb).later Aj)).mono ?_
                cases h6:zaf k l[j].other with
                | true=>
                  rintro e w9 ⟨rfl,c9⟩;have BN:=thenB Aj c9;clear c9;go_wp2_with fail;go_ret;exact ⟨ret_bool (HF.out (by simp [h5,h6])).symm,thenB hb BN⟩
                | false=>
                  rintro e w9 ⟨rfl,c9⟩;have K0':=K0.out.later c9;have BN:=thenB Aj c9;clear c9;have B6:Hid ((l.take (j+1)).any (fun s=>zan 6 s.args||(((stS s.op).body||decide (0<s.body.length))&&zaf k s.body||(decide (0<s.other.length)&&zaf k s.other)))=false):=HT.out (by simp [h1,h6,HQ.out]);go_wp2_with fail;go_roundw
                  case rel=>exact ⟨j+1,by omega,by go_num,B6.out,thenB hb BN,K0'⟩
                  case measure=>simp [intOf];omega
              . have B6:Hid ((l.take (j+1)).any (fun s=>zan 6 s.args||(((stS s.op).body||decide (0<s.body.length))&&zaf k s.body||(decide (0<s.other.length)&&zaf k s.other)))=false):=HT.out (by simp [h1,h5,HQ.out])
                have K0':=K0.out;go_wp2_with fail;go_roundw
                case rel=>exact ⟨j+1,by omega,by go_num,B6.out,thenB hb Aj,K0'⟩
                case measure=>simp [intOf];omega
          . have HQ:Hid ((((stS l[j].op).body||decide (0<l[j].body.length))&&zaf k l[j].body)=false):=by show _=_;simp [Df,h4]
            clear Df
            by_cases h5:0<l[j].other.length
            . go_wp2_with fail
              refine (HI.out l[j].other a3 p3 _ (HX.out.other.later A9) ((HS.out.later hb).later A9) ((HU.out.later hb).later A9)).mono ?_
              cases h6:zaf k l[j].other with
              | true=>
                rintro e w9 ⟨rfl,c9⟩;have BN:=thenB A9 c9;clear c9;go_wp2_with fail;go_ret;exact ⟨ret_bool (HF.out (by simp [h5,h6])).symm,thenB hb BN⟩
              | false=>
                rintro e w9 ⟨rfl,c9⟩;have K0':=K0.out.later c9;have BN:=thenB A9 c9;clear c9;have B6:Hid ((l.take (j+1)).any (fun s=>zan 6 s.args||(((stS s.op).body||decide (0<s.body.length))&&zaf k s.body||(decide (0<s.other.length)&&zaf k s.other)))=false):=HT.out (by simp [h1,h6,HQ.out]);go_wp2_with fail;go_roundw
                case rel=>exact ⟨j+1,by omega,by go_num,B6.out,thenB hb BN,K0'⟩
                case measure=>simp [intOf];omega
            . have B6:Hid ((l.take (j+1)).any (fun s=>zan 6 s.args||(((stS s.op).body||decide (0<s.body.length))&&zaf k s.body||(decide (0<s.other.length)&&zaf k s.other)))=false):=HT.out (by simp [h1,h5,HQ.out])
              have K0':=K0.out;go_wp2_with fail;go_roundw
              case rel=>exact ⟨j+1,by omega,by go_num,B6.out,thenB hb A9,K0'⟩
              case measure=>simp [intOf];omega
    . have HT:Hid (l.any (fun s=>zan 6 s.args||(((stS s.op).body||decide (0<s.body.length))&&zaf k s.body||(decide (0<s.other.length)&&zaf k s.other)))=false):=zo5 HA.out A4
      go_wp2_with fail;go_ret;exact ⟨ret_bool (by rw [HN.out,HT.out]),hb⟩
theorem zzt {k:Nat} {l:List St} (h:l.length=0\/zaf (k+1) l=false) (j:Nat) (hj:j<l.length):zan 6 l[j].args=false/\(l[j].body.length=0\/zaf k l[j].body=false)/\(l[j].other.length=0\/zaf k l[j].other=false):=by
 rcases h with h | h
 . omega
 . simp only [zaf,vat,vbw] at h
   have:=h.2 l[j] (vaj hj);simp only [vcs,vat,vdf,decide_eq_false_iff_not] at this;refine ⟨this.1,?_,?_⟩
   . rcases this.2.1 with h1 | h1
     . left;omega
     . exact Or.inr h1
   . rcases this.2.2 with h1 | h1
     . left;omega
     . exact Or.inr h1
theorem zwj (be bs:Nat) (A:Nat->Prop):∀ (k:Nat) (l:List St) (a:OA) (cap:Nat) (w:World),DAt w A a l.length (zbp l)->zcz w be 15 zir->zcz w bs 7 zl1->(l.length=0\/zaf k l=false)->
 qc 189 #[.agg #[.map (some be),.map (some bs)],.slice a l.length cap] w fun e w'=>e = .returned (.bool (zat k l))/\qb w w':=by
 intro k
 induction k with
 | zero=>
   intro l a cap w hD hS hT hM
   have h0 : l.length = 0 := by rcases hM with h | h
                                . exact h
                                . simp [zaf] at h
   have HR:Hid (zat 0 l=true):=by show _=_;simp [zat]
   rw [h0];go_enter Tryz.func189,Tryz.ntmps189;go_wp2_with fail
   go_loopw [10] (fun i wr=>i=qi 0/\qb w wr) (fun _ _=>0)
   case atStart=>exact ⟨rfl,al1 _ _⟩
   case round=>
    obtain ⟨rfl,hb⟩:=hrel;go_wp2_with fail;go_ret;exact ⟨ret_bool HR.out.symm,hb⟩
 | succ k ih=>
   intro l a cap w hD hS hT hM
   have HR:Hid (zat (k+1) l=l.all (fun s=>zcy (stS s.op) s.mod s.name&&(zbb (stS s.op) s.args.length&&(zbh 6 s.args&&(((stS s.op).body||decide (s.body.length=0))&&(((stS s.op).other||decide (s.other.length=0))&&(zat k s.body&&zat k s.other))))))):=by show _=_;simp [zat]
   have BH:=hD.bound
   have HI:Hid (∀ (l:List St) (a:OA) (cap:Nat) (w:World),DAt w A a l.length (zbp l)->zcz w be 15 zir->zcz w bs 7 zl1->(l.length=0\/zaf k l=false)->
    qc 189 #[.agg #[.map (some be),.map (some bs)],.slice a l.length cap] w fun e w'=>e = .returned (.bool (zat k l))/\qb w w'):=ih
   have HD:Hid (DAt w A a l.length (zbp l)):=hD;have HS:Hid (zcz w be 15 zir):=hS;have HU:Hid (zcz w bs 7 zl1):=hT;have HM:Hid (∀ (j:Nat) (hj:j<l.length),zan 6 l[j].args=false/\(l[j].body.length=0\/zaf k l[j].body=false)/\(l[j].other.length=0\/zaf k l[j].other=false)):=zzt hM;clear hD hS hT hM ih;have HB:Hid (Blk (w.alloc (.cells #[.map (some be),.map (some bs)] 235)) w.heap.size [.map (some be),.map (some bs)]):=Blk.new w _ _;go_enter Tryz.func189,Tryz.ntmps189;go_wp2_with fail
   go_loopw [10] (fun i wr=>∃ j:Nat,j<=l.length/\i=qi j/\(l.take j).all (fun s=>zcy (stS s.op) s.mod s.name&&(zbb (stS s.op) s.args.length&&(zbh 6 s.args&&(((stS s.op).body||decide (s.body.length=0))&&(((stS s.op).other||decide (s.other.length=0))&&(zat k s.body&&zat k s.other))))))=true/\qb w wr/\Blk wr w.heap.size [.map (some be),.map (some bs)]) (fun i _=>l.length - (intOf i).toNat)
   case atStart=>exact ⟨0,vag _,rfl,rfl,al1 _ _,HB.out⟩
   case round =>
    clear HB;obtain ⟨j,hj,rfl,A8,hb,hB⟩:=hrel;have q0:=hB.cell 0 _ rfl;have q1:=hB.cell 1 _ rfl;have qz:=hB.lt;have HB:Hid (Blk wr w.heap.size [.map (some be),.map (some bs)]):=hB;have HA:Hid ((l.take j).all (fun s=>zcy (stS s.op) s.mod s.name&&(zbb (stS s.op) s.args.length&&(zbh 6 s.args&&(((stS s.op).body||decide (s.body.length=0))&&(((stS s.op).other||decide (s.other.length=0))&&(zat k s.body&&zat k s.other))))))=true):=A8;clear A8 hB
    by_cases A4:j<l.length
    . obtain ⟨b, off, a1,p1,a2,p2,a3,p3,rfl,hx⟩:=(HD.out.later hb).st j A4
      have Ct:=hx.c0;have Be:=hx.c1;have BU:=hx.c2;have Es:=hx.c3;have FR:=hx.c4;have Ox:=hx.c5;have C4:=hx.lt;have DM:=hx.args.bound;have DL:=hx.body.bound;have Fq:=hx.other.bound;have HX:Hid (StAt wr A b (off+j*6) l[j] a1 p1 a2 p2 a3 p3):=hx
      have HF:Hid ((zcy (stS l[j].op) l[j].mod l[j].name&&(zbb (stS l[j].op) l[j].args.length&&(zbh 6 l[j].args&&(((stS l[j].op).body||decide (l[j].body.length=0))&&(((stS l[j].op).other||decide (l[j].other.length=0))&&(zat k l[j].body&&zat k l[j].other))))))=false->zat (k+1) l=false):=fun h=>by rw [HR.out];exact all_not l _ j A4 h
      have HT:Hid ((zcy (stS l[j].op) l[j].mod l[j].name&&(zbb (stS l[j].op) l[j].args.length&&(zbh 6 l[j].args&&(((stS l[j].op).body||decide (l[j].body.length=0))&&(((stS l[j].op).other||decide (l[j].other.length=0))&&(zat k l[j].body&&zat k l[j].other))))))=true->(l.take (j+1)).all (fun s=>zcy (stS s.op) s.mod s.name&&(zbb (stS s.op) s.args.length&&(zbh 6 s.args&&(((stS s.op).body||decide (s.body.length=0))&&(((stS s.op).other||decide (s.other.length=0))&&(zat k s.body&&zat k s.other))))))=true):=fun h=>by rw [all_snoc l _ j A4,HA.out,h];rfl
      have Bk:(Instr.lookup 232 (.map (some bs)) (qi l[j].op) false).run Tryz.prog (wr.alloc (kzB l[j].op l[j].mod l[j].name a1 l[j].args.length p1 a2 l[j].body.length p2 a3 l[j].other.length p3)) = .ok (stS l[j].op).val (wr.alloc (kzB l[j].op l[j].mod l[j].name a1 l[j].args.length p1 a2 l[j].body.length p2 a3 l[j].other.length p3)):=((HU.out.later hb).later (al1 _ (kzB l[j].op l[j].mod l[j].name a1 l[j].args.length p1 a2 l[j].body.length p2 a3 l[j].other.length p3))).look hx.wop;clear hx;generalize hs:stS l[j].op=s at Bk HF HT;clear hs;simp only [Sh.val] at Bk;go_wp2_with fail;refine (zi9 s l[j].mod l[j].name _ HX.out.wm HX.out.wna).mono ?_
      cases h1:zcy s l[j].mod l[j].name with
      | false=>
        rintro e w3 ⟨rfl,c3⟩;go_wp2_with fail;go_ret;exact ⟨ret_bool (HF.out (by simp [h1])).symm,z8i hb c3⟩
      | true=>
        rintro e w3 ⟨rfl,c3⟩;have B0:=(HB.out.later (al2 _ _ _)).later c3;have B1:=(Blk.new1 wr #[qi l[j].op,.string l[j].mod,.string l[j].name,.slice a1 l[j].args.length p1,.slice a2 l[j].body.length p2,.slice a3 l[j].other.length p3] 176 _).later c3;have B2:=(Blk.new2 wr #[.bool s.named,.bool s.number,qi s.least,qi s.most,.bool s.body,.bool s.other] 270 _).later c3;have A9:qb wr w3:=thenB (al2 _ _ _) c3;clear c3 q0 q1 qz;obtain ⟨q0,q1,qz⟩:=B0.c2;obtain ⟨x0,x1,x2,x3,x4,x5,xz⟩:=B1.c6;obtain ⟨y0,y1,y2,y3,y4,y5,yz⟩:=B2.c6;have K0:Hid (Blk w3 w.heap.size [.map (some be),.map (some bs)]):=B0;have K1:Hid (Blk w3 wr.heap.size [qi l[j].op,.string l[j].mod,.string l[j].name,.slice a1 l[j].args.length p1,.slice a2 l[j].body.length p2,.slice a3 l[j].other.length p3]):=B1;have K2:Hid (Blk w3 (wr.heap.size+1) [.bool s.named,.bool s.number,qi s.least,qi s.most,.bool s.body,.bool s.other]):=B2
        clear B0 B1 B2;go_wp2_with fail;refine (zgz s a1 l[j].args.length p1 _).mono ?_
        cases h2:zbb s l[j].args.length with
        | false=>
          rintro e w4 ⟨rfl,c4⟩;have Aj:=thenB A9 c4;clear c4;go_wp2_with fail;go_ret;exact ⟨ret_bool (HF.out (by simp [h2])).symm,thenB hb Aj⟩
        | true=>
          rintro e w4 ⟨rfl,c4⟩;have B0:=K0.out.later c4;have B1:=K1.out.later c4;have B2:=K2.out.later c4;have Aj:=thenB A9 c4;clear c4 K0 K1 K2;clear q0 q1 qz x0 x1 x2 x3 x4 x5 xz y0 y1 y2 y3 y4 y5 yz;obtain ⟨q0,q1,qz⟩:=B0.c2;obtain ⟨x0,x1,x2,x3,x4,x5,xz⟩:=B1.c6;obtain ⟨y0,y1,y2,y3,y4,y5,yz⟩:=B2.c6;have K0:Hid (Blk w4 w.heap.size [.map (some be),.map (some bs)]):=B0;have K1:Hid (Blk w4 wr.heap.size [qi l[j].op,.string l[j].mod,.string l[j].name,.slice a1 l[j].args.length p1,.slice a2 l[j].body.length p2,.slice a3 l[j].other.length p3]):=B1;have K2:Hid (Blk w4 (wr.heap.size+1) [.bool s.named,.bool s.number,qi s.least,qi s.most,.bool s.body,.bool s.other]):=B2;clear B0 B1 B2;go_wp2_with fail;refine (zwi be bs A 6 l[j].args a1 p1 _ (HX.out.args.later Aj) ((HS.out.later hb).later Aj) (HM.out j A4).1).mono ?_
          cases h3:zbh 6 l[j].args with
          | false=>
            rintro e w5 ⟨rfl,c5⟩;have As:=thenB Aj c5;clear c5;go_wp2_with fail;go_ret;exact ⟨ret_bool (HF.out (by simp [h3])).symm,thenB hb As⟩
          | true=>
            rintro e w5 ⟨rfl,c5⟩;have B0:=K0.out.later c5;have B1:=K1.out.later c5;have B2:=K2.out.later c5;have As:=thenB Aj c5;clear c5 K0 K1 K2;clear q0 q1 qz x0 x1 x2 x3 x4 x5 xz y0 y1 y2 y3 y4 y5 yz;obtain ⟨q0,q1,qz⟩:=B0.c2;obtain ⟨x0,x1,x2,x3,x4,x5,xz⟩:=B1.c6;obtain ⟨y0,y1,y2,y3,y4,y5,yz⟩:=B2.c6;have K0:Hid (Blk w5 w.heap.size [.map (some be),.map (some bs)]):=B0;have K1:Hid (Blk w5 wr.heap.size [qi l[j].op,.string l[j].mod,.string l[j].name,.slice a1 l[j].args.length p1,.slice a2 l[j].body.length p2,.slice a3 l[j].other.length p3]):=B1;have K2:Hid (Blk w5 (wr.heap.size+1) [.bool s.named,.bool s.number,qi s.least,qi s.most,.bool s.body,.bool s.other]):=B2;clear B0 B1 B2
            cases Df:s.body with
            | false =>
              rw [Df] at y4
              by_cases h4:0<l[j].body.length
              . go_wp2_with fail
                go_ret;exact ⟨ret_bool (HF.out (by simp [Df,show ¬ l[j].body.length=0 from by omega])).symm,thenB hb As⟩
              . have HG : Hid ((s.body||decide (l[j].body.length=0))=true):=by show _=_;simp [show l[j].body.length=0 from by omega]
                cases FJ:s.other with
                | false =>
                  rw [FJ] at y5
                  by_cases h5:0<l[j].other.length
                  . go_wp2_with fail
                    go_ret;exact ⟨ret_bool (HF.out (by simp [FJ,show ¬ l[j].other.length=0 from by omega])).symm,thenB hb As⟩
                  . have HO:Hid ((s.other||decide (l[j].other.length=0))=true):=by show _=_;simp [show l[j].other.length=0 from by omega]
                    go_wp2_with fail;refine (HI.out l[j].body a2 p2 _ (HX.out.body.later As) ((HS.out.later hb).later As) ((HU.out.later hb).later As) (HM.out j A4).2.1).mono ?_
                    cases h7:zat k l[j].body with
                    | false=>
                      rintro e w6 ⟨rfl,c6⟩;have AK:=thenB As c6;clear c6;go_wp2_with fail;go_ret;exact ⟨ret_bool (HF.out (by simp [h7])).symm,thenB hb AK⟩
                    | true=>
                      rintro e w6 ⟨rfl,c6⟩;have B0:=K0.out.later c6;have B1:=K1.out.later c6;have B2:=K2.out.later c6;have AK:=thenB As c6;clear c6 K0 K1 K2;clear q0 q1 qz x0 x1 x2 x3 x4 x5 xz y0 y1 y2 y3 y4 y5 yz;obtain ⟨q0,q1,qz⟩:=B0.c2;obtain ⟨x0,x1,x2,x3,x4,x5,xz⟩:=B1.c6;obtain ⟨y0,y1,y2,y3,y4,y5,yz⟩:=B2.c6;have K0:Hid (Blk w6 w.heap.size [.map (some be),.map (some bs)]):=B0;have K1:Hid (Blk w6 wr.heap.size [qi l[j].op,.string l[j].mod,.string l[j].name,.slice a1 l[j].args.length p1,.slice a2 l[j].body.length p2,.slice a3 l[j].other.length p3]):=B1;have K2:Hid (Blk w6 (wr.heap.size+1) [.bool s.named,.bool s.number,qi s.least,qi s.most,.bool s.body,.bool s.other]):=B2;clear B0 B1 B2;go_wp2_with fail;refine (HI.out l[j].other a3 p3 _ (HX.out.other.later AK) ((HS.out.later hb).later AK) ((HU.out.later hb).later AK) (HM.out j A4).2.2).mono ?_
                      cases h8:zat k l[j].other with
                      | false=>
                        rintro e w7 ⟨rfl,c7⟩;have AP:=thenB AK c7;clear c7;go_wp2_with fail;go_ret;exact ⟨ret_bool (HF.out (by simp [h8])).symm,thenB hb AP⟩
                      | true=>
                        rintro e w7 ⟨rfl,c7⟩;have K0':=K0.out.later c7;have AP:=thenB AK c7;clear c7;have B6:Hid ((l.take (j+1)).all (fun s=>zcy (stS s.op) s.mod s.name&&(zbb (stS s.op) s.args.length&&(zbh 6 s.args&&(((stS s.op).body||decide (s.body.length=0))&&(((stS s.op).other||decide (s.other.length=0))&&(zat k s.body&&zat k s.other))))))=true):=HT.out (by rw [h1,h2,h3,HG.out,HO.out,h7,h8];rfl);go_wp2_with fail;go_roundw
                        case rel=>exact ⟨j+1,by omega,by go_num,B6.out,thenB hb AP,K0'⟩
                        case measure=>simp [intOf];omega
                | true=>
                  rw [FJ] at y5
                  have HO:Hid ((s.other||decide (l[j].other.length=0))=true):=by show _=_;simp [FJ]
                  go_wp2_with fail;refine (HI.out l[j].body a2 p2 _ (HX.out.body.later As) ((HS.out.later hb).later As) ((HU.out.later hb).later As) (HM.out j A4).2.1).mono ?_
                  cases h7:zat k l[j].body with
                  | false=>
                    rintro e w6 ⟨rfl,c6⟩;have AK:=thenB As c6;clear c6;go_wp2_with fail;go_ret;exact ⟨ret_bool (HF.out (by simp [h7])).symm,thenB hb AK⟩
                  | true=>
                    rintro e w6 ⟨rfl,c6⟩;have B0:=K0.out.later c6;have B1:=K1.out.later c6;have B2:=K2.out.later c6;have AK:=thenB As c6;clear c6 K0 K1 K2;clear q0 q1 qz x0 x1 x2 x3 x4 x5 xz y0 y1 y2 y3 y4 y5 yz;obtain ⟨q0,q1,qz⟩:=B0.c2;obtain ⟨x0,x1,x2,x3,x4,x5,xz⟩:=B1.c6;obtain ⟨y0,y1,y2,y3,y4,y5,yz⟩:=B2.c6;have K0:Hid (Blk w6 w.heap.size [.map (some be),.map (some bs)]):=B0;have K1:Hid (Blk w6 wr.heap.size [qi l[j].op,.string l[j].mod,.string l[j].name,.slice a1 l[j].args.length p1,.slice a2 l[j].body.length p2,.slice a3 l[j].other.length p3]):=B1;have K2:Hid (Blk w6 (wr.heap.size+1) [.bool s.named,.bool s.number,qi s.least,qi s.most,.bool s.body,.bool s.other]):=B2;clear B0 B1 B2;go_wp2_with fail;refine (HI.out l[j].other a3 p3 _ (HX.out.other.later AK) ((HS.out.later hb).later AK) ((HU.out.later hb).later AK) (HM.out j A4).2.2).mono ?_
                    cases h8:zat k l[j].other with
                    | false=>
                      rintro e w7 ⟨rfl,c7⟩;have AP:=thenB AK c7;clear c7;go_wp2_with fail;go_ret;exact ⟨ret_bool (HF.out (by simp [h8])).symm,thenB hb AP⟩
                    | true=>
                      rintro e w7 ⟨rfl,c7⟩;have K0':=K0.out.later c7;have AP:=thenB AK c7;clear c7;have B6:Hid ((l.take (j+1)).all (fun s=>zcy (stS s.op) s.mod s.name&&(zbb (stS s.op) s.args.length&&(zbh 6 s.args&&(((stS s.op).body||decide (s.body.length=0))&&(((stS s.op).other||decide (s.other.length=0))&&(zat k s.body&&zat k s.other))))))=true):=HT.out (by rw [h1,h2,h3,HG.out,HO.out,h7,h8];rfl);go_wp2_with fail;go_roundw
                      case rel=>exact ⟨j+1,by omega,by go_num,B6.out,thenB hb AP,K0'⟩
                      case measure=>simp [intOf];omega
            | true=>
              rw [Df] at y4
              have HG:Hid ((s.body||decide (l[j].body.length=0))=true):=by show _=_;simp [Df]
              cases FJ:s.other with
              | false =>
                rw [FJ] at y5
                by_cases h5:0<l[j].other.length
                . go_wp2_with fail
                  go_ret;exact ⟨ret_bool (HF.out (by simp [FJ,show ¬ l[j].other.length=0 from by omega])).symm,thenB hb As⟩
                . have HO:Hid ((s.other||decide (l[j].other.length=0))=true):=by show _=_;simp [show l[j].other.length=0 from by omega]
                  go_wp2_with fail;refine (HI.out l[j].body a2 p2 _ (HX.out.body.later As) ((HS.out.later hb).later As) ((HU.out.later hb).later As) (HM.out j A4).2.1).mono ?_
                  cases h7:zat k l[j].body with
                  | false=>
                    rintro e w6 ⟨rfl,c6⟩;have AK:=thenB As c6;clear c6;go_wp2_with fail;go_ret;exact ⟨ret_bool (HF.out (by simp [h7])).symm,thenB hb AK⟩
                  | true=>
                    rintro e w6 ⟨rfl,c6⟩;have B0:=K0.out.later c6;have B1:=K1.out.later c6;have B2:=K2.out.later c6;have AK:=thenB As c6;clear c6 K0 K1 K2;clear q0 q1 qz x0 x1 x2 x3 x4 x5 xz y0 y1 y2 y3 y4 y5 yz;obtain ⟨q0,q1,qz⟩:=B0.c2;obtain ⟨x0,x1,x2,x3,x4,x5,xz⟩:=B1.c6;obtain ⟨y0,y1,y2,y3,y4,y5,yz⟩:=B2.c6;have K0:Hid (Blk w6 w.heap.size [.map (some be),.map (some bs)]):=B0;have K1:Hid (Blk w6 wr.heap.size [qi l[j].op,.string l[j].mod,.string l[j].name,.slice a1 l[j].args.length p1,.slice a2 l[j].body.length p2,.slice a3 l[j].other.length p3]):=B1;have K2:Hid (Blk w6 (wr.heap.size+1) [.bool s.named,.bool s.number,qi s.least,qi s.most,.bool s.body,.bool s.other]):=B2;clear B0 B1 B2;go_wp2_with fail;refine (HI.out l[j].other a3 p3 _ (HX.out.other.later AK) ((HS.out.later hb).later AK) ((HU.out.later hb).later AK) (HM.out j A4).2.2).mono ?_
                    cases h8:zat k l[j].other with
                    | false=>
                      rintro e w7 ⟨rfl,c7⟩;have AP:=thenB AK c7;clear c7;go_wp2_with fail;go_ret;exact ⟨ret_bool (HF.out (by simp [h8])).symm,thenB hb AP⟩
                    | true=>
                      rintro e w7 ⟨rfl,c7⟩;have K0':=K0.out.later c7;have AP:=thenB AK c7;clear c7;have B6:Hid ((l.take (j+1)).all (fun s=>zcy (stS s.op) s.mod s.name&&(zbb (stS s.op) s.args.length&&(zbh 6 s.args&&(((stS s.op).body||decide (s.body.length=0))&&(((stS s.op).other||decide (s.other.length=0))&&(zat k s.body&&zat k s.other))))))=true):=HT.out (by rw [h1,h2,h3,HG.out,HO.out,h7,h8];rfl);go_wp2_with fail;go_roundw
                      case rel=>exact ⟨j+1,by omega,by go_num,B6.out,thenB hb AP,K0'⟩
                      case measure=>simp [intOf];omega
              | true=>
                rw [FJ] at y5
                have HO:Hid ((s.other||decide (l[j].other.length=0))=true):=by show _=_;simp [FJ]
                go_wp2_with fail;refine (HI.out l[j].body a2 p2 _ (HX.out.body.later As) ((HS.out.later hb).later As) ((HU.out.later hb).later As) (HM.out j A4).2.1).mono ?_
                cases h7:zat k l[j].body with
                | false=>
                  rintro e w6 ⟨rfl,c6⟩;have AK:=thenB As c6;clear c6;go_wp2_with fail;go_ret;exact ⟨ret_bool (HF.out (by simp [h7])).symm,thenB hb AK⟩
                | true=>
                  rintro e w6 ⟨rfl,c6⟩;have B0:=K0.out.later c6;have B1:=K1.out.later c6;have B2:=K2.out.later c6;have AK:=thenB As c6;clear c6 K0 K1 K2;clear q0 q1 qz x0 x1 x2 x3 x4 x5 xz y0 y1 y2 y3 y4 y5 yz;obtain ⟨q0,q1,qz⟩:=B0.c2;obtain ⟨x0,x1,x2,x3,x4,x5,xz⟩:=B1.c6;obtain ⟨y0,y1,y2,y3,y4,y5,yz⟩:=B2.c6;have K0:Hid (Blk w6 w.heap.size [.map (some be),.map (some bs)]):=B0;have K1:Hid (Blk w6 wr.heap.size [qi l[j].op,.string l[j].mod,.string l[j].name,.slice a1 l[j].args.length p1,.slice a2 l[j].body.length p2,.slice a3 l[j].other.length p3]):=B1;have K2:Hid (Blk w6 (wr.heap.size+1) [.bool s.named,.bool s.number,qi s.least,qi s.most,.bool s.body,.bool s.other]):=B2;clear B0 B1 B2;go_wp2_with fail;refine (HI.out l[j].other a3 p3 _ (HX.out.other.later AK) ((HS.out.later hb).later AK) ((HU.out.later hb).later AK) (HM.out j A4).2.2).mono ?_
                  cases h8:zat k l[j].other with
                  | false=>
                    rintro e w7 ⟨rfl,c7⟩;have AP:=thenB AK c7;clear c7;go_wp2_with fail;go_ret;exact ⟨ret_bool (HF.out (by simp [h8])).symm,thenB hb AP⟩
                  | true=>
                    rintro e w7 ⟨rfl,c7⟩;have K0':=K0.out.later c7;have AP:=thenB AK c7;clear c7;have B6:Hid ((l.take (j+1)).all (fun s=>zcy (stS s.op) s.mod s.name&&(zbb (stS s.op) s.args.length&&(zbh 6 s.args&&(((stS s.op).body||decide (s.body.length=0))&&(((stS s.op).other||decide (s.other.length=0))&&(zat k s.body&&zat k s.other))))))=true):=HT.out (by rw [h1,h2,h3,HG.out,HO.out,h7,h8];rfl);go_wp2_with fail;go_roundw
                    case rel=>exact ⟨j+1,by omega,by go_num,B6.out,thenB hb AP,K0'⟩
                    case measure=>simp [intOf];omega
    . have HT:Hid (l.all (fun s=>zcy (stS s.op) s.mod s.name&&(zbb (stS s.op) s.args.length&&(zbh 6 s.args&&(((stS s.op).body||decide (s.body.length=0))&&(((stS s.op).other||decide (s.other.length=0))&&(zat k s.body&&zat k s.other))))))=true):=zda HA.out A4
      go_wp2_with fail;go_ret;exact ⟨ret_bool (by rw [HR.out,HT.out]),hb⟩
set_option maxHeartbeats 800000
abbrev Tt:Nat->Prop:=fun _=>True
theorem Tryz.infoBody:(Tryz.prog.info? 25).map (fun i=>(i.zero,i.size,i.bytes))=some (some (qs),1,24):=by kernel_rfl
def zwk (w:World) (xs:List Value) (bs:List (List St)):Prop:=xs.length=bs.length/\∀ i (h:i<bs.length),∃ a c,xs[i]? = some (.slice a bs[i].length c)/\DAt w Tt a bs[i].length (zbp bs[i])
theorem zwk.later {w w':World} {xs:List Value} {bs:List (List St)} (h:zwk w xs bs) (hb:qb w w'):zwk w' xs bs:=
 ⟨h.1,fun i hi=>by obtain ⟨a,c,h1,h2⟩:=h.2 i hi;exact ⟨a,c,h1,h2.later hb⟩⟩
theorem zwk.nil (w:World):zwk w [] []:=⟨rfl,fun i h=>by simp at h⟩
theorem zwk.snoc {w:World} {xs:List Value} {bs:List (List St)} (h:zwk w xs bs) {l:List St} {a:OA} {c:Nat} (hd:DAt w Tt a l.length (zbp l)):zwk w (xs++[.slice a l.length c]) (bs++[l]):=by
 refine ⟨by simp [h.1],fun i hi=>?_⟩
 rcases vbg i bs.length with A4 | FO
 . obtain ⟨a',c',h1,h2⟩:=h.2 i A4
   refine ⟨a',c',?_,?_⟩
   . rw [vbb (by rw [h.1];exact A4),vcf A4];exact h1
   . rw [vcf A4];exact h2
 . have:i=bs.length:=by simp at hi;omega
   subst this;refine ⟨a,c,?_,?_⟩
   . rw [vbd (by rw [h.1];exact vaa _),h.1];simp
   . simpa using hd
def zq3 (w:World) (a:OA) (bs:List (List St)):Prop:=∀ i (h:i<bs.length),∃ b off a' c',a=some (qa b off)/\b<w.heap.size/\w.cell? ⟨b,off+i,none⟩=some (.slice a' bs[i].length c')/\DAt w Tt a' bs[i].length (zbp bs[i])
theorem zq3.later {w w':World} {a:OA} {bs:List (List St)} (h:zq3 w a bs) (hb:qb w w'):zq3 w' a bs:=fun i hi=>by
 obtain ⟨b,off,a',c',h1,h2,h3,h4⟩:=h i hi;exact ⟨b,off,a',c',h1,vah h2 hb.size,(hb.cell (p:=⟨b,off+i,none⟩) h2).trans h3,h4.later hb⟩
theorem zwk.at {w:World} {base g n cap:Nat} {xs:List Value} {bs:List (List St)} (h:zwk w xs bs) (Ag:w.ownsRow base 25 1 (.slice (some (qa g 0)) n cap) n xs):zq3 w (some (qa g 0)) bs:=by
 intro i hi;obtain ⟨a',c',h1,h2⟩:=h.2 i hi;have hc:=Ag.cells (g:=g) rfl i _ h1;have A4:=(Ag.lt g rfl).2
 have e:((qa g 0):Addr).add i=(qa g i):=by unfold Addr.add;split<;>simp_all
 rw [e] at hc;exact ⟨g,0,a',c',rfl,A4,by rw [vba];exact hc,h2⟩
theorem Blk.grown {w w':World} {b:Nat} {cs:List Value} {row:Option Nat} (h:Blk w b cs) (hg:w.grownBy w' row) (Ak:some b≠row):Blk w' b cs:=
 ⟨vah h.lt hg.size,fun j v hj=>(vei (w:=w) (hg.block b h.lt Ak)).trans (h.cell j v hj)⟩
theorem zzu (w:World) (v:Value) (t:TypeId) (n:Nat) (hn:n=w.heap.size):∀ j u,[v][j]? = some u->(w.alloc (.cells #[v] t)).cell? (((qa n 0):Addr).add j)=some u:=by
 subst hn;intro j u hj
 have e:((qa w.heap.size 0):Addr).add j=(qa w.heap.size j):=by unfold Addr.add;split<;>simp_all
 rw [e];exact (Blk.new w #[v] t).cell j u hj
theorem zit (m:Mo) (v:Value) (a1:OA) (c1:Nat) (a2:OA) (c2:Nat) (a3:OA) (c3:Nat) (a4:OA) (c4:Nat) (w:World) (hM:MoAt w Tt m v a1 c1 a2 c2 a3 c3 a4 c4) :
 qc 183 #[v] w fun e w'=>∃ a cap,e = .returned (.slice a m.bodies.length cap)/\zq3 w' a m.bodies/\qb w w':=by
 obtain ⟨rfl,O8,hU,hDe,hP,hMa⟩:=hM;obtain ⟨i0,hi,Bq,An,AA⟩:=info_parts Tryz.infoBody
 have BH:m.procs.length<=3518437208883:=by
  have h1:=hP.2.1
  have h2:(zhz m.procs).length=m.procs.length*5:=by
   unfold zhz;rw [List.length_flatMap]
   have:∀ l:List Pr,(l.map (fun x=>x.ds.length)).sum=l.length*5:=by
    intro l
    induction l with
    | nil=>rfl
    | cons x r ih=>rw [vcn,List.sum_cons,ih,vav];have:x.ds.length=5:=rfl;omega
   exact this _
  omega
 have HP:Hid (DAt w Tt a3 m.procs.length (zhz m.procs)):=hP;have HM:Hid (DAt w Tt a4 m.main.length (zbp m.main)):=hMa;clear hU hDe hP hMa;go_enter Tryz.func183,Tryz.ntmps183;go_wp2_with fail;have HB:=Blk.new w #[.string m.name,.slice a1 m.uses.length c1,.slice a2 m.decls.length c2,.slice a3 m.procs.length c3,.slice a4 m.main.length c4] 27
 go_loopw [9,3] (fun i v wr=>∃ (j:Nat) (xs:List Value),j<=m.procs.length/\i=qi j/\wr.ownsRow (w.heap.size+1) 25 1 v j xs/\zwk w xs ((m.procs.take j).map Pr.body)/\qb w wr/\Blk wr w.heap.size [.string m.name,.slice a1 m.uses.length c1,.slice a2 m.decls.length c2,.slice a3 m.procs.length c3,.slice a4 m.main.length c4]) (fun i _ _=>m.procs.length - (intOf i).toNat)
 case atStart=>exact ⟨0,[],vag _,rfl,vek _ _ _ _,zwk.nil _,al1 _ _,HB⟩
 case round=>
  clear HB;obtain ⟨j,xs,hj,rfl,Ag,hBo,hb,hB⟩:=hrel;have HO:Hid (wr.ownsRow (w.heap.size+1) 25 1 u3 j xs):=Ag;have HQ:Hid (zwk w xs ((m.procs.take j).map Pr.body)):=hBo;have HB:Hid (Blk wr w.heap.size [.string m.name,.slice a1 m.uses.length c1,.slice a2 m.decls.length c2,.slice a3 m.procs.length c3,.slice a4 m.main.length c4]):=hB;have HL:Hid (∀ k,u3.ownBlock=some k->w.heap.size+1<=k/\k<wr.heap.size):=Ag.lt;obtain ⟨q0,q1,q2,q3,q4,qz⟩:=hB.c5;clear Ag hBo hB
  by_cases A4:j<m.procs.length
  . obtain ⟨b,off,b1,d1,b2,d2,b3,d3,rfl,hx⟩:=(HP.out.later hb).pr j A4
    have Ct:=hx.c0;have Be:=hx.c1;have BU:=hx.c2;have Es:=hx.c3;have FR:=hx.c4;have C4:=hx.lt
    have HX:Hid (DAt w Tt b3 m.procs[j].body.length (zbp m.procs[j].body)):=by
     obtain ⟨b',C7,b1',d1',b2',d2',b3',d3',e,Bx⟩:=HP.out.pr j A4
     injection e with e
     injection e with e1 e2
     subst e1;subst e2;have h4:=(hb.cell (p:=⟨b,off+j*5+4,none⟩) Bx.lt).trans Bx.c4;rw [hx.c4] at h4
     injection h4 with h4
     injection h4 with h4 _ _
     subst h4;exact Bx.body
    have HS:Hid ((m.procs.take (j+1)).map Pr.body=(m.procs.take j).map Pr.body++[m.procs[j].body]):=by
     show _=_
     rw [vaf A4,vbr];rfl
    clear hx
    go_wp2_with (at_builtin;refine wpList_append_lies _ rfl _ _ 271 rfl (w.heap.size+1) 25 i0 _ 1 24 Tryz.underlying271 hi Bq An AA rfl (by decide) _ j xs rfl ((HO.out.alloc _).alloc _) _ 1 1 [.slice b3 m.procs[j].body.length d3] rfl rfl (zzu _ _ _ _ (by simp)) (by simp [Value.oneCell']) (by omega) (by unfold maxLen;omega) (by omega) (by simp;omega) _ rfl ?_;intro g cp w2 EJ DR Hh Cg)
    have hg:wr.grownBy w2 u3.ownBlock:=((ven wr _ _).trans (ven _ _ _)).trans DR;have Ab:qb w w2:=hb.grown hg hb.size (fun k hk=>by have:=(HL.out k hk).1;omega);have K2:=HB.out.grown hg (fun e=>by have:=(HL.out _ e.symm).1;omega);clear DR Hh hg;go_roundw
    case rel=>exact ⟨j+1,xs++[.slice b3 m.procs[j].body.length d3],by omega,by go_num,EJ,by rw [HS.out];exact HQ.out.snoc HX.out,Ab,K2⟩
    case measure=>simp [intOf];omega
  . have Qv:j=m.procs.length:=by omega
    subst Qv
    have HS:Hid (m.bodies=(m.procs.take m.procs.length).map Pr.body++[m.main]):=by show _=_;rw [vau];rfl
    have HN:Hid (m.bodies.length=m.procs.length+1):=by show _=_;simp [Mo.bodies]
    go_wp2_with (at_builtin;refine wpList_append_lies _ rfl _ _ 271 rfl (w.heap.size+1) 25 i0 _ 1 24 Tryz.underlying271 hi Bq An AA rfl (by decide) _ m.procs.length xs rfl (HO.out.alloc _) _ 1 1 [.slice a4 m.main.length c4] rfl rfl (zzu _ _ _ _ (by simp)) (by simp [Value.oneCell']) (by omega) (by unfold maxLen;omega) (by omega) (by simp;omega) _ rfl ?_;intro g cp w2 EJ DR Hh Cg)
    have hg:wr.grownBy w2 u3.ownBlock:=(ven wr _ _).trans DR;have Ab:qb w w2:=hb.grown hg hb.size (fun k hk=>by have:=(HL.out k hk).1;omega);clear DR Hh hg;go_ret;refine ⟨some (qa g 0),cp,?_,?_,Ab⟩
    . rw [HN.out];rfl
    have:=(HQ.out.snoc (c:=c4) HM.out).later Ab;rw [HS.out];exact this.at EJ
theorem zs3 (s:ByteArray) (w:World) (hs:s.size<=maxLen) :
 qc 240 #[.string s] w fun e w'=>e = .returned (.bool (!nameOk s))/\qb w w':=by
 go_enter Tryz.func240,Tryz.ntmps240
 go_wp2_with (go_at_call 186;refine (zdw s _ hs).mono ?_;rintro e w' ⟨rfl,hb⟩)
 go_ret;exact ⟨rfl,hb⟩
theorem zmf (l:List ByteArray) (a:OA) (cap:Nat) (w:World) (hD:DAt w Tt a l.length (zaj l)) :
 qc 279 #[.slice a l.length cap,.func (.func 240) #[] #[]] w fun e w'=>∃ n:Int,e = .returned (qi n)/\decide (0<=n) = !l.all nameOk/\qb w w':=by
 have BH:=hD.bound;have HD:Hid (DAt w Tt a l.length (zaj l)):=hD;clear hD;go_enter Tryz.func279,Tryz.ntmps279;go_wp2_with fail
 go_loopw [8] (fun i wr=>∃ j:Nat,j<=l.length/\i=qi j/\(l.take j).all nameOk=true/\qb w wr) (fun i _=>l.length - (intOf i).toNat)
 case atStart=>exact ⟨0,vag _,rfl,rfl,Below.refl _ _⟩
 case round=>
  obtain ⟨j,hj,rfl,A8,hb⟩:=hrel;have HA:Hid ((l.take j).all nameOk=true):=A8;clear A8
  by_cases A4:j<l.length
  . obtain ⟨b,off,rfl,C4,hc,Ce⟩:=(HD.out.later hb).str j A4
    go_wp2_with fail;refine (zs3 l[j] _ Ce).mono ?_
    cases hn:nameOk l[j] with
    | false=>
      have HF:Hid (l.all nameOk=false):=all_not l _ j A4 hn;rintro e w3 ⟨rfl,A9⟩;go_wp2_with fail;go_ret;exact ⟨j,rfl,by rw [HF.out];simp,thenB hb A9⟩
    | true=>
      have HT:Hid ((l.take (j+1)).all nameOk=true):=by
       show _=_
       rw [all_snoc l _ j A4,HA.out,hn];rfl
      rintro e w3 ⟨rfl,A9⟩;go_wp2_with fail;go_roundw
      case rel=>exact ⟨j+1,by omega,by go_num,HT.out,thenB hb A9⟩
      case measure=>simp [intOf];omega
  . have HT:Hid (l.all nameOk=true):=zda HA.out A4
    go_wp2_with fail;go_ret;exact ⟨-1,rfl,by rw [HT.out];rfl,hb⟩
theorem zgc (l:List ByteArray) (a:OA) (cap:Nat) (w:World) (hD:DAt w Tt a l.length (zaj l)) :
 qc 187 #[.slice a l.length cap] w fun e w'=>e = .returned (.bool (l.all nameOk))/\qb w w':=by
 have HC:Hid (qc 239 #[.slice a l.length cap,.func (.func 240) #[] #[]] w fun e w'=>e = .returned (.bool (!l.all nameOk))/\qb w w'):=by
  have HI:Hid (qc 279 #[.slice a l.length cap,.func (.func 240) #[] #[]] w fun e w'=>∃ n:Int,e = .returned (qi n)/\decide (0<=n) = !l.all nameOk/\qb w w'):=zmf l a cap w hD;clear hD;show Calls _ _ _ _ _;go_enter Tryz.func239,Tryz.ntmps239
  go_wp2_with (go_at_call 279;refine HI.out.mono ?_;rintro e w' ⟨n,rfl,hn,hb⟩)
  go_ret;exact ⟨rfl,hb⟩
 clear hD;go_enter Tryz.func187,Tryz.ntmps187
 go_wp2_with (go_at_call 239;refine HC.out.mono ?_;rintro e w' ⟨rfl,hb⟩)
 go_ret;exact ⟨ret_bool (by simp),hb⟩
end Go.Proofs.YtndkhgakfodldaaGreatDoor
