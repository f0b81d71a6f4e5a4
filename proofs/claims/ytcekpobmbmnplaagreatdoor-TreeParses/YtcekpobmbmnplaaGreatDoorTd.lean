/-
  Modules without the program: what lies in memory as a tree of numbers, texts, bools and lists; and how memory may change around it.
-/
import Derived.Test.YtcekpobmbmnplaaGreatDoorTok
import Derived.Deep.AppendLies
namespace Go.Proofs.YtcekpobmbmnplaaGreatDoor
open Go.RowKit
inductive D where
 | int (n:Int)
 | str (s:ByteArray)
 | bool (b:Bool)
 | list (n:Nat) (ds:List D)
def zf7 (w:World) (b off:Nat) (l:List Value):Prop:=∀ j u,l[j]? = some u->w.cell? ⟨b,off+j,none⟩=some u
mutual
def zel (w:World) (A:Nat->Prop):D->Value->Prop
 | .int n,v=>v = .int .i64 n/\(Lit.int .i64 n).wf=true
 | .str s,v=>v = .string s/\s.size<=maxLen
 | .bool b,v=>v = .bool b
 | .list n ds,v=>∃ a cap,v = .slice a n cap/\n<=ds.length/\ds.length<=17592186044416/\(n=0\/∃ b off cs,a=some ⟨b,off,none⟩/\A b/\b<w.heap.size/\zf7 w b off cs/\zbn w A ds cs)
def zbn (w:World) (A:Nat->Prop):List D->List Value->Prop
 | [],cs=>cs=[]
 | d :: ds,cs=>∃ v r,cs=v :: r/\zel w A d v/\zbn w A ds r
end
def zgd (lo:Nat) (w w':World):Prop:=w.heap.size<=w'.heap.size/\∀ k,lo<=k->k<w.heap.size->w'.heap[k]? = w.heap[k]?
theorem zgd.refl (lo:Nat) (w:World):zgd lo w w:=⟨Nat.le_refl _,fun _ _ _=>rfl⟩
theorem zgd.trans {lo:Nat} {a b c:World} (h:zgd lo a b) (k:zgd lo b c):zgd lo a c:=
 ⟨Nat.le_trans h.1 k.1,fun i h1 h2=>(k.2 i h1 (Nat.lt_of_lt_of_le h2 h.1)).trans (h.2 i h1 h2)⟩
theorem zgd.mono {lo lo':Nat} {w w':World} (h:zgd lo w w') (hl:lo<=lo'):zgd lo' w w':=⟨h.1,fun k h1 h2=>h.2 k (Nat.le_trans hl h1) h2⟩
theorem zgd.of_below {w w':World} (h:Below w.heap.size w w') (lo:Nat):zgd lo w w':=⟨h.size,fun k _ h2=>h.block k h2⟩
theorem zgd.cell {lo:Nat} {w w':World} (h:zgd lo w w') {b off:Nat} (h1:lo<=b) (h2:b<w.heap.size):w'.cell? ⟨b,off,none⟩=w.cell? ⟨b,off,none⟩:=
 World.cell?_of_block (w:=w) (h.2 b h1 h2)
theorem zgd.alloc {lo:Nat} {w w':World} (h:zgd lo w w') (o:Obj):zgd lo w (w'.alloc o):=
 h.trans (zgd.of_below ((Below.refl w'.heap.size w').alloc (Nat.le_refl _) o) lo)
def Moves (w:World) (A:Nat->Prop) (w':World) (A':Nat->Prop):Prop:=w.heap.size<=w'.heap.size/\∀ b,b<w.heap.size->A b->A' b/\w'.heap[b]? = w.heap[b]?
theorem Moves.refl (w:World) (A:Nat->Prop):Moves w A w A:=⟨Nat.le_refl _,fun _ _ h=>⟨h,rfl⟩⟩
theorem Moves.trans {w1 w2 w3:World} {A1 A2 A3:Nat->Prop} (h:Moves w1 A1 w2 A2) (k:Moves w2 A2 w3 A3):Moves w1 A1 w3 A3:=
 ⟨Nat.le_trans h.1 k.1,fun b hb ha=>⟨(k.2 b (Nat.lt_of_lt_of_le hb h.1) (h.2 b hb ha).1).1,(k.2 b (Nat.lt_of_lt_of_le hb h.1) (h.2 b hb ha).1).2.trans (h.2 b hb ha).2⟩⟩
theorem Moves.of_below {w w':World} (h:Below w.heap.size w w') (A:Nat->Prop):Moves w A w' A:=⟨h.size,fun b hb ha=>⟨ha,h.block b hb⟩⟩
theorem Moves.alloc {w w':World} {A A':Nat->Prop} (h:Moves w A w' A') (o:Obj):Moves w A (w'.alloc o) A':=h.trans (Moves.of_below ((Below.refl w'.heap.size w').alloc (Nat.le_refl _) o) A')
theorem Moves.lower {w:World} {lo lo':Nat} (h:lo'<=lo):Moves w (lo<=·) w (lo'<=·):=⟨Nat.le_refl _,fun _ _ ha=>⟨Nat.le_trans h ha,rfl⟩⟩
theorem zf7.moves {A A':Nat->Prop} {w w':World} {b off:Nat} {l:List Value} (h:zf7 w b off l) (hs:Moves w A w' A') (h1:A b) (h2:b<w.heap.size):zf7 w' b off l:=
 fun j u hj=>(World.cell?_of_block (w:=w) (hs.2 b h2 h1).2).trans (h j u hj)
mutual
theorem zel.moves {A A':Nat->Prop} {w w':World} (hs:Moves w A w' A'):∀ (d:D) (v:Value),zel w A d v->zel w' A' d v
 | .int _,_,h=>h
 | .str _,_,h=>h
 | .bool _,_,h=>h
 | .list n ds,v,h=>by
   unfold zel at h ⊢;obtain ⟨a,cap,h1,h2,h3,h4⟩:=h;refine ⟨a,cap,h1,h2,h3,?_⟩
   rcases h4 with h4 | ⟨b,off,cs,ha,hl,hb,hc,hx⟩
   . exact Or.inl h4
   . exact Or.inr ⟨b,off,cs,ha,(hs.2 b hb hl).1,Nat.lt_of_lt_of_le hb hs.1,hc.moves hs hl hb,zbn.moves hs ds cs hx⟩
theorem zbn.moves {A A':Nat->Prop} {w w':World} (hs:Moves w A w' A'):∀ (l:List D) (cs:List Value),zbn w A l cs->zbn w' A' l cs
 | [],_,h=>h
 | d :: ds,cs,h=>by
   unfold zbn at h ⊢;obtain ⟨v,r,h1,h2,h3⟩:=h;exact ⟨v,r,h1,zel.moves hs d v h2,zbn.moves hs ds r h3⟩
end
theorem zel.one {w:World} {lo:Nat->Prop}:∀ {d:D} {v:Value},zel w lo d v->v.oneCell'=true
 | .int _,_,h=>by unfold zel at h;rw [h.1];rfl
 | .str _,_,h=>by unfold zel at h;rw [h.1];rfl
 | .bool _,_,h=>by unfold zel at h;rw [h];rfl
 | .list _ _,_,h=>by unfold zel at h;obtain ⟨a,cap,h,_⟩:=h;rw [h];rfl
theorem zbn.one {w:World} {lo:Nat->Prop}:∀ {l:List D} {cs:List Value},zbn w lo l cs->∀ u ∈ cs,u.oneCell'=true
 | [],_,h=>by unfold zbn at h;rw [h];intro u hu;cases hu
 | d :: ds,cs,h=>by
   unfold zbn at h;obtain ⟨v,r,rfl,h2,h3⟩:=h;intro u hu
   rcases List.mem_cons.1 hu with rfl | hu
   . exact h2.one
   . exact zbn.one h3 u hu
theorem zbn.len {w:World} {lo:Nat->Prop}:∀ {l:List D} {cs:List Value},zbn w lo l cs->cs.length=l.length
 | [],_,h=>by unfold zbn at h;rw [h];rfl
 | d :: ds,cs,h=>by
   unfold zbn at h;obtain ⟨v,r,rfl,h2,h3⟩:=h;simp [zbn.len h3]
theorem zbn.nil {w:World} {lo:Nat->Prop}:zbn w lo [] []:=by unfold zbn;rfl
theorem zbn.cons {w:World} {lo:Nat->Prop} {d:D} {ds:List D} {v:Value} {cs:List Value} (h:zel w lo d v) (k:zbn w lo ds cs):zbn w lo (d :: ds) (v :: cs):=by
 unfold zbn;exact ⟨v,cs,rfl,h,k⟩
theorem zbn.append {w:World} {lo:Nat->Prop}:∀ {l m:List D} {cs es:List Value},zbn w lo l cs->zbn w lo m es->zbn w lo (l++m) (cs++es)
 | [],m,cs,es,h,k=>by unfold zbn at h;subst h;exact k
 | d :: ds,m,cs,es,h,k=>by
   unfold zbn at h;obtain ⟨v,r,rfl,h2,h3⟩:=h;exact zbn.cons h2 (zbn.append h3 k)
theorem zbn.get {w:World} {lo:Nat->Prop}:∀ {l:List D} {cs:List Value},zbn w lo l cs->∀ (j:Nat) (d:D),l[j]? = some d->∃ v,cs[j]? = some v/\zel w lo d v
 | [],_,_,j,d,hj=>by simp at hj
 | e :: ds,cs,h,j,d,hj=>by
   unfold zbn at h;obtain ⟨v,r,rfl,h2,h3⟩:=h
   cases j with
   | zero=>simp at hj;subst hj;exact ⟨v,rfl,h2⟩
   | succ j=>simpa using zbn.get h3 j d (by simpa using hj)
theorem zha {w:World} {lo:Nat->Prop} {n:Int} (h:(Lit.int .i64 n).wf=true):zel w lo (.int n) (.int .i64 n):=by unfold zel;exact ⟨rfl,h⟩
theorem ze7 {w:World} {lo:Nat->Prop} {s:ByteArray} (h:s.size<=maxLen):zel w lo (.str s) (.string s):=by unfold zel;exact ⟨rfl,h⟩
theorem zqq {w:World} {lo:Nat->Prop} {b:Bool}:zel w lo (.bool b) (.bool b):=by unfold zel;rfl
theorem zmi {w:World} {lo:Nat->Prop} {a:Option Addr} {cap:Nat}:zel w lo (.list 0 []) (.slice a 0 cap):=by unfold zel;exact ⟨a,cap,rfl,Nat.le_refl _,by simp,Or.inl rfl⟩
theorem zkx {w:World} {lo:Nat->Prop} {n:Int} {v:Value} (h:zel w lo (.int n) v):v = .int .i64 n/\(Lit.int .i64 n).wf=true:=by unfold zel at h;exact h
theorem zfh {w:World} {lo:Nat->Prop} {s:ByteArray} {v:Value} (h:zel w lo (.str s) v):v = .string s/\s.size<=maxLen:=by unfold zel at h;exact h
theorem zr0 {w:World} {lo:Nat->Prop} {b:Bool} {v:Value} (h:zel w lo (.bool b) v):v = .bool b:=by unfold zel at h;exact h
def DAt (w:World) (lo:Nat->Prop) (a:Option Addr) (n:Nat) (ds:List D):Prop:=n<=ds.length/\ds.length<=17592186044416/\(n=0\/∃ b off cs,a=some ⟨b,off,none⟩/\lo b/\b<w.heap.size/\zf7 w b off cs/\zbn w lo ds cs)
theorem zb1 {w:World} {lo:Nat->Prop} {n:Nat} {ds:List D} {v:Value} (h:zel w lo (.list n ds) v):∃ a cap,v = .slice a n cap/\DAt w lo a n ds:=by unfold zel at h;exact h
theorem DAt.val {w:World} {lo:Nat->Prop} {n cap:Nat} {a:Option Addr} {ds:List D} (h:DAt w lo a n ds):zel w lo (.list n ds) (.slice a n cap):=by unfold zel;exact ⟨a,cap,rfl,h⟩
theorem DAt.moves {A A':Nat->Prop} {w w':World} {n:Nat} {a:Option Addr} {ds:List D} (h:DAt w A a n ds) (hs:Moves w A w' A'):DAt w' A' a n ds:=by
 obtain ⟨h1,h2,h3⟩:=h;refine ⟨h1,h2,?_⟩
 rcases h3 with h4 | ⟨b,off,cs,ha,hl,hb,hc,hx⟩
 . exact Or.inl h4
 . exact Or.inr ⟨b,off,cs,ha,(hs.2 b hb hl).1,Nat.lt_of_lt_of_le hb hs.1,hc.moves hs hl hb,zbn.moves hs ds cs hx⟩
theorem DAt.later {A:Nat->Prop} {w w':World} {n:Nat} {a:Option Addr} {ds:List D} (h:DAt w A a n ds) (hb:Below w.heap.size w w'):DAt w' A a n ds:=h.moves (Moves.of_below hb A)
theorem DAt.bound {A:Nat->Prop} {w:World} {n:Nat} {a:Option Addr} {ds:List D} (h:DAt w A a n ds):n<=17592186044416:=Nat.le_trans h.1 h.2.1
theorem DAt.cell {A:Nat->Prop} {w:World} {n:Nat} {a:Option Addr} {ds:List D} (h:DAt w A a n ds) (hn:0<n):∃ b off,a=some ⟨b,off,none⟩/\b<w.heap.size/\∀ (j:Nat) (d:D),ds[j]? = some d->∃ v,w.cell? ⟨b,off+j,none⟩=some v/\zel w A d v:=by
 rcases h.2.2 with h0 | ⟨b,off,cs,ha,_,hb,hc,hx⟩
 . omega
 . refine ⟨b,off,ha,hb,fun j d hj=>?_⟩
   obtain ⟨v,hv,hd⟩:=hx.get j d hj;exact ⟨v,hc j v hv,hd⟩
inductive Ex where
 | mk (op n:Int) (mod name:ByteArray) (args:List Ex)
def Ex.op:Ex->Int | .mk op _ _ _ _=>op
def Ex.n:Ex->Int | .mk _ n _ _ _=>n
def Ex.mod:Ex->ByteArray | .mk _ _ m _ _=>m
def Ex.name:Ex->ByteArray | .mk _ _ _ m _=>m
def Ex.args:Ex->List Ex | .mk _ _ _ _ l=>l
inductive St where
 | mk (op:Int) (mod name:ByteArray) (args:List Ex) (body other:List St)
def St.op:St->Int | .mk op _ _ _ _ _=>op
def St.mod:St->ByteArray | .mk _ m _ _ _ _=>m
def St.name:St->ByteArray | .mk _ _ m _ _ _=>m
def St.args:St->List Ex | .mk _ _ _ l _ _=>l
def St.body:St->List St | .mk _ _ _ _ l _=>l
def St.other:St->List St | .mk _ _ _ _ _ l=>l
mutual
def Ex.ds:Ex->List D
 | .mk op n mod name args=>[.int op,.int n,.str mod,.str name,.list args.length (zaw args)]
def zaw:List Ex->List D
 | []=>[]
 | x :: r=>x.ds++zaw r
end
mutual
def St.ds:St->List D
 | .mk op mod name args body other=>[.int op,.str mod,.str name,.list args.length (zaw args),.list body.length (za0 body),.list other.length (za0 other)]
def za0:List St->List D
 | []=>[]
 | x :: r=>x.ds++za0 r
end
theorem Ex.ds_len (x:Ex):x.ds.length=5:=by cases x;unfold Ex.ds;rfl
theorem St.ds_len (x:St):x.ds.length=6:=by cases x;unfold St.ds;rfl
theorem zec:∀ (l m:List Ex),zaw (l++m)=zaw l++zaw m
 | [],m=>by simp [zaw]
 | x :: r,m=>by simp [zaw,zec r m]
theorem zed:∀ (l m:List St),za0 (l++m)=za0 l++za0 m
 | [],m=>by simp [za0]
 | x :: r,m=>by simp [za0,zed r m]
theorem zf8 (x:Ex):zaw [x]=x.ds:=by simp [zaw]
theorem zio (x:St):za0 [x]=x.ds:=by simp [za0]
theorem zr1:∀ (l:List Ex) (i:Nat) (h:i<l.length) (j:Nat),j<5->(zaw l)[i*5+j]? = (l[i].ds)[j]?
 | [],i,h,_,_=>by simp at h
 | x :: r,0,_,j,hj=>by
   have:=x.ds_len;simp only [zaw,List.getElem_cons_zero];rw [List.getElem?_append_left (by omega),Nat.zero_mul,Nat.zero_add]
 | x :: r,i+1,h,j,hj=>by
   have:=x.ds_len;simp only [zaw,List.getElem_cons_succ];rw [List.getElem?_append_right (by omega),show (i+1)*5+j - x.ds.length=i*5+j from by omega];exact zr1 r i (by simpa using h) j hj
theorem zr2:∀ (l:List St) (i:Nat) (h:i<l.length) (j:Nat),j<6->(za0 l)[i*6+j]? = (l[i].ds)[j]?
 | [],i,h,_,_=>by simp at h
 | x :: r,0,_,j,hj=>by
   have:=x.ds_len;simp only [za0,List.getElem_cons_zero];rw [List.getElem?_append_left (by omega),Nat.zero_mul,Nat.zero_add]
 | x :: r,i+1,h,j,hj=>by
   have:=x.ds_len;simp only [za0,List.getElem_cons_succ];rw [List.getElem?_append_right (by omega),show (i+1)*6+j - x.ds.length=i*6+j from by omega];exact zr2 r i (by simpa using h) j hj
structure ExAt (w:World) (A:Nat->Prop) (b o:Nat) (x:Ex) (aa:Option Addr) (cap:Nat):Prop where
 lt:b<w.heap.size
 c0:w.cell? ⟨b,o,none⟩=some (.int .i64 x.op)
 c1:w.cell? ⟨b,o+1,none⟩=some (.int .i64 x.n)
 c2:w.cell? ⟨b,o+2,none⟩=some (.string x.mod)
 c3:w.cell? ⟨b,o+3,none⟩=some (.string x.name)
 c4:w.cell? ⟨b,o+4,none⟩=some (.slice aa x.args.length cap)
 args:DAt w A aa x.args.length (zaw x.args)
 wop:(Lit.int .i64 x.op).wf=true
 wn:(Lit.int .i64 x.n).wf=true
 wm:x.mod.size<=maxLen
 wna:x.name.size<=maxLen
structure StAt (w:World) (A:Nat->Prop) (b o:Nat) (x:St) (a1:Option Addr) (c1':Nat) (a2:Option Addr) (c2':Nat) (a3:Option Addr) (c3':Nat):Prop where
 lt:b<w.heap.size
 c0:w.cell? ⟨b,o,none⟩=some (.int .i64 x.op)
 c1:w.cell? ⟨b,o+1,none⟩=some (.string x.mod)
 c2:w.cell? ⟨b,o+2,none⟩=some (.string x.name)
 c3:w.cell? ⟨b,o+3,none⟩=some (.slice a1 x.args.length c1')
 c4:w.cell? ⟨b,o+4,none⟩=some (.slice a2 x.body.length c2')
 c5:w.cell? ⟨b,o+5,none⟩=some (.slice a3 x.other.length c3')
 args:DAt w A a1 x.args.length (zaw x.args)
 body:DAt w A a2 x.body.length (za0 x.body)
 other:DAt w A a3 x.other.length (za0 x.other)
 wop:(Lit.int .i64 x.op).wf=true
 wm:x.mod.size<=maxLen
 wna:x.name.size<=maxLen
theorem DAt.ex {w:World} {A:Nat->Prop} {a:Option Addr} {l:List Ex} (h:DAt w A a l.length (zaw l)) (i:Nat) (hi:i<l.length):∃ b off aa cap,a=some ⟨b,off,none⟩/\ExAt w A b (off+i*5) l[i] aa cap:=by
 obtain ⟨b,off,ha,hb,hc⟩:=h.cell (by omega);generalize hx:l[i]=x;obtain ⟨op,n,mod,name,args⟩:=x
 have g:∀ j d,j<5->(Ex.mk op n mod name args).ds[j]? = some d->∃ v,w.cell? ⟨b,off+i*5+j,none⟩=some v/\zel w A d v:=fun j d hj hd=>by
  rw [Nat.add_assoc];exact hc (i*5+j) d ((zr1 l i hi j hj).trans (by rw [hx];exact hd))
 obtain ⟨v0,k0,d0⟩:=g 0 (.int op) (by omega) (by simp [Ex.ds]);obtain ⟨v1,k1,d1⟩:=g 1 (.int n) (by omega) (by simp [Ex.ds]);obtain ⟨v2,k2,d2⟩:=g 2 (.str mod) (by omega) (by simp [Ex.ds]);obtain ⟨v3,k3,d3⟩:=g 3 (.str name) (by omega) (by simp [Ex.ds]);obtain ⟨v4,k4,d4⟩:=g 4 (.list args.length (zaw args)) (by omega) (by simp [Ex.ds]);obtain ⟨rfl,w0⟩:=zkx d0;obtain ⟨rfl,w1⟩:=zkx d1;obtain ⟨rfl,w2⟩:=zfh d2;obtain ⟨rfl,w3⟩:=zfh d3;obtain ⟨aa,cap,rfl,hA⟩:=zb1 d4;exact ⟨b,off,aa,cap,ha,hb,k0,k1,k2,k3,k4,hA,w0,w1,w2,w3⟩
theorem DAt.st {w:World} {A:Nat->Prop} {a:Option Addr} {l:List St} (h:DAt w A a l.length (za0 l)) (i:Nat) (hi:i<l.length):∃ b off a1 c1 a2 c2 a3 c3,a=some ⟨b,off,none⟩/\StAt w A b (off+i*6) l[i] a1 c1 a2 c2 a3 c3:=by
 obtain ⟨b,off,ha,hb,hc⟩:=h.cell (by omega);generalize hx:l[i]=x;obtain ⟨op,mod,name,args,body,other⟩:=x
 have g:∀ j d,j<6->(St.mk op mod name args body other).ds[j]? = some d->∃ v,w.cell? ⟨b,off+i*6+j,none⟩=some v/\zel w A d v:=fun j d hj hd=>by
  rw [Nat.add_assoc];exact hc (i*6+j) d ((zr2 l i hi j hj).trans (by rw [hx];exact hd))
 obtain ⟨v0,k0,d0⟩:=g 0 (.int op) (by omega) (by simp [St.ds]);obtain ⟨v1,k1,d1⟩:=g 1 (.str mod) (by omega) (by simp [St.ds]);obtain ⟨v2,k2,d2⟩:=g 2 (.str name) (by omega) (by simp [St.ds]);obtain ⟨v3,k3,d3⟩:=g 3 (.list args.length (zaw args)) (by omega) (by simp [St.ds]);obtain ⟨v4,k4,d4⟩:=g 4 (.list body.length (za0 body)) (by omega) (by simp [St.ds]);obtain ⟨v5,k5,d5⟩:=g 5 (.list other.length (za0 other)) (by omega) (by simp [St.ds]);obtain ⟨rfl,w0⟩:=zkx d0;obtain ⟨rfl,w1⟩:=zfh d1;obtain ⟨rfl,w2⟩:=zfh d2;obtain ⟨a1,c1,rfl,h1⟩:=zb1 d3;obtain ⟨a2,c2,rfl,h2⟩:=zb1 d4;obtain ⟨a3,c3,rfl,h3⟩:=zb1 d5;exact ⟨b,off,a1,c1,a2,c2,a3,c3,ha,hb,k0,k1,k2,k3,k4,k5,h1,h2,h3,w0,w1,w2⟩
structure De where
 kind:Int
 name:ByteArray
 pub:Bool
 n:Int
structure Pr where
 name:ByteArray
 pub:Bool
 params:List ByteArray
 locals:List ByteArray
 body:List St
structure Mo where
 name:ByteArray
 uses:List ByteArray
 decls:List De
 procs:List Pr
 main:List St
def De.ds (d:De):List D:=[.int d.kind,.str d.name,.bool d.pub,.int d.n]
def zax (l:List ByteArray):List D:=l.map .str
def Pr.ds (p:Pr):List D:=[.str p.name,.bool p.pub,.list p.params.length (zax p.params),.list p.locals.length (zax p.locals),.list p.body.length (za0 p.body)]
def Mo.ds (m:Mo):List D:=[.str m.name,.list m.uses.length (zax m.uses),.list m.decls.length (m.decls.flatMap De.ds),.list m.procs.length (m.procs.flatMap Pr.ds),.list m.main.length (za0 m.main)]
def zf9 (l:List Pr):List D:=l.flatMap Pr.ds
def zfk (l:List De):List D:=l.flatMap De.ds
def z3p (l:List Mo):List D:=l.flatMap Mo.ds
theorem zjt {α:Type} (f:α->List D) (k:Nat) (hf:∀ x,(f x).length=k):∀ (l:List α) (i:Nat) (h:i<l.length) (j:Nat),j<k->(l.flatMap f)[i*k+j]? = (f l[i])[j]?
 | [],i,h,_,_=>by simp at h
 | x :: r,0,_,j,hj=>by
   have:=hf x;simp only [List.flatMap_cons,List.getElem_cons_zero];rw [List.getElem?_append_left (by omega),Nat.zero_mul,Nat.zero_add]
 | x :: r,i+1,h,j,hj=>by
   have:=hf x;have e:(i+1)*k=i*k+k:=Nat.succ_mul i k;simp only [List.flatMap_cons,List.getElem_cons_succ];rw [List.getElem?_append_right (by omega),show (i+1)*k+j - (f x).length=i*k+j from by omega];exact zjt f k hf r i (by simpa using h) j hj
structure DeAt (w:World) (b o:Nat) (x:De):Prop where
 lt:b<w.heap.size
 c0:w.cell? ⟨b,o,none⟩=some (.int .i64 x.kind)
 c1:w.cell? ⟨b,o+1,none⟩=some (.string x.name)
 c2:w.cell? ⟨b,o+2,none⟩=some (.bool x.pub)
 c3:w.cell? ⟨b,o+3,none⟩=some (.int .i64 x.n)
 wk:(Lit.int .i64 x.kind).wf=true
 wn:(Lit.int .i64 x.n).wf=true
 wna:x.name.size<=maxLen
structure PrAt (w:World) (A:Nat->Prop) (b o:Nat) (x:Pr) (a1:Option Addr) (c1':Nat) (a2:Option Addr) (c2':Nat) (a3:Option Addr) (c3':Nat):Prop where
 lt:b<w.heap.size
 c0:w.cell? ⟨b,o,none⟩=some (.string x.name)
 c1:w.cell? ⟨b,o+1,none⟩=some (.bool x.pub)
 c2:w.cell? ⟨b,o+2,none⟩=some (.slice a1 x.params.length c1')
 c3:w.cell? ⟨b,o+3,none⟩=some (.slice a2 x.locals.length c2')
 c4:w.cell? ⟨b,o+4,none⟩=some (.slice a3 x.body.length c3')
 params:DAt w A a1 x.params.length (zax x.params)
 locals:DAt w A a2 x.locals.length (zax x.locals)
 body:DAt w A a3 x.body.length (za0 x.body)
 wna:x.name.size<=maxLen
structure MoAt (w:World) (A:Nat->Prop) (m:Mo) (v:Value) (a1:Option Addr) (c1:Nat) (a2:Option Addr) (c2:Nat) (a3:Option Addr) (c3:Nat) (a4:Option Addr) (c4:Nat):Prop where
 val:v = .agg #[.string m.name,.slice a1 m.uses.length c1,.slice a2 m.decls.length c2,.slice a3 m.procs.length c3,.slice a4 m.main.length c4]
 wna:m.name.size<=maxLen
 uses:DAt w A a1 m.uses.length (zax m.uses)
 decls:DAt w A a2 m.decls.length (zfk m.decls)
 procs:DAt w A a3 m.procs.length (zf9 m.procs)
 main:DAt w A a4 m.main.length (za0 m.main)
theorem MoAt.later {w w':World} {A:Nat->Prop} {m:Mo} {v:Value} {a1 a2 a3 a4:Option Addr} {c1 c2 c3 c4:Nat} (h:MoAt w A m v a1 c1 a2 c2 a3 c3 a4 c4) (hb:Below w.heap.size w w'):MoAt w' A m v a1 c1 a2 c2 a3 c3 a4 c4:=
 ⟨h.val,h.wna,h.uses.later hb,h.decls.later hb,h.procs.later hb,h.main.later hb⟩
theorem DAt.str {w:World} {A:Nat->Prop} {a:Option Addr} {l:List ByteArray} (h:DAt w A a l.length (zax l)) (i:Nat) (hi:i<l.length):∃ b off,a=some ⟨b,off,none⟩/\b<w.heap.size/\w.cell? ⟨b,off+i,none⟩=some (.string l[i])/\l[i].size<=maxLen:=by
 obtain ⟨b,off,ha,hb,hc⟩:=h.cell (by omega);obtain ⟨v,hv,hd⟩:=hc i (.str l[i]) (by simp [zax,hi]);obtain ⟨rfl,h2⟩:=zfh hd;exact ⟨b,off,ha,hb,hv,h2⟩
theorem DAt.de {w:World} {A:Nat->Prop} {a:Option Addr} {l:List De} (h:DAt w A a l.length (zfk l)) (i:Nat) (hi:i<l.length):∃ b off,a=some ⟨b,off,none⟩/\DeAt w b (off+i*4) l[i]:=by
 obtain ⟨b,off,ha,hb,hc⟩:=h.cell (by omega);generalize hx:l[i]=x;obtain ⟨kind,name,pub,n⟩:=x
 have g:∀ j d,j<4->(De.mk kind name pub n).ds[j]? = some d->∃ v,w.cell? ⟨b,off+i*4+j,none⟩=some v/\zel w A d v:=fun j d hj hd=>by
  rw [Nat.add_assoc];exact hc (i*4+j) d ((zjt De.ds 4 (fun _=>rfl) l i hi j hj).trans (by rw [hx];exact hd))
 obtain ⟨v0,k0,d0⟩:=g 0 (.int kind) (by omega) (by simp [De.ds]);obtain ⟨v1,k1,d1⟩:=g 1 (.str name) (by omega) (by simp [De.ds]);obtain ⟨v2,k2,d2⟩:=g 2 (.bool pub) (by omega) (by simp [De.ds]);obtain ⟨v3,k3,d3⟩:=g 3 (.int n) (by omega) (by simp [De.ds]);obtain ⟨rfl,w0⟩:=zkx d0;obtain ⟨rfl,w1⟩:=zfh d1;obtain rfl:=zr0 d2;obtain ⟨rfl,w3⟩:=zkx d3;exact ⟨b,off,ha,hb,k0,k1,k2,k3,w0,w3,w1⟩
theorem DAt.pr {w:World} {A:Nat->Prop} {a:Option Addr} {l:List Pr} (h:DAt w A a l.length (zf9 l)) (i:Nat) (hi:i<l.length):∃ b off a1 c1 a2 c2 a3 c3,a=some ⟨b,off,none⟩/\PrAt w A b (off+i*5) l[i] a1 c1 a2 c2 a3 c3:=by
 obtain ⟨b,off,ha,hb,hc⟩:=h.cell (by omega);generalize hx:l[i]=x;obtain ⟨name,pub,params,locals,body⟩:=x
 have g:∀ j d,j<5->(Pr.mk name pub params locals body).ds[j]? = some d->∃ v,w.cell? ⟨b,off+i*5+j,none⟩=some v/\zel w A d v:=fun j d hj hd=>by
  rw [Nat.add_assoc];exact hc (i*5+j) d ((zjt Pr.ds 5 (fun _=>rfl) l i hi j hj).trans (by rw [hx];exact hd))
 obtain ⟨v0,k0,d0⟩:=g 0 (.str name) (by omega) (by simp [Pr.ds]);obtain ⟨v1,k1,d1⟩:=g 1 (.bool pub) (by omega) (by simp [Pr.ds]);obtain ⟨v2,k2,d2⟩:=g 2 (.list params.length (zax params)) (by omega) (by simp [Pr.ds]);obtain ⟨v3,k3,d3⟩:=g 3 (.list locals.length (zax locals)) (by omega) (by simp [Pr.ds]);obtain ⟨v4,k4,d4⟩:=g 4 (.list body.length (za0 body)) (by omega) (by simp [Pr.ds]);obtain ⟨rfl,w0⟩:=zfh d0;obtain rfl:=zr0 d1;obtain ⟨a1,c1,rfl,h1⟩:=zb1 d2;obtain ⟨a2,c2,rfl,h2⟩:=zb1 d3;obtain ⟨a3,c3,rfl,h3⟩:=zb1 d4;exact ⟨b,off,a1,c1,a2,c2,a3,c3,ha,hb,k0,k1,k2,k3,k4,h1,h2,h3,w0⟩
theorem DAt.mo {w:World} {A:Nat->Prop} {a:Option Addr} {l:List Mo} (h:DAt w A a l.length (z3p l)) (i:Nat) (hi:i<l.length):∃ b off v a1 c1 a2 c2 a3 c3 a4 c4,a=some ⟨b,off,none⟩/\b<w.heap.size/\MoAt w A l[i] v a1 c1 a2 c2 a3 c3 a4 c4/\
 w.cell? ⟨b,off+i*5,none⟩=some (.string l[i].name)/\w.cell? ⟨b,off+i*5+1,none⟩=some (.slice a1 l[i].uses.length c1)/\w.cell? ⟨b,off+i*5+2,none⟩=some (.slice a2 l[i].decls.length c2)/\
 w.cell? ⟨b,off+i*5+3,none⟩=some (.slice a3 l[i].procs.length c3)/\w.cell? ⟨b,off+i*5+4,none⟩=some (.slice a4 l[i].main.length c4):=by
 obtain ⟨b,off,ha,hb,hc⟩:=h.cell (by omega);generalize hx:l[i]=x;obtain ⟨name,uses,decls,procs,main⟩:=x
 have g:∀ j d,j<5->(Mo.mk name uses decls procs main).ds[j]? = some d->∃ v,w.cell? ⟨b,off+i*5+j,none⟩=some v/\zel w A d v:=fun j d hj hd=>by
  rw [Nat.add_assoc];exact hc (i*5+j) d ((zjt Mo.ds 5 (fun _=>rfl) l i hi j hj).trans (by rw [hx];exact hd))
 obtain ⟨v0,k0,d0⟩:=g 0 (.str name) (by omega) (by simp [Mo.ds]);obtain ⟨v1,k1,d1⟩:=g 1 (.list uses.length (zax uses)) (by omega) (by simp [Mo.ds]);obtain ⟨v2,k2,d2⟩:=g 2 (.list decls.length (zfk decls)) (by omega) (by simp [Mo.ds,zfk]);obtain ⟨v3,k3,d3⟩:=g 3 (.list procs.length (zf9 procs)) (by omega) (by simp [Mo.ds,zf9]);obtain ⟨v4,k4,d4⟩:=g 4 (.list main.length (za0 main)) (by omega) (by simp [Mo.ds]);obtain ⟨rfl,w0⟩:=zfh d0;obtain ⟨a1,c1,rfl,h1⟩:=zb1 d1;obtain ⟨a2,c2,rfl,h2⟩:=zb1 d2;obtain ⟨a3,c3,rfl,h3⟩:=zb1 d3;obtain ⟨a4,c4,rfl,h4⟩:=zb1 d4;exact ⟨b,off,_,a1,c1,a2,c2,a3,c3,a4,c4,ha,hb,⟨rfl,w0,h1,h2,h3,h4⟩,k0,k1,k2,k3,k4⟩
end Go.Proofs.YtcekpobmbmnplaaGreatDoor

namespace Go.Proofs.YtcekpobmbmnplaaGreatDoor
set_option maxRecDepth 100000
set_option maxHeartbeats 800000
open Go.RowKit
def zhb (t:Tk):List UInt8:=if t.kind=2 then Lib.decDigits t.n.toNat else t.text.data.toList
theorem zo0 (t:Tk):t.txt=strOf (zhb t):=by
 unfold Tk.txt zhb;split
 . rfl
 . exact (za8 _).symm
def showL:List Tk->List UInt8
 | []=>[]
 | t :: r=>zhb t++r.flatMap (fun t=>32 :: zhb t)
theorem zta (l:List Tk) (t:Tk):showL (l++[t])=showL l++(if l.length=0 then [] else [32])++zhb t:=by
 cases l with
 | nil=>simp [showL]
 | cons x r=>simp [showL,List.flatMap_append]
def zam (ts:List Tk):Prop:=ts.all zd7=true/\ts.all Tk.okB=true
theorem zam.get {ts:List Tk} (h:zam ts) (k:Nat) (hk:k<ts.length):zd7 ts[k]=true/\Tk.okB ts[k]=true:=
 ⟨List.all_eq_true.1 h.1 _ (List.getElem_mem _),List.all_eq_true.1 h.2 _ (List.getElem_mem _)⟩
theorem zwd {t:Tk} (h:Tk.okB t=true):t.inB:=by
 intro hk;unfold Tk.okB at h;rw [if_neg (by omega),if_pos hk] at h;simp at h;exact h.2
theorem zr3 {l:List UInt8} (h:Lx.nameB l=true):l.length<=8:=by
 unfold Lx.nameB at h;simp at h;exact h.1.2
theorem zr4 {l:List UInt8} (h:Lx.signL l=true):l.length=1:=by
 match l with
 | [_]=>rfl
 | []=>simp [Lx.signL] at h
 | _ :: _ :: _=>simp [Lx.signL] at h
theorem zqr {t:Tk} (h:Tk.okB t=true):(zhb t).length<=13:=by
 unfold zhb
 by_cases k2:t.kind=2
 . rw [if_pos k2]
   have:=zwd h k2;exact Lx.dec_len_tok 12 _ (by omega)
 . rw [if_neg k2]
   unfold Tk.okB at h
   by_cases k1:t.kind=1
   . rw [if_pos k1] at h;simp at h;have:=zr3 h.2;omega
   . rw [if_neg k1,if_neg k2] at h;simp at h;have:=zr4 h.2;omega
theorem zr5 {t:Tk} (h:Tk.okB t=true):t.txt.size<=13:=by rw [zo0,zbr];exact zqr h
theorem show_take_snoc (ts:List Tk) (k:Nat) (hk:k<ts.length):showL (ts.take (k+1))=showL (ts.take k)++(if k=0 then [] else [32])++zhb ts[k]:=by
 rw [List.take_succ_eq_append_getElem hk,zta,List.length_take,Nat.min_eq_left (by omega)]
theorem zno {ts:List Tk} (h:zam ts):∀ k,k<=ts.length->(showL (ts.take k)).length<=14*k:=by
 intro k
 induction k with
 | zero=>intro _;simp [showL]
 | succ k ih=>
   intro hk;rw [show_take_snoc ts k (by omega)];have h1:=ih (by omega);have h2:=zqr (h.get k (by omega)).2;rw [List.length_append,List.length_append]
   split<;>simp<;>omega
theorem zx5:(⟨#[32]⟩:ByteArray)=strOf [32]:=rfl
theorem zky (ts:List Tk) (k:Nat) (hk:k<ts.length) (h0:k=0):strOf (showL (ts.take k))++ts[k].txt=strOf (showL (ts.take (k+1))):=by
 rw [zo0,zad,show_take_snoc ts k hk,if_pos h0];simp
theorem zlg (ts:List Tk) (k:Nat) (hk:k<ts.length) (h0:0<k):strOf (showL (ts.take k))++⟨#[32]⟩++ts[k].txt=strOf (showL (ts.take (k+1))):=by
 rw [zo0,zx5,zad,zad,show_take_snoc ts k hk,if_neg (by omega)]
theorem zo1 (a:Option Addr) (cap:Nat) (ts:List Tk) (w:World) (hT:zb9 w a ts) (hl:ts.length<=4096) (hR:zam ts) :
 Calls Tryz.prog 57 #[.slice a ts.length cap] w fun e w'=>e = .returned (.string (strOf (showL ts)))/\Below w.heap.size w w':=by
 have HT:Hid (zb9 w a ts):=hT;have HR:Hid (zam ts):=hR;clear hT hR;go_enter Tryz.func57,Tryz.ntmps57;go_wp2_with fail
 go_loopw [4,3] (fun i s wr=>∃ k:Nat,k<=ts.length/\i = .int .i64 k/\s = .string (strOf (showL (ts.take k)))/\Below w.heap.size w wr) (fun i _ _=>ts.length - (intOf i).toNat)
 case atStart=>exact ⟨0,Nat.zero_le _,rfl,rfl,Below.refl _ _⟩
 case round=>
  obtain ⟨k,hk,rfl,rfl,hb⟩:=hrel
  by_cases hlt:k<ts.length
  . obtain ⟨b,off,rfl,hT⟩:=(HT.out.later hb).place hlt
    have hc0:=hT.kind k hlt;have hc1:=hT.num k hlt;have hc2:=hT.text k hlt;clear hT;have hin:=HR.out.get k hlt;have HI:Hid (ts[k].inB):=zwd hin.2;have hts:=zr5 hin.2;clear hin
    have hss:(strOf (showL (ts.take k))).size<=60000:=by rw [zbr];have:=zno HR.out k hk;omega
    by_cases h0:k=0
    . have HS:Hid (strOf (showL (ts.take k))++ts[k].txt=strOf (showL (ts.take (k+1)))):=zky ts k hlt h0
      have h0':¬ 0<k:=by omega
      clear h0;generalize strOf (showL (ts.take k))=S at *;go_wp2_with fail;refine (zkz ts[k] _ HI.out).mono ?_;rintro e w' ⟨rfl,hb2⟩;go_wp2_with fail;go_roundw
      case rel=>exact ⟨k+1,by omega,by go_num,by rw [HS.out],hb.trans (hb2.mono hb.size)⟩
      case measure=>simp [intOf];omega
    . have h0':0<k:=by omega
      have HS:Hid (strOf (showL (ts.take k))++⟨#[32]⟩++ts[k].txt=strOf (showL (ts.take (k+1)))):=zlg ts k hlt h0';clear h0;generalize strOf (showL (ts.take k))=S at *;go_wp2_with fail;refine (zkz ts[k] _ HI.out).mono ?_;rintro e w' ⟨rfl,hb2⟩;go_wp2_with fail;go_roundw
      case rel=>exact ⟨k+1,by omega,by go_num,by rw [HS.out],hb.trans (hb2.mono hb.size)⟩
      case measure=>simp [intOf];omega
  . have HF:Hid (showL (ts.take k)=showL ts):=by show showL _=_;rw [List.take_of_length_le (by omega)]
    go_wp2_with fail;go_ret;exact ⟨zbu (by rw [HF.out]),hb⟩
end Go.Proofs.YtcekpobmbmnplaaGreatDoor

namespace Go.Proofs.YtcekpobmbmnplaaGreatDoor
set_option maxRecDepth 100000
set_option maxHeartbeats 1000000
open Go.RowKit
theorem zac {w:World} {b:Nat} {o:Obj} (h:w.heap[b]? = some o):b<w.heap.size:=by
 rcases Nat.lt_or_ge b w.heap.size with h' | h'
 . exact h'
 . simp [Array.getElem?_eq_none h'] at h
theorem zeh {T e:TypeId} {B b:Nat} {bs:List Value} {W W':World} (h:Lib.IsBuilderF T e B b bs W) (hb:Below W.heap.size W W'):Lib.IsBuilderF T e B b bs W':=by
 have key:∀ p,Lib.BuilderAtF T e B b p bs W->Lib.BuilderAtF T e B b p bs W':=by
  rintro p ⟨hB,v,hc,⟨h1,h2⟩,hne⟩;refine ⟨hB,v,(hb.block b (zac hc)).trans hc,⟨h1,?_⟩,hne⟩
  rcases h2 with h2 | ⟨g,cap,cur,fz,hv,hg,hc,hrest⟩
  . exact Or.inl h2
  . exact Or.inr ⟨g,cap,cur,fz,hv,hg,(hb.block g (zac hc)).trans hc,hrest⟩
 rcases h with h | h
 . exact Or.inl (key _ h)
 . exact Or.inr (key _ h)
theorem znm (ts:List Tk) (k:Nat) (hk:k<ts.length) (h0:k=0):Lib.byteCells (showL (ts.take k))++Lib.strCells ts[k].txt=Lib.byteCells (showL (ts.take (k+1))):=by
 rw [zo0,Lib.strCells_eq,zdh,← Lib.byteCells_append,show_take_snoc ts k hk,if_pos h0,List.append_nil]
theorem zox (ts:List Tk) (k:Nat) (hk:k<ts.length) (h0:0<k):Lib.byteCells (showL (ts.take k))++[.int .u8 32]++Lib.strCells ts[k].txt=Lib.byteCells (showL (ts.take (k+1))):=by
 rw [zo0,Lib.strCells_eq,zdh,show_take_snoc ts k hk,if_neg (by omega),Lib.byteCells_append,Lib.byteCells_append]
 rfl
def showR (ts:List Tk):ByteArray:=if checkN ts=0 then strOf (showL ts) else ⟨#[]⟩
theorem zkw {ts:List Tk} (h:checkN ts=0):zam ts/\ts.length<=4096:=by
 unfold checkN at h
 split at h
 . split at h
   . split at h
     . omega
     . exact ⟨⟨by assumption,by assumption⟩,by omega⟩
   . omega
 . omega
theorem zjs (a:Option Addr) (cap:Nat) (ts:List Tk) (w:World) (hT:zb9 w a ts) (hl:ts.length<=1000000000000000) (htab:Tab w) :
 Calls Tryz.prog 14 #[.slice a ts.length cap] w fun e w'=>e = .returned (.tuple #[.string (showR ts),.int .i64 (checkN ts)])/\Below w.heap.size w w':=by
 have HT:Hid (zb9 w a ts):=hT;clear hT
 by_cases h0:checkN ts=0
 . obtain ⟨hR,hl4⟩:=zkw h0
   have HR:Hid (zam ts):=hR
   have HC:Hid (∀ (w:World),zb9 w a ts->Calls Tryz.prog 31 #[.slice a ts.length cap] w fun e w'=>e = .returned (.int .i64 0)/\Below w.heap.size w w'):=fun w hT=>by
    have:=zkd a cap ts w hT hl;rw [h0] at this;exact this
   have HE:Hid (showR ts=strOf (showL ts)/\checkN ts=0):=⟨if_pos h0,h0⟩
   clear h0 hR hl;go_enter Tryz.func14,Tryz.ntmps14;go_wp2_with fail;refine (HC.out _ HT.out).mono ?_;rintro e w1 ⟨rfl,hb1⟩;clear HC;go_wp2_with fail
   go_loopw [15,6,7] (fun i _ _ wr=>∃ k:Nat,k<=ts.length/\i = .int .i64 k/\Lib.IsBuilderF 66 5 w1.heap.size w1.heap.size (Lib.byteCells (showL (ts.take k))) wr/\Below w1.heap.size w1 wr) (fun i _ _ _=>ts.length - (intOf i).toNat)
   case atStart=>exact ⟨0,Nat.zero_le _,rfl,Lib.IsBuilderF.of (Lib.fresh_isBuilder 66 5 w1),(Below.refl _ _).alloc (Nat.le_refl _) _⟩
   case round=>
    obtain ⟨k,hk,rfl,hB,hb⟩:=hrel
    by_cases hlt:k<ts.length
    . obtain ⟨b,off,rfl,hT⟩:=((HT.out.later hb1).later hb).place hlt
      have hc0:=hT.kind k hlt;have hc1:=hT.num k hlt;have hc2:=hT.text k hlt;have hlb:=hT.lt;clear hT;have hin:=HR.out.get k hlt;have HI:Hid (ts[k].inB):=zwd hin.2;have hts:=zr5 hin.2;clear hin
      have hss:(Lib.byteCells (showL (ts.take k))).length<=60000:=by rw [Lib.byteCells_length];have:=zno HR.out k hk;omega
      have HB:Hid (Lib.IsBuilderF 66 5 w1.heap.size w1.heap.size (Lib.byteCells (showL (ts.take k))) wr):=hB;have htr:Tab wr:=(htab.later hb1).later hb
      have hws:w1.heap.size<wr.heap.size:=by
       rcases hB with h | h
       . exact h.lt
       . exact h.lt
      clear hB
      by_cases h0:k=0
      . have HS:Hid (Lib.byteCells (showL (ts.take k))++Lib.strCells ts[k].txt=Lib.byteCells (showL (ts.take (k+1)))):=znm ts k hlt h0
        have h0':¬ 0<k:=by omega
        clear h0;generalize Lib.byteCells (showL (ts.take k))=bs at *;go_wp2_with fail;refine (zir ts[k] _ HI.out ?_).mono ?_
        . exact htr.later ((Below.refl _ _).alloc (Nat.le_refl _) _)
        rintro e w3 ⟨rfl,hb3⟩;have hB3:=zeh (zeh HB.out ((Below.refl _ _).alloc (Nat.le_refl _) (Obj.cells #[Value.int IntKind.i64 ts[k].kind,Value.int IntKind.i64 ts[k].n,Value.string ts[k].text] 68))) hb3;have hz3:=hb3.size;simp at hz3;go_wp2_with fail;refine (Tryz.Builder_WriteString_k w1.heap.size w1.heap.size bs ts[k].txt _ hB3 (by omega) (by omega)).mono ?_;rintro e w4 ⟨rfl,hB4,hb4,hO4⟩;clear hB3 hO4;go_wp2_with fail;go_roundw
        case rel=>exact ⟨k+1,by omega,by go_num,by rw [← HS.out];exact Or.inr hB4,((hb.alloc hb.size _).trans (hb3.mono (by simp;omega))).trans hb4⟩
        case measure=>simp [intOf];omega
      . have h0':0<k:=by omega
        have HS:Hid (Lib.byteCells (showL (ts.take k))++[.int .u8 32]++Lib.strCells ts[k].txt=Lib.byteCells (showL (ts.take (k+1)))):=zox ts k hlt h0';clear h0;generalize Lib.byteCells (showL (ts.take k))=bs at *;go_wp2_with fail;refine (Tryz.Builder_WriteByte_k w1.heap.size w1.heap.size bs 32 _ ?_ (by omega) (by simp;omega)).mono ?_
        . exact zeh HB.out ((Below.refl _ _).alloc (Nat.le_refl _) _)
        rintro e w2 ⟨rfl,hB2,hb2,hO2⟩
        have hh:w2.heap[wr.heap.size]? = some (Obj.cells #[Value.int IntKind.i64 ts[k].kind,Value.int IntKind.i64 ts[k].n,Value.string ts[k].text] 68):=
         hO2 wr.heap.size _ (_root_.Go.heap_alloc_new wr _) (by simp;omega) (fun c fz h=>by simp at h)
        have hd0:w2.cell? ⟨wr.heap.size,0,none⟩=some (.int .i64 ts[k].kind):=by rw [Lib.cell_of_heap hh];rfl
        have hd1:w2.cell? ⟨wr.heap.size,1,none⟩=some (.int .i64 ts[k].n):=by rw [Lib.cell_of_heap hh];rfl
        have hd2:w2.cell? ⟨wr.heap.size,2,none⟩=some (.string ts[k].text):=by rw [Lib.cell_of_heap hh];rfl
        have htb2:Tab w2:=by
         refine ((htr.later ((Below.refl _ _).alloc (Nat.le_refl _) _)).below (B:=w1.heap.size) ?_ hb2);exact (htab.later hb1).2
        have hz2:=hb2.size;simp at hz2;clear hO2 hh;go_wp2_with fail;refine (zir ts[k] _ HI.out htb2).mono ?_;rintro e w3 ⟨rfl,hb3⟩;have hB3:=zeh (Or.inr hB2) hb3;have hz3:=hb3.size;clear hd0 hd1 hd2;go_wp2_with fail;refine (Tryz.Builder_WriteString_k w1.heap.size w1.heap.size (bs++[.int .u8 32]) ts[k].txt _ hB3 (by rw [List.length_append];simp only [List.length_cons,List.length_nil];omega) (by omega)).mono ?_;rintro e w4 ⟨rfl,hB4,hb4,hO4⟩;clear hB3 hO4;go_wp2_with fail;go_roundw
        case rel=>exact ⟨k+1,by omega,by go_num,by rw [← HS.out];exact Or.inr hB4,(((hb.alloc hb.size _).trans hb2).trans (hb3.mono (by omega))).trans hb4⟩
        case measure=>simp [intOf];omega
    . have HF:Hid (showL (ts.take k)=showL ts):=by show showL _=_;rw [List.take_of_length_le (by omega)]
      go_wp2_with fail;refine (Tryz.Builder_String_any_k w1.heap.size w1.heap.size (showL (ts.take k)) _ hB hb.size).mono ?_;rintro e w5 ⟨rfl,hB5,hb5,hO5⟩;clear hB5 hO5 hB;go_wp2_with fail;go_ret2;exact ⟨by rw [HE.out.1,HE.out.2,← HF.out];rfl,hb1.trans ((hb.trans hb5).mono hb1.size)⟩
 . have HC:Hid (Calls Tryz.prog 31 #[.slice a ts.length cap] w fun e w'=>e = .returned (.int .i64 (checkN ts))/\Below w.heap.size w w'):=zkd a cap ts w HT.out hl
   have HE:Hid (showR ts=⟨#[]⟩):=if_neg h0
   have hne:(checkN ts != 0)=true:=by rw [bne_iff_ne];exact h0
   clear h0;generalize checkN ts=N at *;go_enter Tryz.func14,Tryz.ntmps14;go_wp2_with fail;refine HC.out.mono ?_;rintro e w1 ⟨rfl,hb1⟩;clear HC;go_wp2_with fail;go_ret2;exact ⟨by rw [HE.out];rfl,hb1⟩
end Go.Proofs.YtcekpobmbmnplaaGreatDoor
