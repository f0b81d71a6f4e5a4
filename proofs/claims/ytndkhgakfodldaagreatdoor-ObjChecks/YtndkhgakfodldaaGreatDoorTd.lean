/-
  Modules without the program: what lies in memory as a tree of numbers, texts, bools and lists; and how memory may change around it.
-/
import Derived.Test.YtndkhgakfodldaaGreatDoorLeafc
import Derived.Deep.AppendLies
namespace Go.Proofs.YtndkhgakfodldaaGreatDoor
open Go.RowKit
inductive D where
 | int (n:Int)
 | str (s:ByteArray)
 | bool (b:Bool)
 | list (n:Nat) (ds:List D)
def CellsIn (w:World) (b off:Nat) (l:List Value):Prop:=∀ j u,l[j]? = some u->w.cell? ⟨b,off+j,none⟩=some u
mutual
def DVal (w:World) (A:Nat->Prop):D->Value->Prop
 | .int n,v=>v = .int .i64 n/\(Lit.int .i64 n).wf=true
 | .str s,v=>v = .string s/\s.size<=maxLen
 | .bool b,v=>v = .bool b
 | .list n ds,v=>∃ a cap,v = .slice a n cap/\n<=ds.length/\ds.length<=17592186044416/\(n=0\/∃ b off cs,a=some ⟨b,off,none⟩/\A b/\b<w.heap.size/\CellsIn w b off cs/\DVals w A ds cs)
def DVals (w:World) (A:Nat->Prop):List D->List Value->Prop
 | [],cs=>cs=[]
 | d :: ds,cs=>∃ v r,cs=v :: r/\DVal w A d v/\DVals w A ds r
end
def Stays (lo:Nat) (w w':World):Prop:=w.heap.size<=w'.heap.size/\∀ k,lo<=k->k<w.heap.size->w'.heap[k]? = w.heap[k]?
theorem Stays.refl (lo:Nat) (w:World):Stays lo w w:=⟨Nat.le_refl _,fun _ _ _=>rfl⟩
theorem Stays.trans {lo:Nat} {a b c:World} (h:Stays lo a b) (k:Stays lo b c):Stays lo a c:=
 ⟨Nat.le_trans h.1 k.1,fun i h1 h2=>(k.2 i h1 (Nat.lt_of_lt_of_le h2 h.1)).trans (h.2 i h1 h2)⟩
theorem Stays.mono {lo lo':Nat} {w w':World} (h:Stays lo w w') (hl:lo<=lo'):Stays lo' w w':=⟨h.1,fun k h1 h2=>h.2 k (Nat.le_trans hl h1) h2⟩
theorem Stays.of_below {w w':World} (h:Below w.heap.size w w') (lo:Nat):Stays lo w w':=⟨h.size,fun k _ h2=>h.block k h2⟩
theorem Stays.cell {lo:Nat} {w w':World} (h:Stays lo w w') {b off:Nat} (h1:lo<=b) (h2:b<w.heap.size):w'.cell? ⟨b,off,none⟩=w.cell? ⟨b,off,none⟩:=
 World.cell?_of_block (w:=w) (h.2 b h1 h2)
theorem Stays.alloc {lo:Nat} {w w':World} (h:Stays lo w w') (o:Obj):Stays lo w (w'.alloc o):=
 h.trans (Stays.of_below ((Below.refl w'.heap.size w').alloc (Nat.le_refl _) o) lo)
def Moves (w:World) (A:Nat->Prop) (w':World) (A':Nat->Prop):Prop:=w.heap.size<=w'.heap.size/\∀ b,b<w.heap.size->A b->A' b/\w'.heap[b]? = w.heap[b]?
theorem Moves.refl (w:World) (A:Nat->Prop):Moves w A w A:=⟨Nat.le_refl _,fun _ _ h=>⟨h,rfl⟩⟩
theorem Moves.trans {w1 w2 w3:World} {A1 A2 A3:Nat->Prop} (h:Moves w1 A1 w2 A2) (k:Moves w2 A2 w3 A3):Moves w1 A1 w3 A3:=
 ⟨Nat.le_trans h.1 k.1,fun b hb ha=>⟨(k.2 b (Nat.lt_of_lt_of_le hb h.1) (h.2 b hb ha).1).1,(k.2 b (Nat.lt_of_lt_of_le hb h.1) (h.2 b hb ha).1).2.trans (h.2 b hb ha).2⟩⟩
theorem Moves.of_below {w w':World} (h:Below w.heap.size w w') (A:Nat->Prop):Moves w A w' A:=⟨h.size,fun b hb ha=>⟨ha,h.block b hb⟩⟩
theorem Moves.alloc {w w':World} {A A':Nat->Prop} (h:Moves w A w' A') (o:Obj):Moves w A (w'.alloc o) A':=h.trans (Moves.of_below ((Below.refl w'.heap.size w').alloc (Nat.le_refl _) o) A')
theorem Moves.lower {w:World} {lo lo':Nat} (h:lo'<=lo):Moves w (lo<=·) w (lo'<=·):=⟨Nat.le_refl _,fun _ _ ha=>⟨Nat.le_trans h ha,rfl⟩⟩
theorem CellsIn.moves {A A':Nat->Prop} {w w':World} {b off:Nat} {l:List Value} (h:CellsIn w b off l) (hs:Moves w A w' A') (h1:A b) (h2:b<w.heap.size):CellsIn w' b off l:=
 fun j u hj=>(World.cell?_of_block (w:=w) (hs.2 b h2 h1).2).trans (h j u hj)
mutual
theorem DVal.moves {A A':Nat->Prop} {w w':World} (hs:Moves w A w' A'):∀ (d:D) (v:Value),DVal w A d v->DVal w' A' d v
 | .int _,_,h=>h
 | .str _,_,h=>h
 | .bool _,_,h=>h
 | .list n ds,v,h=>by
   unfold DVal at h ⊢;obtain ⟨a,cap,h1,h2,h3,h4⟩:=h;refine ⟨a,cap,h1,h2,h3,?_⟩
   rcases h4 with h4 | ⟨b,off,cs,ha,hl,hb,hc,hx⟩
   . exact Or.inl h4
   . exact Or.inr ⟨b,off,cs,ha,(hs.2 b hb hl).1,Nat.lt_of_lt_of_le hb hs.1,hc.moves hs hl hb,DVals.moves hs ds cs hx⟩
theorem DVals.moves {A A':Nat->Prop} {w w':World} (hs:Moves w A w' A'):∀ (l:List D) (cs:List Value),DVals w A l cs->DVals w' A' l cs
 | [],_,h=>h
 | d :: ds,cs,h=>by
   unfold DVals at h ⊢;obtain ⟨v,r,h1,h2,h3⟩:=h;exact ⟨v,r,h1,DVal.moves hs d v h2,DVals.moves hs ds r h3⟩
end
theorem DVal.one {w:World} {lo:Nat->Prop}:∀ {d:D} {v:Value},DVal w lo d v->v.oneCell'=true
 | .int _,_,h=>by unfold DVal at h;rw [h.1];rfl
 | .str _,_,h=>by unfold DVal at h;rw [h.1];rfl
 | .bool _,_,h=>by unfold DVal at h;rw [h];rfl
 | .list _ _,_,h=>by unfold DVal at h;obtain ⟨a,cap,h,_⟩:=h;rw [h];rfl
theorem DVals.one {w:World} {lo:Nat->Prop}:∀ {l:List D} {cs:List Value},DVals w lo l cs->∀ u ∈ cs,u.oneCell'=true
 | [],_,h=>by unfold DVals at h;rw [h];intro u hu;cases hu
 | d :: ds,cs,h=>by
   unfold DVals at h;obtain ⟨v,r,rfl,h2,h3⟩:=h;intro u hu
   rcases List.mem_cons.1 hu with rfl | hu
   . exact h2.one
   . exact DVals.one h3 u hu
theorem DVals.len {w:World} {lo:Nat->Prop}:∀ {l:List D} {cs:List Value},DVals w lo l cs->cs.length=l.length
 | [],_,h=>by unfold DVals at h;rw [h];rfl
 | d :: ds,cs,h=>by
   unfold DVals at h;obtain ⟨v,r,rfl,h2,h3⟩:=h;simp [DVals.len h3]
theorem DVals.nil {w:World} {lo:Nat->Prop}:DVals w lo [] []:=by unfold DVals;rfl
theorem DVals.cons {w:World} {lo:Nat->Prop} {d:D} {ds:List D} {v:Value} {cs:List Value} (h:DVal w lo d v) (k:DVals w lo ds cs):DVals w lo (d :: ds) (v :: cs):=by
 unfold DVals;exact ⟨v,cs,rfl,h,k⟩
theorem DVals.append {w:World} {lo:Nat->Prop}:∀ {l m:List D} {cs es:List Value},DVals w lo l cs->DVals w lo m es->DVals w lo (l++m) (cs++es)
 | [],m,cs,es,h,k=>by unfold DVals at h;subst h;exact k
 | d :: ds,m,cs,es,h,k=>by
   unfold DVals at h;obtain ⟨v,r,rfl,h2,h3⟩:=h;exact DVals.cons h2 (DVals.append h3 k)
theorem DVals.get {w:World} {lo:Nat->Prop}:∀ {l:List D} {cs:List Value},DVals w lo l cs->∀ (j:Nat) (d:D),l[j]? = some d->∃ v,cs[j]? = some v/\DVal w lo d v
 | [],_,_,j,d,hj=>by simp at hj
 | e :: ds,cs,h,j,d,hj=>by
   unfold DVals at h;obtain ⟨v,r,rfl,h2,h3⟩:=h
   cases j with
   | zero=>simp at hj;subst hj;exact ⟨v,rfl,h2⟩
   | succ j=>simpa using DVals.get h3 j d (by simpa using hj)
theorem dint {w:World} {lo:Nat->Prop} {n:Int} (h:(Lit.int .i64 n).wf=true):DVal w lo (.int n) (.int .i64 n):=by unfold DVal;exact ⟨rfl,h⟩
theorem dstr {w:World} {lo:Nat->Prop} {s:ByteArray} (h:s.size<=maxLen):DVal w lo (.str s) (.string s):=by unfold DVal;exact ⟨rfl,h⟩
theorem dbool {w:World} {lo:Nat->Prop} {b:Bool}:DVal w lo (.bool b) (.bool b):=by unfold DVal;rfl
theorem dnil {w:World} {lo:Nat->Prop} {a:Option Addr} {cap:Nat}:DVal w lo (.list 0 []) (.slice a 0 cap):=by unfold DVal;exact ⟨a,cap,rfl,Nat.le_refl _,by simp,Or.inl rfl⟩
theorem dlist {w:World} {lo:Nat->Prop} {n b off cap:Nat} {ds:List D} {cs:List Value} (h1:n<=ds.length) (h2:ds.length<=17592186044416) (hl:lo b) (hb:b<w.heap.size) (hc:CellsIn w b off cs) (hx:DVals w lo ds cs):DVal w lo (.list n ds) (.slice (some ⟨b,off,none⟩) n cap):=by
 unfold DVal;exact ⟨_,cap,rfl,h1,h2,Or.inr ⟨b,off,cs,rfl,hl,hb,hc,hx⟩⟩
theorem dnum_of {w:World} {lo:Nat->Prop} {n:Int} {v:Value} (h:DVal w lo (.int n) v):v = .int .i64 n/\(Lit.int .i64 n).wf=true:=by unfold DVal at h;exact h
theorem dstr_of {w:World} {lo:Nat->Prop} {s:ByteArray} {v:Value} (h:DVal w lo (.str s) v):v = .string s/\s.size<=maxLen:=by unfold DVal at h;exact h
theorem dbool_of {w:World} {lo:Nat->Prop} {b:Bool} {v:Value} (h:DVal w lo (.bool b) v):v = .bool b:=by unfold DVal at h;exact h
def DAt (w:World) (lo:Nat->Prop) (a:Option Addr) (n:Nat) (ds:List D):Prop:=n<=ds.length/\ds.length<=17592186044416/\(n=0\/∃ b off cs,a=some ⟨b,off,none⟩/\lo b/\b<w.heap.size/\CellsIn w b off cs/\DVals w lo ds cs)
theorem dlist_of {w:World} {lo:Nat->Prop} {n:Nat} {ds:List D} {v:Value} (h:DVal w lo (.list n ds) v):∃ a cap,v = .slice a n cap/\DAt w lo a n ds:=by unfold DVal at h;exact h
theorem DAt.val {w:World} {lo:Nat->Prop} {n cap:Nat} {a:Option Addr} {ds:List D} (h:DAt w lo a n ds):DVal w lo (.list n ds) (.slice a n cap):=by unfold DVal;exact ⟨a,cap,rfl,h⟩
theorem DAt.moves {A A':Nat->Prop} {w w':World} {n:Nat} {a:Option Addr} {ds:List D} (h:DAt w A a n ds) (hs:Moves w A w' A'):DAt w' A' a n ds:=by
 obtain ⟨h1,h2,h3⟩:=h;refine ⟨h1,h2,?_⟩
 rcases h3 with h4 | ⟨b,off,cs,ha,hl,hb,hc,hx⟩
 . exact Or.inl h4
 . exact Or.inr ⟨b,off,cs,ha,(hs.2 b hb hl).1,Nat.lt_of_lt_of_le hb hs.1,hc.moves hs hl hb,DVals.moves hs ds cs hx⟩
theorem DAt.later {A:Nat->Prop} {w w':World} {n:Nat} {a:Option Addr} {ds:List D} (h:DAt w A a n ds) (hb:Below w.heap.size w w'):DAt w' A a n ds:=h.moves (Moves.of_below hb A)
theorem DAt.bound {A:Nat->Prop} {w:World} {n:Nat} {a:Option Addr} {ds:List D} (h:DAt w A a n ds):n<=17592186044416:=Nat.le_trans h.1 h.2.1
theorem DAt.cell {A:Nat->Prop} {w:World} {n:Nat} {a:Option Addr} {ds:List D} (h:DAt w A a n ds) (hn:0<n):∃ b off,a=some ⟨b,off,none⟩/\b<w.heap.size/\∀ (j:Nat) (d:D),ds[j]? = some d->∃ v,w.cell? ⟨b,off+j,none⟩=some v/\DVal w A d v:=by
 rcases h.2.2 with h0 | ⟨b,off,cs,ha,_,hb,hc,hx⟩
 . omega
 . refine ⟨b,off,ha,hb,fun j d hj=>?_⟩
   obtain ⟨v,hv,hd⟩:=hx.get j d hj;exact ⟨v,hc j v hv,hd⟩
inductive Ex where
 | mk (op n:Int) (mod name:ByteArray) (args:List Ex)
def Ex.op:Ex->Int | .mk op _ _ _ _=>op
def Ex.n:Ex->Int | .mk _ n _ _ _=>n
def Ex.mod:Ex->ByteArray | .mk _ _ m _ _=>m
def Ex.name:Ex->ByteArray | .mk _ _ _ m _=>m
def Ex.args:Ex->List Ex | .mk _ _ _ _ l=>l
inductive St where
 | mk (op:Int) (mod name:ByteArray) (args:List Ex) (body other:List St)
def St.op:St->Int | .mk op _ _ _ _ _=>op
def St.mod:St->ByteArray | .mk _ m _ _ _ _=>m
def St.name:St->ByteArray | .mk _ _ m _ _ _=>m
def St.args:St->List Ex | .mk _ _ _ l _ _=>l
def St.body:St->List St | .mk _ _ _ _ l _=>l
def St.other:St->List St | .mk _ _ _ _ _ l=>l
mutual
def Ex.ds:Ex->List D
 | .mk op n mod name args=>[.int op,.int n,.str mod,.str name,.list args.length (exsD args)]
def exsD:List Ex->List D
 | []=>[]
 | x :: r=>x.ds++exsD r
end
mutual
def St.ds:St->List D
 | .mk op mod name args body other=>[.int op,.str mod,.str name,.list args.length (exsD args),.list body.length (stsD body),.list other.length (stsD other)]
def stsD:List St->List D
 | []=>[]
 | x :: r=>x.ds++stsD r
end
theorem Ex.ds_len (x:Ex):x.ds.length=5:=by cases x;unfold Ex.ds;rfl
theorem St.ds_len (x:St):x.ds.length=6:=by cases x;unfold St.ds;rfl
theorem exsD_append:∀ (l m:List Ex),exsD (l++m)=exsD l++exsD m
 | [],m=>by simp [exsD]
 | x :: r,m=>by simp [exsD,exsD_append r m]
theorem stsD_append:∀ (l m:List St),stsD (l++m)=stsD l++stsD m
 | [],m=>by simp [stsD]
 | x :: r,m=>by simp [stsD,stsD_append r m]
theorem exsD_one (x:Ex):exsD [x]=x.ds:=by simp [exsD]
theorem stsD_one (x:St):stsD [x]=x.ds:=by simp [stsD]
theorem exsD_get:∀ (l:List Ex) (i:Nat) (h:i<l.length) (j:Nat),j<5->(exsD l)[i*5+j]? = (l[i].ds)[j]?
 | [],i,h,_,_=>by simp at h
 | x :: r,0,_,j,hj=>by
   have:=x.ds_len;simp only [exsD,List.getElem_cons_zero];rw [List.getElem?_append_left (by omega),Nat.zero_mul,Nat.zero_add]
 | x :: r,i+1,h,j,hj=>by
   have:=x.ds_len;simp only [exsD,List.getElem_cons_succ];rw [List.getElem?_append_right (by omega),show (i+1)*5+j - x.ds.length=i*5+j from by omega];exact exsD_get r i (by simpa using h) j hj
theorem stsD_get:∀ (l:List St) (i:Nat) (h:i<l.length) (j:Nat),j<6->(stsD l)[i*6+j]? = (l[i].ds)[j]?
 | [],i,h,_,_=>by simp at h
 | x :: r,0,_,j,hj=>by
   have:=x.ds_len;simp only [stsD,List.getElem_cons_zero];rw [List.getElem?_append_left (by omega),Nat.zero_mul,Nat.zero_add]
 | x :: r,i+1,h,j,hj=>by
   have:=x.ds_len;simp only [stsD,List.getElem_cons_succ];rw [List.getElem?_append_right (by omega),show (i+1)*6+j - x.ds.length=i*6+j from by omega];exact stsD_get r i (by simpa using h) j hj
structure ExAt (w:World) (A:Nat->Prop) (b o:Nat) (x:Ex) (aa:Option Addr) (cap:Nat):Prop where
 lt:b<w.heap.size
 c0:w.cell? ⟨b,o,none⟩=some (.int .i64 x.op)
 c1:w.cell? ⟨b,o+1,none⟩=some (.int .i64 x.n)
 c2:w.cell? ⟨b,o+2,none⟩=some (.string x.mod)
 c3:w.cell? ⟨b,o+3,none⟩=some (.string x.name)
 c4:w.cell? ⟨b,o+4,none⟩=some (.slice aa x.args.length cap)
 args:DAt w A aa x.args.length (exsD x.args)
 wop:(Lit.int .i64 x.op).wf=true
 wn:(Lit.int .i64 x.n).wf=true
 wm:x.mod.size<=maxLen
 wna:x.name.size<=maxLen
structure StAt (w:World) (A:Nat->Prop) (b o:Nat) (x:St) (a1:Option Addr) (c1':Nat) (a2:Option Addr) (c2':Nat) (a3:Option Addr) (c3':Nat):Prop where
 lt:b<w.heap.size
 c0:w.cell? ⟨b,o,none⟩=some (.int .i64 x.op)
 c1:w.cell? ⟨b,o+1,none⟩=some (.string x.mod)
 c2:w.cell? ⟨b,o+2,none⟩=some (.string x.name)
 c3:w.cell? ⟨b,o+3,none⟩=some (.slice a1 x.args.length c1')
 c4:w.cell? ⟨b,o+4,none⟩=some (.slice a2 x.body.length c2')
 c5:w.cell? ⟨b,o+5,none⟩=some (.slice a3 x.other.length c3')
 args:DAt w A a1 x.args.length (exsD x.args)
 body:DAt w A a2 x.body.length (stsD x.body)
 other:DAt w A a3 x.other.length (stsD x.other)
 wop:(Lit.int .i64 x.op).wf=true
 wm:x.mod.size<=maxLen
 wna:x.name.size<=maxLen
theorem DAt.ex {w:World} {A:Nat->Prop} {a:Option Addr} {l:List Ex} (h:DAt w A a l.length (exsD l)) (i:Nat) (hi:i<l.length):∃ b off aa cap,a=some ⟨b,off,none⟩/\ExAt w A b (off+i*5) l[i] aa cap:=by
 obtain ⟨b,off,ha,hb,hc⟩:=h.cell (by omega);generalize hx:l[i]=x;obtain ⟨op,n,mod,name,args⟩:=x
 have g:∀ j d,j<5->(Ex.mk op n mod name args).ds[j]? = some d->∃ v,w.cell? ⟨b,off+i*5+j,none⟩=some v/\DVal w A d v:=fun j d hj hd=>by
  rw [Nat.add_assoc];exact hc (i*5+j) d ((exsD_get l i hi j hj).trans (by rw [hx];exact hd))
 obtain ⟨v0,k0,d0⟩:=g 0 (.int op) (by omega) (by simp [Ex.ds]);obtain ⟨v1,k1,d1⟩:=g 1 (.int n) (by omega) (by simp [Ex.ds]);obtain ⟨v2,k2,d2⟩:=g 2 (.str mod) (by omega) (by simp [Ex.ds]);obtain ⟨v3,k3,d3⟩:=g 3 (.str name) (by omega) (by simp [Ex.ds]);obtain ⟨v4,k4,d4⟩:=g 4 (.list args.length (exsD args)) (by omega) (by simp [Ex.ds]);obtain ⟨rfl,w0⟩:=dnum_of d0;obtain ⟨rfl,w1⟩:=dnum_of d1;obtain ⟨rfl,w2⟩:=dstr_of d2;obtain ⟨rfl,w3⟩:=dstr_of d3;obtain ⟨aa,cap,rfl,hA⟩:=dlist_of d4;exact ⟨b,off,aa,cap,ha,hb,k0,k1,k2,k3,k4,hA,w0,w1,w2,w3⟩
theorem DAt.st {w:World} {A:Nat->Prop} {a:Option Addr} {l:List St} (h:DAt w A a l.length (stsD l)) (i:Nat) (hi:i<l.length):∃ b off a1 c1 a2 c2 a3 c3,a=some ⟨b,off,none⟩/\StAt w A b (off+i*6) l[i] a1 c1 a2 c2 a3 c3:=by
 obtain ⟨b,off,ha,hb,hc⟩:=h.cell (by omega);generalize hx:l[i]=x;obtain ⟨op,mod,name,args,body,other⟩:=x
 have g:∀ j d,j<6->(St.mk op mod name args body other).ds[j]? = some d->∃ v,w.cell? ⟨b,off+i*6+j,none⟩=some v/\DVal w A d v:=fun j d hj hd=>by
  rw [Nat.add_assoc];exact hc (i*6+j) d ((stsD_get l i hi j hj).trans (by rw [hx];exact hd))
 obtain ⟨v0,k0,d0⟩:=g 0 (.int op) (by omega) (by simp [St.ds]);obtain ⟨v1,k1,d1⟩:=g 1 (.str mod) (by omega) (by simp [St.ds]);obtain ⟨v2,k2,d2⟩:=g 2 (.str name) (by omega) (by simp [St.ds]);obtain ⟨v3,k3,d3⟩:=g 3 (.list args.length (exsD args)) (by omega) (by simp [St.ds]);obtain ⟨v4,k4,d4⟩:=g 4 (.list body.length (stsD body)) (by omega) (by simp [St.ds]);obtain ⟨v5,k5,d5⟩:=g 5 (.list other.length (stsD other)) (by omega) (by simp [St.ds]);obtain ⟨rfl,w0⟩:=dnum_of d0;obtain ⟨rfl,w1⟩:=dstr_of d1;obtain ⟨rfl,w2⟩:=dstr_of d2;obtain ⟨a1,c1,rfl,h1⟩:=dlist_of d3;obtain ⟨a2,c2,rfl,h2⟩:=dlist_of d4;obtain ⟨a3,c3,rfl,h3⟩:=dlist_of d5;exact ⟨b,off,a1,c1,a2,c2,a3,c3,ha,hb,k0,k1,k2,k3,k4,k5,h1,h2,h3,w0,w1,w2⟩
structure De where
 kind:Int
 name:ByteArray
 pub:Bool
 n:Int
structure Pr where
 name:ByteArray
 pub:Bool
 params:List ByteArray
 locals:List ByteArray
 body:List St
structure Mo where
 name:ByteArray
 uses:List ByteArray
 decls:List De
 procs:List Pr
 main:List St
def De.ds (d:De):List D:=[.int d.kind,.str d.name,.bool d.pub,.int d.n]
def strsD (l:List ByteArray):List D:=l.map .str
def Pr.ds (p:Pr):List D:=[.str p.name,.bool p.pub,.list p.params.length (strsD p.params),.list p.locals.length (strsD p.locals),.list p.body.length (stsD p.body)]
def Mo.ds (m:Mo):List D:=[.str m.name,.list m.uses.length (strsD m.uses),.list m.decls.length (m.decls.flatMap De.ds),.list m.procs.length (m.procs.flatMap Pr.ds),.list m.main.length (stsD m.main)]
def prsD (l:List Pr):List D:=l.flatMap Pr.ds
def desD (l:List De):List D:=l.flatMap De.ds
def mosD (l:List Mo):List D:=l.flatMap Mo.ds
theorem flat_get {α:Type} (f:α->List D) (k:Nat) (hf:∀ x,(f x).length=k):∀ (l:List α) (i:Nat) (h:i<l.length) (j:Nat),j<k->(l.flatMap f)[i*k+j]? = (f l[i])[j]?
 | [],i,h,_,_=>by simp at h
 | x :: r,0,_,j,hj=>by
   have:=hf x;simp only [List.flatMap_cons,List.getElem_cons_zero];rw [List.getElem?_append_left (by omega),Nat.zero_mul,Nat.zero_add]
 | x :: r,i+1,h,j,hj=>by
   have:=hf x;have e:(i+1)*k=i*k+k:=Nat.succ_mul i k;simp only [List.flatMap_cons,List.getElem_cons_succ];rw [List.getElem?_append_right (by omega),show (i+1)*k+j - (f x).length=i*k+j from by omega];exact flat_get f k hf r i (by simpa using h) j hj
structure DeAt (w:World) (b o:Nat) (x:De):Prop where
 lt:b<w.heap.size
 c0:w.cell? ⟨b,o,none⟩=some (.int .i64 x.kind)
 c1:w.cell? ⟨b,o+1,none⟩=some (.string x.name)
 c2:w.cell? ⟨b,o+2,none⟩=some (.bool x.pub)
 c3:w.cell? ⟨b,o+3,none⟩=some (.int .i64 x.n)
 wk:(Lit.int .i64 x.kind).wf=true
 wn:(Lit.int .i64 x.n).wf=true
 wna:x.name.size<=maxLen
structure PrAt (w:World) (A:Nat->Prop) (b o:Nat) (x:Pr) (a1:Option Addr) (c1':Nat) (a2:Option Addr) (c2':Nat) (a3:Option Addr) (c3':Nat):Prop where
 lt:b<w.heap.size
 c0:w.cell? ⟨b,o,none⟩=some (.string x.name)
 c1:w.cell? ⟨b,o+1,none⟩=some (.bool x.pub)
 c2:w.cell? ⟨b,o+2,none⟩=some (.slice a1 x.params.length c1')
 c3:w.cell? ⟨b,o+3,none⟩=some (.slice a2 x.locals.length c2')
 c4:w.cell? ⟨b,o+4,none⟩=some (.slice a3 x.body.length c3')
 params:DAt w A a1 x.params.length (strsD x.params)
 locals:DAt w A a2 x.locals.length (strsD x.locals)
 body:DAt w A a3 x.body.length (stsD x.body)
 wna:x.name.size<=maxLen
structure MoAt (w:World) (A:Nat->Prop) (m:Mo) (v:Value) (a1:Option Addr) (c1:Nat) (a2:Option Addr) (c2:Nat) (a3:Option Addr) (c3:Nat) (a4:Option Addr) (c4:Nat):Prop where
 val:v = .agg #[.string m.name,.slice a1 m.uses.length c1,.slice a2 m.decls.length c2,.slice a3 m.procs.length c3,.slice a4 m.main.length c4]
 wna:m.name.size<=maxLen
 uses:DAt w A a1 m.uses.length (strsD m.uses)
 decls:DAt w A a2 m.decls.length (desD m.decls)
 procs:DAt w A a3 m.procs.length (prsD m.procs)
 main:DAt w A a4 m.main.length (stsD m.main)
theorem MoAt.later {w w':World} {A:Nat->Prop} {m:Mo} {v:Value} {a1 a2 a3 a4:Option Addr} {c1 c2 c3 c4:Nat} (h:MoAt w A m v a1 c1 a2 c2 a3 c3 a4 c4) (hb:Below w.heap.size w w'):MoAt w' A m v a1 c1 a2 c2 a3 c3 a4 c4:=
 ⟨h.val,h.wna,h.uses.later hb,h.decls.later hb,h.procs.later hb,h.main.later hb⟩
theorem DAt.str {w:World} {A:Nat->Prop} {a:Option Addr} {l:List ByteArray} (h:DAt w A a l.length (strsD l)) (i:Nat) (hi:i<l.length):∃ b off,a=some ⟨b,off,none⟩/\b<w.heap.size/\w.cell? ⟨b,off+i,none⟩=some (.string l[i])/\l[i].size<=maxLen:=by
 obtain ⟨b,off,ha,hb,hc⟩:=h.cell (by omega);obtain ⟨v,hv,hd⟩:=hc i (.str l[i]) (by simp [strsD,hi]);obtain ⟨rfl,h2⟩:=dstr_of hd;exact ⟨b,off,ha,hb,hv,h2⟩
theorem DAt.de {w:World} {A:Nat->Prop} {a:Option Addr} {l:List De} (h:DAt w A a l.length (desD l)) (i:Nat) (hi:i<l.length):∃ b off,a=some ⟨b,off,none⟩/\DeAt w b (off+i*4) l[i]:=by
 obtain ⟨b,off,ha,hb,hc⟩:=h.cell (by omega);generalize hx:l[i]=x;obtain ⟨kind,name,pub,n⟩:=x
 have g:∀ j d,j<4->(De.mk kind name pub n).ds[j]? = some d->∃ v,w.cell? ⟨b,off+i*4+j,none⟩=some v/\DVal w A d v:=fun j d hj hd=>by
  rw [Nat.add_assoc];exact hc (i*4+j) d ((flat_get De.ds 4 (fun _=>rfl) l i hi j hj).trans (by rw [hx];exact hd))
 obtain ⟨v0,k0,d0⟩:=g 0 (.int kind) (by omega) (by simp [De.ds]);obtain ⟨v1,k1,d1⟩:=g 1 (.str name) (by omega) (by simp [De.ds]);obtain ⟨v2,k2,d2⟩:=g 2 (.bool pub) (by omega) (by simp [De.ds]);obtain ⟨v3,k3,d3⟩:=g 3 (.int n) (by omega) (by simp [De.ds]);obtain ⟨rfl,w0⟩:=dnum_of d0;obtain ⟨rfl,w1⟩:=dstr_of d1;obtain rfl:=dbool_of d2;obtain ⟨rfl,w3⟩:=dnum_of d3;exact ⟨b,off,ha,hb,k0,k1,k2,k3,w0,w3,w1⟩
theorem DAt.pr {w:World} {A:Nat->Prop} {a:Option Addr} {l:List Pr} (h:DAt w A a l.length (prsD l)) (i:Nat) (hi:i<l.length):∃ b off a1 c1 a2 c2 a3 c3,a=some ⟨b,off,none⟩/\PrAt w A b (off+i*5) l[i] a1 c1 a2 c2 a3 c3:=by
 obtain ⟨b,off,ha,hb,hc⟩:=h.cell (by omega);generalize hx:l[i]=x;obtain ⟨name,pub,params,locals,body⟩:=x
 have g:∀ j d,j<5->(Pr.mk name pub params locals body).ds[j]? = some d->∃ v,w.cell? ⟨b,off+i*5+j,none⟩=some v/\DVal w A d v:=fun j d hj hd=>by
  rw [Nat.add_assoc];exact hc (i*5+j) d ((flat_get Pr.ds 5 (fun _=>rfl) l i hi j hj).trans (by rw [hx];exact hd))
 obtain ⟨v0,k0,d0⟩:=g 0 (.str name) (by omega) (by simp [Pr.ds]);obtain ⟨v1,k1,d1⟩:=g 1 (.bool pub) (by omega) (by simp [Pr.ds]);obtain ⟨v2,k2,d2⟩:=g 2 (.list params.length (strsD params)) (by omega) (by simp [Pr.ds]);obtain ⟨v3,k3,d3⟩:=g 3 (.list locals.length (strsD locals)) (by omega) (by simp [Pr.ds]);obtain ⟨v4,k4,d4⟩:=g 4 (.list body.length (stsD body)) (by omega) (by simp [Pr.ds]);obtain ⟨rfl,w0⟩:=dstr_of d0;obtain rfl:=dbool_of d1;obtain ⟨a1,c1,rfl,h1⟩:=dlist_of d2;obtain ⟨a2,c2,rfl,h2⟩:=dlist_of d3;obtain ⟨a3,c3,rfl,h3⟩:=dlist_of d4;exact ⟨b,off,a1,c1,a2,c2,a3,c3,ha,hb,k0,k1,k2,k3,k4,h1,h2,h3,w0⟩
theorem DAt.mo {w:World} {A:Nat->Prop} {a:Option Addr} {l:List Mo} (h:DAt w A a l.length (mosD l)) (i:Nat) (hi:i<l.length):∃ b off v a1 c1 a2 c2 a3 c3 a4 c4,a=some ⟨b,off,none⟩/\b<w.heap.size/\MoAt w A l[i] v a1 c1 a2 c2 a3 c3 a4 c4/\
 w.cell? ⟨b,off+i*5,none⟩=some (.string l[i].name)/\w.cell? ⟨b,off+i*5+1,none⟩=some (.slice a1 l[i].uses.length c1)/\w.cell? ⟨b,off+i*5+2,none⟩=some (.slice a2 l[i].decls.length c2)/\
 w.cell? ⟨b,off+i*5+3,none⟩=some (.slice a3 l[i].procs.length c3)/\w.cell? ⟨b,off+i*5+4,none⟩=some (.slice a4 l[i].main.length c4):=by
 obtain ⟨b,off,ha,hb,hc⟩:=h.cell (by omega);generalize hx:l[i]=x;obtain ⟨name,uses,decls,procs,main⟩:=x
 have g:∀ j d,j<5->(Mo.mk name uses decls procs main).ds[j]? = some d->∃ v,w.cell? ⟨b,off+i*5+j,none⟩=some v/\DVal w A d v:=fun j d hj hd=>by
  rw [Nat.add_assoc];exact hc (i*5+j) d ((flat_get Mo.ds 5 (fun _=>rfl) l i hi j hj).trans (by rw [hx];exact hd))
 obtain ⟨v0,k0,d0⟩:=g 0 (.str name) (by omega) (by simp [Mo.ds]);obtain ⟨v1,k1,d1⟩:=g 1 (.list uses.length (strsD uses)) (by omega) (by simp [Mo.ds]);obtain ⟨v2,k2,d2⟩:=g 2 (.list decls.length (desD decls)) (by omega) (by simp [Mo.ds,desD]);obtain ⟨v3,k3,d3⟩:=g 3 (.list procs.length (prsD procs)) (by omega) (by simp [Mo.ds,prsD]);obtain ⟨v4,k4,d4⟩:=g 4 (.list main.length (stsD main)) (by omega) (by simp [Mo.ds]);obtain ⟨rfl,w0⟩:=dstr_of d0;obtain ⟨a1,c1,rfl,h1⟩:=dlist_of d1;obtain ⟨a2,c2,rfl,h2⟩:=dlist_of d2;obtain ⟨a3,c3,rfl,h3⟩:=dlist_of d3;obtain ⟨a4,c4,rfl,h4⟩:=dlist_of d4;exact ⟨b,off,_,a1,c1,a2,c2,a3,c3,a4,c4,ha,hb,⟨rfl,w0,h1,h2,h3,h4⟩,k0,k1,k2,k3,k4⟩
end Go.Proofs.YtndkhgakfodldaaGreatDoor

namespace Go.Proofs.YtndkhgakfodldaaGreatDoor
open Go.RowKit
mutual
def EVal (w:World) (A:Nat->Prop):D->Value->Prop
 | .int n,v=>v = .int .i64 n
 | .str s,v=>v = .string s/\s.size<=maxLen
 | .bool b,v=>v = .bool b
 | .list n ds,v=>∃ a cap,v = .slice a n cap/\(n=0\/∃ b off cs,a=some ⟨b,off,none⟩/\A b/\b<w.heap.size/\CellsIn w b off cs/\EVals w A ds cs)
def EVals (w:World) (A:Nat->Prop):List D->List Value->Prop
 | [],cs=>cs=[]
 | d :: ds,cs=>∃ v r,cs=v :: r/\EVal w A d v/\EVals w A ds r
end
mutual
theorem EVal.moves {A A':Nat->Prop} {w w':World} (hs:Moves w A w' A'):∀ (d:D) (v:Value),EVal w A d v->EVal w' A' d v
 | .int _,_,h=>h
 | .str _,_,h=>h
 | .bool _,_,h=>h
 | .list n ds,v,h=>by
   unfold EVal at h ⊢;obtain ⟨a,cap,h1,h4⟩:=h;refine ⟨a,cap,h1,?_⟩
   rcases h4 with h4 | ⟨b,off,cs,ha,hl,hb,hc,hx⟩
   . exact Or.inl h4
   . exact Or.inr ⟨b,off,cs,ha,(hs.2 b hb hl).1,Nat.lt_of_lt_of_le hb hs.1,hc.moves hs hl hb,EVals.moves hs ds cs hx⟩
theorem EVals.moves {A A':Nat->Prop} {w w':World} (hs:Moves w A w' A'):∀ (l:List D) (cs:List Value),EVals w A l cs->EVals w' A' l cs
 | [],_,h=>h
 | d :: ds,cs,h=>by
   unfold EVals at h ⊢;obtain ⟨v,r,h1,h2,h3⟩:=h;exact ⟨v,r,h1,EVal.moves hs d v h2,EVals.moves hs ds r h3⟩
end
theorem EVal.one {w:World} {lo:Nat->Prop}:∀ {d:D} {v:Value},EVal w lo d v->v.oneCell'=true
 | .int _,_,h=>by unfold EVal at h;rw [h];rfl
 | .str _,_,h=>by unfold EVal at h;rw [h.1];rfl
 | .bool _,_,h=>by unfold EVal at h;rw [h];rfl
 | .list _ _,_,h=>by unfold EVal at h;obtain ⟨a,cap,h,_⟩:=h;rw [h];rfl
theorem EVals.one {w:World} {lo:Nat->Prop}:∀ {l:List D} {cs:List Value},EVals w lo l cs->∀ u ∈ cs,u.oneCell'=true
 | [],_,h=>by unfold EVals at h;rw [h];intro u hu;cases hu
 | d :: ds,cs,h=>by
   unfold EVals at h;obtain ⟨v,r,rfl,h2,h3⟩:=h;intro u hu
   rcases List.mem_cons.1 hu with rfl | hu
   . exact h2.one
   . exact EVals.one h3 u hu
theorem EVals.len {w:World} {lo:Nat->Prop}:∀ {l:List D} {cs:List Value},EVals w lo l cs->cs.length=l.length
 | [],_,h=>by unfold EVals at h;rw [h];rfl
 | d :: ds,cs,h=>by
   unfold EVals at h;obtain ⟨v,r,rfl,h2,h3⟩:=h;simp [EVals.len h3]
theorem EVals.nil {w:World} {lo:Nat->Prop}:EVals w lo [] []:=by unfold EVals;rfl
theorem EVals.cons {w:World} {lo:Nat->Prop} {d:D} {ds:List D} {v:Value} {cs:List Value} (h:EVal w lo d v) (k:EVals w lo ds cs):EVals w lo (d :: ds) (v :: cs):=by
 unfold EVals;exact ⟨v,cs,rfl,h,k⟩
theorem EVals.append {w:World} {lo:Nat->Prop}:∀ {l m:List D} {cs es:List Value},EVals w lo l cs->EVals w lo m es->EVals w lo (l++m) (cs++es)
 | [],m,cs,es,h,k=>by unfold EVals at h;subst h;exact k
 | d :: ds,m,cs,es,h,k=>by
   unfold EVals at h;obtain ⟨v,r,rfl,h2,h3⟩:=h;exact EVals.cons h2 (EVals.append h3 k)
theorem EVals.get {w:World} {lo:Nat->Prop}:∀ {l:List D} {cs:List Value},EVals w lo l cs->∀ (j:Nat) (d:D),l[j]? = some d->∃ v,cs[j]? = some v/\EVal w lo d v
 | [],_,_,j,d,hj=>by simp at hj
 | e :: ds,cs,h,j,d,hj=>by
   unfold EVals at h;obtain ⟨v,r,rfl,h2,h3⟩:=h
   cases j with
   | zero=>simp at hj;subst hj;exact ⟨v,rfl,h2⟩
   | succ j=>simpa using EVals.get h3 j d (by simpa using hj)
theorem eint {w:World} {lo:Nat->Prop} {n:Int}:EVal w lo (.int n) (.int .i64 n):=by unfold EVal;rfl
theorem estr {w:World} {lo:Nat->Prop} {s:ByteArray} (h:s.size<=maxLen):EVal w lo (.str s) (.string s):=by unfold EVal;exact ⟨rfl,h⟩
theorem ebool {w:World} {lo:Nat->Prop} {b:Bool}:EVal w lo (.bool b) (.bool b):=by unfold EVal;rfl
theorem enum_of {w:World} {lo:Nat->Prop} {n:Int} {v:Value} (h:EVal w lo (.int n) v):v = .int .i64 n:=by unfold EVal at h;exact h
theorem estr_of {w:World} {lo:Nat->Prop} {s:ByteArray} {v:Value} (h:EVal w lo (.str s) v):v = .string s/\s.size<=maxLen:=by unfold EVal at h;exact h
def EAt (w:World) (lo:Nat->Prop) (a:Option Addr) (n:Nat) (ds:List D):Prop:=n=0\/∃ b off cs,a=some ⟨b,off,none⟩/\lo b/\b<w.heap.size/\CellsIn w b off cs/\EVals w lo ds cs
theorem EAt.val {w:World} {lo:Nat->Prop} {n cap:Nat} {a:Option Addr} {ds:List D} (h:EAt w lo a n ds):EVal w lo (.list n ds) (.slice a n cap):=by unfold EVal;exact ⟨a,cap,rfl,h⟩
theorem EAt.moves {A A':Nat->Prop} {w w':World} {n:Nat} {a:Option Addr} {ds:List D} (h:EAt w A a n ds) (hs:Moves w A w' A'):EAt w' A' a n ds:=by
 rcases h with h4 | ⟨b,off,cs,ha,hl,hb,hc,hx⟩
 . exact Or.inl h4
 . exact Or.inr ⟨b,off,cs,ha,(hs.2 b hb hl).1,Nat.lt_of_lt_of_le hb hs.1,hc.moves hs hl hb,EVals.moves hs ds cs hx⟩
theorem EAt.of_own {w:World} {A:Nat->Prop} {base n cap:Nat} {a:Option Addr} {e:TypeId} {size:Nat} {ds:List D} {xs:List Value} (h:w.ownsRow base e size (.slice a n cap) n xs) (hl:∀ b,base<=b->A b) (hx:EVals w A ds xs):EAt w A a n ds:=by
 rcases h.2 with ⟨h1,h2⟩ | ⟨g,cap',cur,h1,hb,hg,hn,hc,hs,ht⟩
 . exact Or.inl h2
 . injection h1 with h1 _ _
   refine Or.inr ⟨g,0,xs,h1,hl g hb,lt_of_heap hg,fun j u hj=>?_,hx⟩;have:=h.cells (g:=g) (by rw [h1];rfl) j u hj;rw [Nat.zero_add]
   have e:(⟨g,0,none⟩:Addr).add j=⟨g,j,none⟩:=by unfold Addr.add;split<;>simp_all
   rwa [e] at this
mutual
def D.fine:D->Prop
 | .int n=>(Lit.int .i64 n).wf=true
 | .str _=>True
 | .bool _=>True
 | .list n ds=>n<=ds.length/\ds.length<=17592186044416/\D.fines ds
def D.fines:List D->Prop
 | []=>True
 | d :: ds=>d.fine/\D.fines ds
end
mutual
theorem EVal.toD {A:Nat->Prop} {w:World}:∀ (d:D) (v:Value),EVal w A d v->d.fine->DVal w A d v
 | .int _,_,h,k=>by unfold EVal at h;unfold D.fine at k;unfold DVal;exact ⟨h,k⟩
 | .str _,_,h,_=>by unfold EVal at h;unfold DVal;exact h
 | .bool _,_,h,_=>by unfold EVal at h;unfold DVal;exact h
 | .list n ds,v,h,k=>by
   unfold EVal at h;unfold D.fine at k;unfold DVal;obtain ⟨a,cap,h1,h4⟩:=h;refine ⟨a,cap,h1,k.1,k.2.1,?_⟩
   rcases h4 with h4 | ⟨b,off,cs,ha,hl,hb,hc,hx⟩
   . exact Or.inl h4
   . exact Or.inr ⟨b,off,cs,ha,hl,hb,hc,EVals.toD ds cs hx k.2.2⟩
theorem EVals.toD {A:Nat->Prop} {w:World}:∀ (l:List D) (cs:List Value),EVals w A l cs->D.fines l->DVals w A l cs
 | [],_,h,_=>by unfold EVals at h;unfold DVals;exact h
 | d :: ds,cs,h,k=>by
   unfold EVals at h;unfold D.fines at k;unfold DVals;obtain ⟨v,r,h1,h2,h3⟩:=h;exact ⟨v,r,h1,EVal.toD d v h2 k.1,EVals.toD ds r h3 k.2⟩
end
theorem EAt.toD {A:Nat->Prop} {w:World} {a:Option Addr} {n:Nat} {ds:List D} (h:EAt w A a n ds) (h1:n<=ds.length) (h2:ds.length<=17592186044416) (k:D.fines ds):DAt w A a n ds:=by
 refine ⟨h1,h2,?_⟩
 rcases h with h | ⟨b,off,cs,ha,hl,hb,hc,hx⟩
 . exact Or.inl h
 . exact Or.inr ⟨b,off,cs,ha,hl,hb,hc,hx.toD _ _ k⟩
theorem D.fines_append:∀ {l m:List D},D.fines l->D.fines m->D.fines (l++m)
 | [],_,_,k=>k
 | d :: ds,m,h,k=>by
   unfold D.fines at h;show D.fines (d :: (ds++m));unfold D.fines;exact ⟨h.1,D.fines_append h.2 k⟩
end Go.Proofs.YtndkhgakfodldaaGreatDoor

namespace Go.Proofs.YtndkhgakfodldaaGreatDoor
open Go.RowKit
inductive Nd where
 | mk (op n m at_:Int) (args:List Nd)
def Nd.op:Nd->Int | .mk op _ _ _ _=>op
def Nd.n:Nd->Int | .mk _ n _ _ _=>n
def Nd.m:Nd->Int | .mk _ _ m _ _=>m
def Nd.at_:Nd->Int | .mk _ _ _ a _=>a
def Nd.args:Nd->List Nd | .mk _ _ _ _ l=>l
inductive Ac where
 | mk (op n m at_:Int) (args:List Nd) (body other:List Ac)
def Ac.op:Ac->Int | .mk op _ _ _ _ _ _=>op
def Ac.n:Ac->Int | .mk _ n _ _ _ _ _=>n
def Ac.m:Ac->Int | .mk _ _ m _ _ _ _=>m
def Ac.at_:Ac->Int | .mk _ _ _ a _ _ _=>a
def Ac.args:Ac->List Nd | .mk _ _ _ _ l _ _=>l
def Ac.body:Ac->List Ac | .mk _ _ _ _ _ l _=>l
def Ac.other:Ac->List Ac | .mk _ _ _ _ _ _ l=>l
mutual
def Nd.ds:Nd->List D
 | .mk op n m a args=>[.int op,.int n,.int m,.int a,.list args.length (ndsD args)]
def ndsD:List Nd->List D
 | []=>[]
 | x :: r=>x.ds++ndsD r
end
mutual
def Ac.ds:Ac->List D
 | .mk op n m a args body other=>[.int op,.int n,.int m,.int a,.list args.length (ndsD args),.list body.length (acsD body),.list other.length (acsD other)]
def acsD:List Ac->List D
 | []=>[]
 | x :: r=>x.ds++acsD r
end
theorem Nd.ds_len (x:Nd):x.ds.length=5:=by cases x;unfold Nd.ds;rfl
theorem Ac.ds_len (x:Ac):x.ds.length=7:=by cases x;unfold Ac.ds;rfl
theorem ndsD_append:∀ (l m:List Nd),ndsD (l++m)=ndsD l++ndsD m
 | [],m=>by simp [ndsD]
 | x :: r,m=>by simp [ndsD,ndsD_append r m]
theorem acsD_append:∀ (l m:List Ac),acsD (l++m)=acsD l++acsD m
 | [],m=>by simp [acsD]
 | x :: r,m=>by simp [acsD,acsD_append r m]
theorem ndsD_one (x:Nd):ndsD [x]=x.ds:=by simp [ndsD]
theorem acsD_one (x:Ac):acsD [x]=x.ds:=by simp [acsD]
structure Pt where
 params:Int
 locals:Int
 body:List Ac
def Pt.ds (p:Pt):List D:=[.int p.params,.int p.locals,.list p.body.length (acsD p.body)]
def ptsD (l:List Pt):List D:=l.flatMap Pt.ds
structure Un where
 name:ByteArray
 uses:List ByteArray
 data:Int
 parts:List Pt
 main:List Ac
structure Mg where
 kind:Int
 n:Int
 m:Int
 at_:Int
def mg0:Mg:=⟨0,0,0,0⟩
abbrev Kn:=ByteArray->ByteArray->Option Mg
abbrev Lc:=ByteArray->Option Int
def lookM (K:Kn) (L:Lc) (mod name:ByteArray):Option Mg:=
 if mod.size=0 then (match L name with | some a=>some ⟨0,0,0,a⟩ | none=>K mod name) else K mod name
def findM (K:Kn) (L:Lc) (mod name:ByteArray) (ks:List Int):Mg × Int:=
 match lookM K L mod name with
 | none=>(mg0,5)
 | some x=>if ks.contains x.kind then (x,0) else (mg0,7)
def routM (K:Kn) (L:Lc) (mod name:ByteArray) (handed:Int):Mg × Int:=
 if (findM K L mod name [4]).2=0/\(findM K L mod name [4]).1.n≠handed then (mg0,8) else findM K L mod name [4]
structure Al where
 op:Int
 n:Int
 m:Int
 at_:Int
 err:Int
def valM (K:Kn) (L:Lc) (mod name:ByteArray):Al:=
 if (findM K L mod name [0,1,2]).2≠0 then ⟨0,0,0,0,(findM K L mod name [0,1,2]).2⟩
 else if (findM K L mod name [0,1,2]).1.kind=1 then ⟨1,(findM K L mod name [0,1,2]).1.n,0,0,0⟩
 else if (findM K L mod name [0,1,2]).1.kind=2 then ⟨3,0,(findM K L mod name [0,1,2]).1.m,(findM K L mod name [0,1,2]).1.at_,0⟩
 else ⟨16,0,0,(findM K L mod name [0,1,2]).1.at_,0⟩
def ndM (K:Kn) (L:Lc) (x:Ex):Al:=
 if x.op=3 then valM K L x.mod x.name
 else if x.op=4 then ⟨4,(findM K L x.mod x.name [3]).1.n,(findM K L x.mod x.name [3]).1.m,(findM K L x.mod x.name [3]).1.at_,(findM K L x.mod x.name [3]).2⟩
 else if x.op=5 then ⟨5,0,(routM K L x.mod x.name x.args.length).1.m,(routM K L x.mod x.name x.args.length).1.at_,(routM K L x.mod x.name x.args.length).2⟩
 else ⟨x.op,x.n,0,0,0⟩
def acM (K:Kn) (L:Lc) (s:St):Al:=
 if s.op=1 then ⟨1,0,if (findM K L s.mod s.name [0,2]).1.kind=0 then -1 else (findM K L s.mod s.name [0,2]).1.m,(findM K L s.mod s.name [0,2]).1.at_,(findM K L s.mod s.name [0,2]).2⟩
 else if s.op=2 then ⟨2,(findM K L s.mod s.name [3]).1.n,(findM K L s.mod s.name [3]).1.m,(findM K L s.mod s.name [3]).1.at_,(findM K L s.mod s.name [3]).2⟩
 else if s.op=3 then ⟨3,0,(routM K L s.mod s.name s.args.length).1.m,(routM K L s.mod s.name s.args.length).1.at_,(routM K L s.mod s.name s.args.length).2⟩
 else ⟨s.op,0,0,0,0⟩
def bindE {α β:Type}:Except Int α->(α->Except Int β)->Except Int β
 | .error e,_=>.error e
 | .ok a,f=>f a
def alE (a:Al):Except Int Al:=if a.err=0 then .ok a else .error a.err
mutual
def rsE (K:Kn) (L:Lc):Ex->Except Int Nd
 | .mk op n mod name args=>bindE (alE (ndM K L (.mk op n mod name args))) fun h=>bindE (rsEs K L args) fun l=>.ok (.mk h.op h.n h.m h.at_ l)
def rsEs (K:Kn) (L:Lc):List Ex->Except Int (List Nd)
 | []=>.ok []
 | x :: r=>bindE (rsE K L x) fun y=>bindE (rsEs K L r) fun l=>.ok (y :: l)
end
mutual
def rsS (K:Kn) (L:Lc):St->Except Int Ac
 | .mk op mod name args body other=>bindE (alE (acM K L (.mk op mod name args body other))) fun h=>bindE (rsEs K L args) fun l=>bindE (rsSs K L body) fun b=>bindE (rsSs K L other) fun o=>.ok (.mk h.op h.n h.m h.at_ l b o)
def rsSs (K:Kn) (L:Lc):List St->Except Int (List Ac)
 | []=>.ok []
 | x :: r=>bindE (rsS K L x) fun y=>bindE (rsSs K L r) fun l=>.ok (y :: l)
end
theorem bindE_ok {α:Type} (x:Except Int α):bindE x .ok=x:=by cases x<;>rfl
theorem rsEs_app (K:Kn) (L:Lc):∀ (a b:List Ex) (acc:List Nd),rsEs K L a = .ok acc->rsEs K L (a++b)=bindE (rsEs K L b) fun l=>.ok (acc++l)
 | [],b,acc,h=>by
   rw [rsEs] at h;obtain rfl:=Except.ok.inj h;show rsEs K L b=_;exact (bindE_ok _).symm
 | x :: a,b,acc,h=>by
   rw [rsEs] at h;show rsEs K L (x :: (a++b))=_;rw [rsEs]
   cases hx:rsE K L x with
   | error e=>rw [hx] at h;cases h
   | ok y=>
     rw [hx] at h;simp only [bindE] at h ⊢
     cases ha:rsEs K L a with
     | error e=>rw [ha] at h;cases h
     | ok l=>
       rw [ha] at h;obtain rfl:=Except.ok.inj h;rw [rsEs_app K L a b l ha]
       cases rsEs K L b<;>rfl
theorem rsSs_app (K:Kn) (L:Lc):∀ (a b:List St) (acc:List Ac),rsSs K L a = .ok acc->rsSs K L (a++b)=bindE (rsSs K L b) fun l=>.ok (acc++l)
 | [],b,acc,h=>by
   rw [rsSs] at h;obtain rfl:=Except.ok.inj h;show rsSs K L b=_;exact (bindE_ok _).symm
 | x :: a,b,acc,h=>by
   rw [rsSs] at h;show rsSs K L (x :: (a++b))=_;rw [rsSs]
   cases hx:rsS K L x with
   | error e=>rw [hx] at h;cases h
   | ok y=>
     rw [hx] at h;simp only [bindE] at h ⊢
     cases ha:rsSs K L a with
     | error e=>rw [ha] at h;cases h
     | ok l=>
       rw [ha] at h;obtain rfl:=Except.ok.inj h;rw [rsSs_app K L a b l ha]
       cases rsSs K L b<;>rfl
theorem split_at {α:Type} (l:List α) (j:Nat) (h:j<l.length):l=l.take j++l[j] :: l.drop (j+1):=by
 rw [List.getElem_cons_drop,List.take_append_drop]
theorem rsEs_err {K:Kn} {L:Lc} {l:List Ex} {j:Nat} {acc:List Nd} {e:Int} (h:j<l.length) (ha:rsEs K L (l.take j) = .ok acc) (he:rsE K L l[j] = .error e):rsEs K L l = .error e:=by
 rw [split_at l j h,rsEs_app K L _ _ acc ha,rsEs,he];rfl
theorem rsEs_snoc {K:Kn} {L:Lc} {l:List Ex} {j:Nat} {acc:List Nd} {y:Nd} (h:j<l.length) (ha:rsEs K L (l.take j) = .ok acc) (he:rsE K L l[j] = .ok y):rsEs K L (l.take (j+1)) = .ok (acc++[y]):=by
 rw [List.take_succ_eq_append_getElem h,rsEs_app K L _ _ acc ha,rsEs,he];rfl
theorem rsSs_err {K:Kn} {L:Lc} {l:List St} {j:Nat} {acc:List Ac} {e:Int} (h:j<l.length) (ha:rsSs K L (l.take j) = .ok acc) (he:rsS K L l[j] = .error e):rsSs K L l = .error e:=by
 rw [split_at l j h,rsSs_app K L _ _ acc ha,rsSs,he];rfl
theorem rsSs_snoc {K:Kn} {L:Lc} {l:List St} {j:Nat} {acc:List Ac} {y:Ac} (h:j<l.length) (ha:rsSs K L (l.take j) = .ok acc) (he:rsS K L l[j] = .ok y):rsSs K L (l.take (j+1)) = .ok (acc++[y]):=by
 rw [List.take_succ_eq_append_getElem h,rsSs_app K L _ _ acc ha,rsSs,he];rfl
theorem rsE_eq (K:Kn) (L:Lc) (x:Ex):rsE K L x=bindE (alE (ndM K L x)) fun h=>bindE (rsEs K L x.args) fun l=>.ok (.mk h.op h.n h.m h.at_ l):=by
 obtain ⟨op,n,mod,name,args⟩:=x;rw [rsE];rfl
theorem rsS_eq (K:Kn) (L:Lc) (x:St):rsS K L x=bindE (alE (acM K L x)) fun h=>bindE (rsEs K L x.args) fun l=>bindE (rsSs K L x.body) fun b=>bindE (rsSs K L x.other) fun o=>.ok (.mk h.op h.n h.m h.at_ l b o):=by
 obtain ⟨op,mod,name,args,body,other⟩:=x;rw [rsS];rfl
end Go.Proofs.YtndkhgakfodldaaGreatDoor

namespace Go.Proofs.YtndkhgakfodldaaGreatDoor
open Go.RowKit
structure Sh where
 named:Bool
 number:Bool
 least:Int
 most:Int
 body:Bool
 other:Bool
def Sh.val (s:Sh):Value:=.agg #[.bool s.named,.bool s.number,.int .i64 s.least,.int .i64 s.most,.bool s.body,.bool s.other]
def sh0:Sh:=⟨false,false,0,0,false,false⟩
def exSh (op:Int):Option Sh:=
 if op=1 then some ⟨false,true,0,0,false,false⟩ else if op=2 then some sh0 else if op=3 then some ⟨true,false,0,0,false,false⟩
 else if op=4 then some ⟨true,false,1,1,false,false⟩ else if op=5 then some ⟨true,false,0,3,false,false⟩ else if op=6 then some ⟨false,false,1,1,false,false⟩
 else if 7<=op/\op<=15 then some ⟨false,false,2,2,false,false⟩ else none
def stSh (op:Int):Option Sh:=
 if op=1 then some ⟨true,false,1,1,false,false⟩ else if op=2 then some ⟨true,false,2,2,false,false⟩ else if op=3 then some ⟨true,false,0,3,false,false⟩
 else if op=4 then some ⟨false,false,1,1,true,true⟩ else if op=5 then some ⟨false,false,1,1,true,false⟩ else if op=6 then some ⟨false,false,1,1,false,false⟩
 else if op=7 then some ⟨false,false,1,1,false,false⟩ else none
def exB (op:Int):Bool:=(exSh op).isSome
def stB (op:Int):Bool:=(stSh op).isSome
def exS (op:Int):Sh:=(exSh op).getD sh0
def stS (op:Int):Sh:=(stSh op).getD sh0
def kept:List (List UInt8):=[[109,111,100,117,108,101],[117,115,101],[112,117,98],[99,111,110,115,116],[118,97,114],[97,114,114,97,121],[112,114,111,99],[108,111,99,97,108],[109,97,105,110],
 [105,102],[101,108,115,101],[119,104,105,108,101],[114,101,116,117,114,110],[111,117,116],[105,110]]
def keptB (s:ByteArray):Bool:=kept.contains s.data.toList
def nameOk (s:ByteArray):Bool:=!keptB s&&Lx.nameB s.data.toList
def numOkB (n:Int):Bool:=decide (0<=n)&&decide (n<=1099511627775)
def refOk (h:Sh) (mod name:ByteArray):Bool:=if h.named then nameOk name&&(decide (mod.size=0)||nameOk mod) else decide (mod.size=0)&&decide (name.size=0)
def nOk (h:Sh) (n:Int):Bool:=if h.number then numOkB n else decide (n=0)
def countOk (h:Sh) (k:Nat):Bool:=decide (h.least<=(k:Int))&&decide ((k:Int)<=h.most)
def exKinds:Nat->List Ex->Bool
 | 0,_=>true
 | k+1,l=>l.all (fun x=>exB x.op&&exKinds k x.args)
def stKinds:Nat->List St->Bool
 | 0,_=>true
 | k+1,l=>l.all (fun s=>stB s.op&&(exKinds 6 s.args&&(stKinds k s.body&&stKinds k s.other)))
def exMany:Nat->List Ex->Bool
 | 0,l=>decide (0<l.length)
 | k+1,l=>decide (3<l.length)||l.any (fun x=>exMany k x.args)
def stMany:Nat->List St->Bool
 | 0,_=>true
 | k+1,l=>decide (10<l.length)||l.any (fun s=>exMany 6 s.args||(((stS s.op).body||decide (0<s.body.length))&&stMany k s.body||(decide (0<s.other.length)&&stMany k s.other)))
def exForm:Nat->List Ex->Bool
 | 0,_=>true
 | k+1,l=>l.all (fun x=>refOk (exS x.op) x.mod x.name&&(nOk (exS x.op) x.n&&(countOk (exS x.op) x.args.length&&exForm k x.args)))
def stForm:Nat->List St->Bool
 | 0,_=>true
 | k+1,l=>l.all (fun s=>refOk (stS s.op) s.mod s.name&&(countOk (stS s.op) s.args.length&&(exForm 6 s.args&&(((stS s.op).body||decide (s.body.length=0))&&(((stS s.op).other||decide (s.other.length=0))&&(stForm k s.body&&stForm k s.other))))))
def sizeOk (d:De):Bool:=if d.kind=1 then numOkB d.n else if d.kind=3 then decide (1<=d.n)&&decide (d.n<=32) else decide (d.n=0)
def Mo.bodies (m:Mo):List (List St):=m.procs.map Pr.body++[m.main]
def Mo.kinds (m:Mo):Bool:=m.decls.all (fun d=>decide (1<=d.kind)&&decide (d.kind<=3))&&m.bodies.all (stKinds 6)
def Mo.many (m:Mo):Bool:=decide (3<m.uses.length)||(decide (10<m.decls.length)||(decide (6<m.procs.length)||(m.procs.any (fun p=>decide (3<p.params.length)||decide (4<p.locals.length))||m.bodies.any (stMany 6))))
def Mo.form (m:Mo):Bool:=nameOk m.name&&(m.uses.all nameOk&&(m.decls.all (fun d=>nameOk d.name&&sizeOk d)&&(m.procs.all (fun p=>nameOk p.name&&(p.params.all nameOk&&p.locals.all nameOk))&&m.bodies.all (stForm 6))))
def Mo.err (m:Mo):Int:=if m.kinds then (if m.many then 2 else (if m.form then 0 else 1)) else 4
theorem any_snoc {α:Type} (ts:List α) (p:α->Bool) (k:Nat) (h:k<ts.length):(ts.take (k+1)).any p=((ts.take k).any p||p ts[k]):=by
 rw [List.take_succ_eq_append_getElem h,List.any_append];simp
theorem any_at {α:Type} (ts:List α) (p:α->Bool) (k:Nat) (h:k<ts.length) (hp:p ts[k]=true):ts.any p=true:=by
 rw [List.any_eq_true];exact ⟨ts[k],List.getElem_mem _,hp⟩
theorem all_end {α:Type} {ts:List α} {p:α->Bool} {k:Nat} (h:(ts.take k).all p=true) (hk:¬ k<ts.length):ts.all p=true:=by
 rw [List.take_of_length_le (by omega)] at h;exact h
theorem any_end {α:Type} {ts:List α} {p:α->Bool} {k:Nat} (h:(ts.take k).any p=false) (hk:¬ k<ts.length):ts.any p=false:=by
 rw [List.take_of_length_le (by omega)] at h;exact h
end Go.Proofs.YtndkhgakfodldaaGreatDoor

namespace Go.Proofs.YtndkhgakfodldaaGreatDoor
set_option maxRecDepth 100000
set_option maxHeartbeats 1600000
open Go.RowKit
theorem keptB_eq (s:ByteArray):keptB s=((s.toList == [109,111,100,117,108,101])||((s.toList == [117,115,101])||((s.toList == [112,117,98])||((s.toList == [99,111,110,115,116])||((s.toList == [118,97,114])||((s.toList == [97,114,114,97,121])||((s.toList == [112,114,111,99])||((s.toList == [108,111,99,97,108])||((s.toList == [109,97,105,110]) ||
 ((s.toList == [105,102])||((s.toList == [101,108,115,101])||((s.toList == [119,104,105,108,101])||((s.toList == [114,101,116,117,114,110])||((s.toList == [111,117,116])||((s.toList == [105,110])||false))))))))))))))):=by
 unfold keptB kept;rw [Lib.toList_data];simp only [List.contains_cons,List.contains_nil]
theorem isKept_any (s:ByteArray) (w:World) :
 Calls Tryz.prog 237 #[.string s] w fun e w'=>e = .returned (.bool (keptB s))/\w'=w:=by
 go_enter Tryz.func237,Tryz.ntmps237;go_wp2_with fail
 all_goals go_ret
 all_goals refine ⟨ret_bool ?_,rfl⟩
 all_goals rw [keptB_eq]
 all_goals simp only [*,Bool.true_or,Bool.false_or,Bool.or_true]
 all_goals simp_all only [Bool.false_eq_true]
theorem heap_new (w:World) (o:Obj):(w.alloc o).heap[w.heap.size]? = some o:=(MapKept.heap_alloc w o).1
theorem checkN_one (t:Tk) (hk:kindB t=true):(checkN [t] == 0)=t.okB:=by
 unfold checkN;simp only [List.all_cons,List.all_nil,hk,Bool.and_true,if_true,List.length_cons,List.length_nil]
 cases t.okB<;>rfl
theorem tok_new (t:Tk) (w:World) (hs:t.text.size<=maxLen):ToksAt (w.alloc (.cells #[.int .i64 t.kind,.int .i64 t.n,.string t.text] 184)) (some ⟨w.heap.size,0,none⟩) [t]:=by
 have h:∀ j u,#[Value.int .i64 t.kind,.int .i64 t.n,.string t.text][j]? = some u->(w.alloc (.cells #[.int .i64 t.kind,.int .i64 t.n,.string t.text] 184)).cell? ⟨w.heap.size,j,none⟩=some u:=fun j u hj=>by
  rw [Lib.cell_of_heap (heap_new w _)];exact hj
 refine Or.inr ⟨_,0,rfl,by simp,?_,?_,?_,?_⟩
 . intro i hi
   obtain rfl:i=0:=by simpa using hi
   exact h 0 _ rfl
 . intro i hi
   obtain rfl:i=0:=by simpa using hi
   exact h 1 _ rfl
 . intro i hi
   obtain rfl:i=0:=by simpa using hi
   exact h 2 _ rfl
 . intro i hi
   obtain rfl:i=0:=by simpa using hi
   exact hs
theorem isTok_any (t:Tk) (w:World) (hs:t.text.size<=maxLen) (hk:kindB t=true) :
 Calls Tryz.prog 238 #[t.val] w fun e w'=>e = .returned (.bool t.okB)/\Below w.heap.size w w':=by
 have HK:Hid ((checkN [t] == 0)=t.okB):=checkN_one t hk
 have HC:Hid (∀ (w1:World) (n:Nat),n=w1.heap.size->Calls Tryz.prog 116 #[.slice (some ⟨n,0,none⟩) 1 1] (w1.alloc (.cells #[.int .i64 t.kind,.int .i64 t.n,.string t.text] 184)) fun e w'=>e = .returned (.int .i64 (checkN [t]))/\Below w1.heap.size w1 w'):=
  fun w1 n hn=>by
   subst hn;refine (Check_any _ 1 [t] _ (tok_new t w1 hs) (by simp)).mono ?_;rintro e w' ⟨rfl,hb⟩;exact ⟨rfl,((Below.refl _ _).alloc (Nat.le_refl _) _).trans (hb.mono (by simp))⟩
 obtain ⟨K,N,S⟩:=t;simp only [Tk.val] at *;go_enter Tryz.func238,Tryz.ntmps238
 go_wp2_with (go_at_call 116;refine (HC.out _ _ (by simp)).mono ?_;rintro e w' ⟨rfl,hb⟩)
 go_ret;exact ⟨ret_bool HK.out,((Below.refl _ _).alloc (Nat.le_refl _) _).trans (hb.mono (by simp))⟩
theorem okB_name (s:ByteArray):Tk.okB ⟨1,0,s⟩=Lx.nameB s.data.toList:=by simp [Tk.okB]
theorem okB_num (n:Int):Tk.okB ⟨2,n,⟨#[]⟩⟩=numOkB n:=by simp [Tk.okB,numOkB,Lib.toList_data]
theorem tName_any (s:ByteArray) (w:World) (hs:s.size<=maxLen) :
 Calls Tryz.prog 186 #[.string s] w fun e w'=>e = .returned (.bool (nameOk s))/\Below w.heap.size w w':=by
 have HC:Hid (∀ w1:World,Calls Tryz.prog 238 #[.agg #[.int .i64 1,.int .i64 0,.string s]] w1 fun e w'=>e = .returned (.bool (Lx.nameB s.data.toList))/\Below w1.heap.size w1 w'):=fun w1=>by
  rw [← okB_name];exact isTok_any ⟨1,0,s⟩ w1 hs rfl
 by_cases hk:keptB s=true
 . have HN:Hid (nameOk s=false):=by show _=_;simp [nameOk,hk]
   go_enter Tryz.func186,Tryz.ntmps186
   go_wp2_with (go_at_call 237;refine (isKept_any s _).mono ?_;rintro e w' ⟨rfl,rfl⟩)
   go_ret;exact ⟨ret_bool (by rw [HN.out]),Below.refl _ _⟩
 . have hk':keptB s=false:=by simpa using hk
   clear hk
   have HN:Hid (nameOk s=Lx.nameB s.data.toList):=by show _=_;simp [nameOk,hk']
   go_enter Tryz.func186,Tryz.ntmps186
   go_wp2_with (first | (go_at_call 237;refine (isKept_any s _).mono ?_;rintro e w' ⟨rfl,rfl⟩) | (go_at_call 238;refine (HC.out _).mono ?_;rintro e w' ⟨rfl,hb⟩))
   go_ret;exact ⟨ret_bool (by rw [HN.out]),hb⟩
theorem tNumber_any (n:Int) (w:World) :
 Calls Tryz.prog 241 #[.int .i64 n] w fun e w'=>e = .returned (.bool (numOkB n))/\Below w.heap.size w w':=by
 have HC:Hid (∀ w1:World,Calls Tryz.prog 238 #[.agg #[.int .i64 2,.int .i64 n,.string ⟨#[]⟩]] w1 fun e w'=>e = .returned (.bool (numOkB n))/\Below w1.heap.size w1 w'):=fun w1=>by
  rw [← okB_num];exact isTok_any ⟨2,n,⟨#[]⟩⟩ w1 (Nat.zero_le _) rfl
 go_enter Tryz.func241,Tryz.ntmps241
 go_wp2_with (go_at_call 238;refine (HC.out _).mono ?_;rintro e w' ⟨rfl,hb⟩)
 go_ret;exact ⟨rfl,hb⟩
theorem empty_size (s:ByteArray):s.toList.isEmpty=decide (s.size=0):=by
 rw [Lib.toList_data];have h:=Lx.len_toList s
 cases hl:s.data.toList with
 | nil=>rw [hl] at h;have h':s.size=0:=h.symm;simp [h']
 | cons c r => rw [hl] at h;have h':s.size≠0:=by simp at h;omega
               simp [h']
theorem refHolds_any (h:Sh) (mod name:ByteArray) (w:World) (h1:mod.size<=maxLen) (h2:name.size<=maxLen) :
 Calls Tryz.prog 242 #[h.val,.string mod,.string name] w fun e w'=>e = .returned (.bool (refOk h mod name))/\Below w.heap.size w w':=by
 obtain ⟨a,b,c,d,e,f⟩:=h;simp only [Sh.val]
 cases a with
 | false=>
   have HR:Hid (refOk ⟨false,b,c,d,e,f⟩ mod name=(mod.toList.isEmpty&&name.toList.isEmpty)):=by show _=_;simp [refOk,empty_size]
   cases hm:mod.toList.isEmpty with
   | false=>
     go_enter Tryz.func242,Tryz.ntmps242;go_wp2_with fail;go_ret;exact ⟨ret_bool (by rw [HR.out,hm];rfl),(Below.refl _ _).alloc (Nat.le_refl _) _⟩
   | true=>
     go_enter Tryz.func242,Tryz.ntmps242;go_wp2_with fail;go_ret;exact ⟨ret_bool (by rw [HR.out,hm];rfl),(Below.refl _ _).alloc (Nat.le_refl _) _⟩
 | true=>
   have HR:Hid (refOk ⟨true,b,c,d,e,f⟩ mod name=(nameOk name&&(mod.toList.isEmpty||nameOk mod))):=by show _=_;simp [refOk,empty_size]
   cases hn:nameOk name with
   | false=>
     go_enter Tryz.func242,Tryz.ntmps242
     go_wp2_with (go_at_call 186;refine (tName_any name _ h2).mono ?_;rw [hn];rintro e w' ⟨rfl,hb⟩)
     go_ret;exact ⟨ret_bool (by rw [HR.out,hn];rfl),((Below.refl _ _).alloc (Nat.le_refl _) _).trans (hb.mono (by simp))⟩
   | true=>
     cases hm:mod.toList.isEmpty with
     | true=>
       go_enter Tryz.func242,Tryz.ntmps242
       go_wp2_with (go_at_call 186;refine (tName_any name _ h2).mono ?_;rw [hn];rintro e w' ⟨rfl,hb⟩)
       go_ret;exact ⟨ret_bool (by rw [HR.out,hn,hm];rfl),((Below.refl _ _).alloc (Nat.le_refl _) _).trans (hb.mono (by simp))⟩
     | false=>
       go_enter Tryz.func242,Tryz.ntmps242;go_wp2_with fail;refine (tName_any name _ h2).mono ?_;rw [hn];rintro e w1 ⟨rfl,hb⟩;go_wp2_with fail;refine (tName_any mod _ h1).mono ?_;rintro e w2 ⟨rfl,hb2⟩;go_wp2_with fail;go_ret;exact ⟨ret_bool (by rw [HR.out,hn,hm];simp),(((Below.refl _ _).alloc (Nat.le_refl _) _).trans (hb.mono (by simp))).trans (hb2.mono (Nat.le_trans (by simp) hb.size))⟩
theorem numberHolds_any (h:Sh) (n:Int) (w:World) :
 Calls Tryz.prog 280 #[h.val,.int .i64 n] w fun e w'=>e = .returned (.bool (nOk h n))/\Below w.heap.size w w':=by
 obtain ⟨a,b,c,d,e,f⟩:=h;simp only [Sh.val]
 cases b with
 | false=>
   have HR:Hid (nOk ⟨a,false,c,d,e,f⟩ n=(n == 0)):=by show _=_;rw [Bool.eq_iff_iff];simp [nOk]
   go_enter Tryz.func280,Tryz.ntmps280;go_wp2_with fail;go_ret;exact ⟨ret_bool HR.out.symm,(Below.refl _ _).alloc (Nat.le_refl _) _⟩
 | true=>
   have HR:Hid (nOk ⟨a,true,c,d,e,f⟩ n=numOkB n):=by show _=_;simp [nOk]
   go_enter Tryz.func280,Tryz.ntmps280
   go_wp2_with (go_at_call 241;refine (tNumber_any n _).mono ?_;rintro e w' ⟨rfl,hb⟩)
   go_ret;exact ⟨ret_bool HR.out.symm,((Below.refl _ _).alloc (Nat.le_refl _) _).trans (hb.mono (by simp))⟩
theorem countHolds_any (h:Sh) (aa:Option Addr) (k cap:Nat) (w:World) :
 Calls Tryz.prog 243 #[h.val,.slice aa k cap] w fun e w'=>e = .returned (.bool (countOk h k))/\Below w.heap.size w w':=by
 obtain ⟨a,b,c,d,e,f⟩:=h;simp only [Sh.val];have HR:Hid (countOk ⟨a,b,c,d,e,f⟩ k=(decide (c<=(k:Int))&&decide ((k:Int)<=d))):=rfl
 by_cases h1:c<=(k:Int)
 . go_enter Tryz.func243,Tryz.ntmps243
   go_wp2_with fail
   all_goals go_ret
   all_goals exact ⟨ret_bool (by rw [HR.out];simp [*]<;>omega),(Below.refl _ _).alloc (Nat.le_refl _) _⟩
 . go_enter Tryz.func243,Tryz.ntmps243
   go_wp2_with fail
   all_goals go_ret
   all_goals exact ⟨ret_bool (by rw [HR.out];simp [*]<;>omega),(Below.refl _ _).alloc (Nat.le_refl _) _⟩
theorem sizeHolds_any (x:De) (w:World) :
 Calls Tryz.prog 188 #[.agg #[.int .i64 x.kind,.string x.name,.bool x.pub,.int .i64 x.n]] w fun e w'=>e = .returned (.bool (sizeOk x))/\Below w.heap.size w w':=by
 obtain ⟨K,S,B,N⟩:=x
 by_cases k1:K=1
 . have HR:Hid (sizeOk ⟨K,S,B,N⟩=numOkB N):=if_pos k1
   subst k1;go_enter Tryz.func188,Tryz.ntmps188
   go_wp2_with (go_at_call 241;refine (tNumber_any N _).mono ?_;rintro e w' ⟨rfl,hb⟩)
   go_ret;exact ⟨ret_bool HR.out.symm,((Below.refl _ _).alloc (Nat.le_refl _) _).trans (hb.mono (by simp))⟩
 . have b1:(K == 1)=false:=beq_eq_false_iff_ne.2 k1
   by_cases k3:K=3
   . have HR:Hid (sizeOk ⟨K,S,B,N⟩=(decide (1<=N)&&decide (N<=32))):=(if_neg k1).trans (if_pos k3)
     subst k3;clear k1 b1
     by_cases n1:1<=N
     . go_enter Tryz.func188,Tryz.ntmps188
       go_wp2_with fail
       all_goals go_ret
       all_goals exact ⟨ret_bool (by rw [HR.out];simp [*]<;>omega),(Below.refl _ _).alloc (Nat.le_refl _) _⟩
     . go_enter Tryz.func188,Tryz.ntmps188
       go_wp2_with fail
       all_goals go_ret
       all_goals exact ⟨ret_bool (by rw [HR.out];simp [*]<;>omega),(Below.refl _ _).alloc (Nat.le_refl _) _⟩
   . have b3:(K == 3)=false:=beq_eq_false_iff_ne.2 k3
     have HR:Hid (sizeOk ⟨K,S,B,N⟩=(N == 0)):=by
      show _=_
      rw [Bool.eq_iff_iff];simp [sizeOk,k1,k3]
     clear k1 k3;go_enter Tryz.func188,Tryz.ntmps188;go_wp2_with fail
     all_goals go_ret
     all_goals exact ⟨ret_bool (by rw [HR.out]),(Below.refl _ _).alloc (Nat.le_refl _) _⟩
end Go.Proofs.YtndkhgakfodldaaGreatDoor
