import Derived.Test.YtndkhgakfodldaaGreatDoorLeafc
import Derived.Deep.AppendLies
set_option maxRecDepth 100000
set_option maxHeartbeats 3200000
open Go.Proofs.Tryz
namespace Go.Proofs.YtndkhgakfodldaaGreatDoor
open Go.RowKit
inductive D where
 | int (n:Int)
 | str (s:ByteArray)
 | bool (b:Bool)
 | list (n:Nat) (ds:List D)
def pC (w:World) (b C:Nat) (l:List Value):Prop:=∀ j u,l[j]? = some u->w.cell? ⟨b,C+j,none⟩=some u
mutual
def eO (w:World) (A:Nat->Prop):D->Value->Prop
 | .int n,v=>v = .int .i64 n/\(Lit.int .i64 n).wf=true
 | .str s,v=>v = .string s/\s.size<=maxLen
 | .bool b,v=>v = .bool b
 | .list n Y,v=>∃ a q,v = .slice a n q/\n<=Y.length/\Y.length<=17592186044416/\(n=0\/∃ b C cs,a=some ⟨b,C,none⟩/\A b/\b<w.heap.size/\pC w b C cs/\eu w A Y cs)
def eu (w:World) (A:Nat->Prop):List D->List Value->Prop
 | [],cs=>cs=[]
 | d :: Y,cs=>∃ v r,cs=v :: r/\eO w A d v/\eu w A Y r
end
variable {A A':Nat->Prop} {b lo lo' C:Nat} {w G:World}
def j3 (lo:Nat) (w G:World):Prop:=w.heap.size<=G.heap.size/\∀ k,lo<=k->k<w.heap.size->G.heap[k]? = w.heap[k]?
theorem j3.refl (lo:Nat) (w:World):j3 lo w w:=⟨dA _,fun _ _ _=>rfl⟩
theorem j3.trans {a b c:World} (h:j3 lo a b) (k:j3 lo b c):j3 lo a c:=
 ⟨fZ h.1 k.1,fun i F J=>(k.2 i F (e4 J h.1)).trans (h.2 i F J)⟩
theorem j3.mono (h:j3 lo w G) (X:lo<=lo'):j3 lo' w G:=⟨h.1,fun k F J=>h.2 k (fZ X F) J⟩
theorem j3.of_below (h:dm w G) (lo:Nat):j3 lo w G:=⟨h.size,fun k _ J=>h.block k J⟩
theorem j3.cell (h:j3 lo w G) (F:lo<=b) (J:b<w.heap.size):G.cell? (dj b C)=w.cell? (dj b C):=
 lY (w:=w) (h.2 b F J)
theorem j3.alloc (h:j3 lo w G) (o:Obj):j3 lo w (G.alloc o):=
 h.trans (j3.of_below ((Below.refl G.heap.size G).alloc (dA _) o) lo)
def dU (w:World) (A:Nat->Prop) (G:World) (A':Nat->Prop):Prop:=w.heap.size<=G.heap.size/\∀ b,b<w.heap.size->A b->A' b/\G.heap[b]? = w.heap[b]?
theorem dU.refl (w:World) (A:Nat->Prop):dU w A w A:=⟨dA _,fun _ _ h=>⟨h,rfl⟩⟩
theorem dU.trans {dk w2 dC:World} {c a d:Nat->Prop} (h:dU dk c w2 a) (k:dU w2 a dC d):dU dk c dC d:=
 ⟨fZ h.1 k.1,fun b I a7=>⟨(k.2 b (e4 I h.1) (h.2 b I a7).1).1,(k.2 b (e4 I h.1) (h.2 b I a7).1).2.trans (h.2 b I a7).2⟩⟩
theorem dU.of_below (h:dm w G) (A:Nat->Prop):dU w A G A:=⟨h.size,fun b I a7=>⟨a7,h.block b I⟩⟩
theorem dU.alloc (h:dU w A G A') (o:Obj):dU w A (G.alloc o) A':=h.trans (dU.of_below ((Below.refl G.heap.size G).alloc (dA _) o) A')
theorem dU.lower (h:lo'<=lo):dU w (lo<=·) w (lo'<=·):=⟨dA _,fun _ _ a7=>⟨fZ h a7,rfl⟩⟩
theorem pC.moves {l:List Value} (h:pC w b C l) (a8:dU w A G A') (F:A b) (J:b<w.heap.size):pC G b C l:=
 fun j u a2=>(lY (w:=w) (a8.2 b J F).2).trans (h j u a2)
mutual
theorem eO.moves (a8:dU w A G A'):∀ (d:D) (v:Value),eO w A d v->eO G A' d v
 | .int _,_,h=>h
 | .str _,_,h=>h
 | .bool _,_,h=>h
 | .list n Y,v,h=>by
   unfold eO at h ⊢;obtain ⟨a,q,F,J,U,aa⟩:=h;refine ⟨a,q,F,J,U,?_⟩
   rcases aa with aa | ⟨b,C,cs,a7,X,I,W,S⟩
   . exact Or.inl aa
   . exact Or.inr ⟨b,C,cs,a7,(a8.2 b I X).1,e4 I a8.1,W.moves a8 X I,eu.moves a8 Y cs S⟩
theorem eu.moves (a8:dU w A G A'):∀ (l:List D) (cs:List Value),eu w A l cs->eu G A' l cs
 | [],_,h=>h
 | d :: Y,cs,h=>by
   unfold eu at h ⊢;obtain ⟨v,r,F,J,U⟩:=h;exact ⟨v,r,F,eO.moves a8 d v J,eu.moves a8 Y r U⟩
end
variable {A lo:Nat->Prop} {a:OA} {b:Bool} {cs:List Value} {s:ByteArray} {v:Value} {w G:World}
theorem eO.one:∀ {d:D} {v:Value},eO w lo d v->v.oneCell'=true
 | .int _,_,h=>by unfold eO at h;rw [h.1];rfl
 | .str _,_,h=>by unfold eO at h;rw [h.1];rfl
 | .bool _,_,h=>by unfold eO at h;rw [h];rfl
 | .list _ _,_,h=>by unfold eO at h;obtain ⟨a,q,h,_⟩:=h;rw [h];rfl
theorem eu.one:∀ {l:List D} {cs:List Value},eu w lo l cs->∀ u ∈ cs,u.oneCell'=true
 | [],_,h=>by unfold eu at h;rw [h];intro u aL;cases aL
 | d :: Y,cs,h=>by
   unfold eu at h;obtain ⟨v,r,rfl,J,U⟩:=h;intro u aL
   rcases kk.1 aL with rfl | aL
   . exact J.one
   . exact eu.one U u aL
theorem eu.len:∀ {l:List D} {cs:List Value},eu w lo l cs->cs.length=l.length
 | [],_,h=>by unfold eu at h;rw [h];rfl
 | d :: Y,cs,h=>by
   unfold eu at h;obtain ⟨v,r,rfl,J,U⟩:=h;simp [eu.len U]
theorem eu.nil:eu w lo [] []:=by unfold eu;rfl
theorem eu.cons {d:D} {ds:List D} (h:eO w lo d v) (k:eu w lo ds cs):eu w lo (d :: ds) (v :: cs):=by
 unfold eu;exact ⟨v,cs,rfl,h,k⟩
theorem eu.append:∀ {l m:List D} {cs p:List Value},eu w lo l cs->eu w lo m p->eu w lo (l++m) (cs++p)
 | [],m,cs,p,h,k=>by unfold eu at h;subst h;exact k
 | d :: Y,m,cs,p,h,k=>by
   unfold eu at h;obtain ⟨v,r,rfl,J,U⟩:=h;exact eu.cons J (eu.append U k)
theorem eu.get:∀ {l:List D} {cs:List Value},eu w lo l cs->∀ (j:Nat) (d:D),l[j]? = some d->∃ v,cs[j]? = some v/\eO w lo d v
 | [],_,_,j,d,a2=>by simp at a2
 | e :: Y,cs,h,j,d,a2=>by
   unfold eu at h;obtain ⟨v,r,rfl,J,U⟩:=h
   cases j with
   | zero=>simp at a2;subst a2;exact ⟨v,rfl,J⟩
   | succ j=>simpa using eu.get U j d PU
theorem eY {n:Int} (h:(Lit.int .i64 n).wf=true):eO w lo (.int n) (di n):=by unfold eO;exact ⟨rfl,h⟩
theorem fz (h:s.size<=maxLen):eO w lo (.str s) (.string s):=by unfold eO;exact ⟨rfl,h⟩
theorem ve:eO w lo (.bool b) (.bool b):=by unfold eO;rfl
theorem jc {q:Nat}:eO w lo (.list 0 []) (.slice a 0 q):=by unfold eO;exact ⟨a,q,rfl,dA _,Ob,Or.inl rfl⟩
theorem BT {n b C q:Nat} {ds:List D} (F:n<=ds.length) (J:ds.length<=17592186044416) (X:lo b) (I:b<w.heap.size) (W:pC w b C cs) (S:eu w lo ds cs):eO w lo (.list n ds) (.slice (some (dj b C)) n q):=by
 unfold eO;exact ⟨_,q,rfl,F,J,Or.inr ⟨b,C,cs,rfl,X,I,W,S⟩⟩
theorem gR {n:Int} (h:eO w lo (.int n) v):v=di n/\(Lit.int .i64 n).wf=true:=P1
theorem k9 (h:eO w lo (.str s) v):v = .string s/\s.size<=maxLen:=P1
theorem BU (h:eO w lo (.bool b) v):v = .bool b:=P1
def dx (w:World) (lo:Nat->Prop) (a:OA) (n:Nat) (ds:List D):Prop:=n<=ds.length/\ds.length<=17592186044416/\(n=0\/∃ b C cs,a=some (dj b C)/\lo b/\b<w.heap.size/\pC w b C cs/\eu w lo ds cs)
theorem ho {n:Nat} {ds:List D} (h:eO w lo (.list n ds) v):∃ a q,v = .slice a n q/\dx w lo a n ds:=P1
theorem dx.val {n q:Nat} {ds:List D} (h:dx w lo a n ds):eO w lo (.list n ds) (.slice a n q):=by unfold eO;exact ⟨a,q,rfl,h⟩
theorem dx.moves {A':Nat->Prop} {n:Nat} {ds:List D} (h:dx w A a n ds) (a8:dU w A G A'):dx G A' a n ds:=by
 obtain ⟨F,J,U⟩:=h;refine ⟨F,J,?_⟩
 rcases U with aa | ⟨b,C,cs,a7,X,I,W,S⟩
 . exact Or.inl aa
 . exact Or.inr ⟨b,C,cs,a7,(a8.2 b I X).1,e4 I a8.1,W.moves a8 X I,eu.moves a8 ds cs S⟩
theorem dx.later {n:Nat} {ds:List D} (h:dx w A a n ds) (I:dm w G):dx G A a n ds:=h.moves (dU.of_below I A)
theorem dx.bound {n:Nat} {ds:List D} (h:dx w A a n ds):n<=17592186044416:=fZ h.1 h.2.1
theorem dx.cell {n:Nat} {ds:List D} (h:dx w A a n ds) (Z:0<n):∃ b C,a=some (dj b C)/\b<w.heap.size/\∀ (j:Nat) (d:D),ds[j]? = some d->∃ v,w.cell? ⟨b,C+j,none⟩=some v/\eO w A d v:=by
 rcases h.2.2 with ab | ⟨b,C,cs,a7,_,I,W,S⟩
 . omega
 . refine ⟨b,C,a7,I,fun j d a2=>?_⟩
   obtain ⟨v,af,hd⟩:=S.get j d a2;exact ⟨v,W j v af,hd⟩
inductive eA where
 | mk (op n:Int) (mod name:ByteArray) (args:List eA)
def eA.op:eA->Int | .mk T _ _ _ _=>T
def eA.n:eA->Int | .mk _ n _ _ _=>n
def eA.mod:eA->ByteArray | .mk _ _ m _ _=>m
def eA.name:eA->ByteArray | .mk _ _ _ m _=>m
def eA.args:eA->List eA | .mk _ _ _ _ l=>l
inductive St where
 | mk (op:Int) (mod name:ByteArray) (args:List eA) (body other:List St)
def St.op:St->Int | .mk T _ _ _ _ _=>T
def St.mod:St->ByteArray | .mk _ m _ _ _ _=>m
def St.name:St->ByteArray | .mk _ _ m _ _ _=>m
def St.args:St->List eA | .mk _ _ _ l _ _=>l
def St.body:St->List St | .mk _ _ _ _ l _=>l
def St.other:St->List St | .mk _ _ _ _ _ l=>l
mutual
def eA.ds:eA->List D
 | .mk T n p s O=>[.int T,.int n,.str p,.str s,.list O.length (eV O)]
def eV:List eA->List D
 | []=>[]
 | x :: r=>x.ds++eV r
end
mutual
def St.ds:St->List D
 | .mk T p s O ac Z=>[.int T,.str p,.str s,.list O.length (eV O),.list ac.length (eE ac),.list Z.length (eE Z)]
def eE:List St->List D
 | []=>[]
 | x :: r=>x.ds++eE r
end
variable {A:Nat->Prop} {a:OA} {w:World}
theorem eA.ds_len (x:eA):x.ds.length=5:=by cases x;unfold eA.ds;rfl
theorem St.ds_len (x:St):x.ds.length=6:=by cases x;unfold St.ds;rfl
theorem BV:∀ (l m:List St),eE (l++m)=eE l++eE m
 | [],m=>by simp [eE]
 | x :: r,m=>by simp [eE,BV r m]
theorem BW (x:eA):eV [x]=x.ds:=by simp [eV]
theorem Ji (x:St):eE [x]=x.ds:=by simp [eE]
theorem BX:∀ (l:List eA) (i:Nat) (h:i<l.length) (j:Nat),j<5->(eV l)[i*5+j]? = (l[i].ds)[j]?
 | [],i,h,_,_=>Pq
 | x :: r,0,_,j,a2=>by
   have:=x.ds_len;simp only [eV,oz];rw [kh N7,gF,fY]
 | x :: r,i+1,h,j,a2=>by
   have:=x.ds_len;simp only [eV,nD];rw [lC N7,show (i+1)*5+j - x.ds.length=i*5+j from N7];exact BX r i OU j a2
theorem BZ:∀ (l:List St) (i:Nat) (h:i<l.length) (j:Nat),j<6->(eE l)[i*6+j]? = (l[i].ds)[j]?
 | [],i,h,_,_=>Pq
 | x :: r,0,_,j,a2=>by
   have:=x.ds_len;simp only [eE,oz];rw [kh N7,gF,fY]
 | x :: r,i+1,h,j,a2=>by
   have:=x.ds_len;simp only [eE,nD];rw [lC N7,show (i+1)*6+j - x.ds.length=i*6+j from N7];exact BZ r i OU j a2
structure B0 (w:World) (A:Nat->Prop) (b o:Nat) (x:eA) (aa:OA) (cap:Nat):Prop where
 lt:b<w.heap.size
 c0:w.cell? (dj b o)=some (di x.op)
 c1:w.cell? ⟨b,o+1,none⟩=some (di x.n)
 c2:w.cell? ⟨b,o+2,none⟩=some (.string x.mod)
 c3:w.cell? ⟨b,o+3,none⟩=some (.string x.name)
 c4:w.cell? ⟨b,o+4,none⟩=some (.slice aa x.args.length cap)
 args:dx w A aa x.args.length (eV x.args)
 wop:(Lit.int .i64 x.op).wf=true
 wn:(Lit.int .i64 x.n).wf=true
 wm:x.mod.size<=maxLen
 wna:x.name.size<=maxLen
structure vf (w:World) (A:Nat->Prop) (b o:Nat) (x:St) (a1:OA) (c1':Nat) (a2:OA) (c2':Nat) (a3:OA) (c3':Nat):Prop where
 lt:b<w.heap.size
 c0:w.cell? (dj b o)=some (di x.op)
 c1:w.cell? ⟨b,o+1,none⟩=some (.string x.mod)
 c2:w.cell? ⟨b,o+2,none⟩=some (.string x.name)
 c3:w.cell? ⟨b,o+3,none⟩=some (.slice a1 x.args.length c1')
 c4:w.cell? ⟨b,o+4,none⟩=some (.slice a2 x.body.length c2')
 c5:w.cell? ⟨b,o+5,none⟩=some (.slice a3 x.other.length c3')
 args:dx w A a1 x.args.length (eV x.args)
 body:dx w A a2 x.body.length (eE x.body)
 other:dx w A a3 x.other.length (eE x.other)
 wop:(Lit.int .i64 x.op).wf=true
 wm:x.mod.size<=maxLen
 wna:x.name.size<=maxLen
theorem dx.ex {l:List eA} (h:dx w A a l.length (eV l)) (i:Nat) (V:i<l.length):∃ b C ak q,a=some (dj b C)/\B0 w A b (C+i*5) l[i] ak q:=by
 obtain ⟨b,C,a7,I,W⟩:=h.cell N7;generalize S:l[i]=x;obtain ⟨T,n,p,s,O⟩:=x
 have al:∀ j d,j<5->(eA.mk T n p s O).ds[j]? = some d->∃ v,w.cell? ⟨b,C+i*5+j,none⟩=some v/\eO w A d v:=fun j d a2 hd=>by
  rw [ie];exact W (i*5+j) d ((BX l i V j a2).trans OQ)
 obtain ⟨aw,g,bE⟩:=al 0 (.int T) N7 (by simp [eA.ds]);obtain ⟨aF,a9,aT⟩:=al 1 (.int n) N7 (by simp [eA.ds]);obtain ⟨aM,au,aU⟩:=al 2 (.str p) N7 (by simp [eA.ds]);obtain ⟨bl,bn,bh⟩:=al 3 (.str s) N7 (by simp [eA.ds]);obtain ⟨a8,aH,a3⟩:=al 4 (.list O.length (eV O)) N7 (by simp [eA.ds]);obtain ⟨rfl,w0⟩:=gR bE;obtain ⟨rfl,dk⟩:=gR aT;obtain ⟨rfl,w2⟩:=k9 aU;obtain ⟨rfl,dC⟩:=k9 bh;obtain ⟨ak,q,rfl,aO⟩:=ho a3;exact ⟨b,C,ak,q,a7,I,g,a9,au,bn,aH,aO,w0,dk,w2,dC⟩
theorem dx.st {l:List St} (h:dx w A a l.length (eE l)) (i:Nat) (V:i<l.length):∃ b C E ah a0 ae a6 c3,a=some (dj b C)/\vf w A b (C+i*6) l[i] E ah a0 ae a6 c3:=by
 obtain ⟨b,C,a7,I,W⟩:=h.cell N7;generalize S:l[i]=x;obtain ⟨T,p,s,O,ac,Z⟩:=x
 have al:∀ j d,j<6->(St.mk T p s O ac Z).ds[j]? = some d->∃ v,w.cell? ⟨b,C+i*6+j,none⟩=some v/\eO w A d v:=fun j d a2 hd=>by
  rw [ie];exact W (i*6+j) d ((BZ l i V j a2).trans OQ)
 obtain ⟨aw,g,bE⟩:=al 0 (.int T) N7 P6;obtain ⟨aF,a9,aT⟩:=al 1 (.str p) N7 P6;obtain ⟨aM,au,aU⟩:=al 2 (.str s) N7 P6;obtain ⟨bl,bn,bh⟩:=al 3 (.list O.length (eV O)) N7 P6;obtain ⟨a8,aH,a3⟩:=al 4 (.list ac.length (eE ac)) N7 P6;obtain ⟨u,k5,bp⟩:=al 5 (.list Z.length (eE Z)) N7 P6;obtain ⟨rfl,w0⟩:=gR bE;obtain ⟨rfl,dk⟩:=k9 aT;obtain ⟨rfl,w2⟩:=k9 aU;obtain ⟨E,ah,rfl,F⟩:=ho bh;obtain ⟨a0,ae,rfl,J⟩:=ho a3;obtain ⟨a6,c3,rfl,U⟩:=ho bp;exact ⟨b,C,E,ah,a0,ae,a6,c3,a7,I,g,a9,au,bn,aH,k5,F,J,U,w0,dk,w2⟩
structure gG where
 kind:Int
 name:ByteArray
 pub:Bool
 n:Int
structure fa where
 name:ByteArray
 pub:Bool
 params:List ByteArray
 locals:List ByteArray
 body:List St
structure ec where
 name:ByteArray
 uses:List ByteArray
 decls:List gG
 procs:List fa
 main:List St
def gG.ds (d:gG):List D:=[.int d.kind,.str d.name,.bool d.pub,.int d.n]
def eH (l:List ByteArray):List D:=l.map .str
def fa.ds (p:fa):List D:=[.str p.name,.bool p.pub,.list p.params.length (eH p.params),.list p.locals.length (eH p.locals),.list p.body.length (eE p.body)]
def ec.ds (m:ec):List D:=[.str m.name,.list m.uses.length (eH m.uses),.list m.decls.length (m.decls.flatMap gG.ds),.list m.procs.length (m.procs.flatMap fa.ds),.list m.main.length (eE m.main)]
def jq (l:List fa):List D:=l.flatMap fa.ds
def lb (l:List gG):List D:=l.flatMap gG.ds
def Jj (l:List ec):List D:=l.flatMap ec.ds
theorem mg {α:Type} (f:α->List D) (k:Nat) (Y:∀ x,(f x).length=k):∀ (l:List α) (i:Nat) (h:i<l.length) (j:Nat),j<k->(l.flatMap f)[i*k+j]? = (f l[i])[j]?
 | [],i,h,_,_=>Pq
 | x :: r,0,_,j,a2=>by
   have:=Y x;simp only [ki,oz];rw [kh N7,gF,fY]
 | x :: r,i+1,h,j,a2=>by
   have:=Y x;have e:(i+1)*k=i*k+k:=xG i k;simp only [ki,nD];rw [lC N7,show (i+1)*k+j - (f x).length=i*k+j from N7];exact mg f k Y r i OU j a2
structure Jk (w:World) (b o:Nat) (x:gG):Prop where
 lt:b<w.heap.size
 c0:w.cell? (dj b o)=some (di x.kind)
 c1:w.cell? ⟨b,o+1,none⟩=some (.string x.name)
 c2:w.cell? ⟨b,o+2,none⟩=some (.bool x.pub)
 c3:w.cell? ⟨b,o+3,none⟩=some (di x.n)
 wk:(Lit.int .i64 x.kind).wf=true
 wn:(Lit.int .i64 x.n).wf=true
 wna:x.name.size<=maxLen
structure B1 (w:World) (A:Nat->Prop) (b o:Nat) (x:fa) (a1:OA) (c1':Nat) (a2:OA) (c2':Nat) (a3:OA) (c3':Nat):Prop where
 lt:b<w.heap.size
 c0:w.cell? (dj b o)=some (.string x.name)
 c1:w.cell? ⟨b,o+1,none⟩=some (.bool x.pub)
 c2:w.cell? ⟨b,o+2,none⟩=some (.slice a1 x.params.length c1')
 c3:w.cell? ⟨b,o+3,none⟩=some (.slice a2 x.locals.length c2')
 c4:w.cell? ⟨b,o+4,none⟩=some (.slice a3 x.body.length c3')
 params:dx w A a1 x.params.length (eH x.params)
 locals:dx w A a2 x.locals.length (eH x.locals)
 body:dx w A a3 x.body.length (eE x.body)
 wna:x.name.size<=maxLen
structure gS (w:World) (A:Nat->Prop) (m:ec) (v:Value) (a1:OA) (c1:Nat) (a2:OA) (c2:Nat) (a3:OA) (c3:Nat) (a4:OA) (c4:Nat):Prop where
 val:v = .agg #[.string m.name,.slice a1 m.uses.length c1,.slice a2 m.decls.length c2,.slice a3 m.procs.length c3,.slice a4 m.main.length c4]
 wna:m.name.size<=maxLen
 uses:dx w A a1 m.uses.length (eH m.uses)
 decls:dx w A a2 m.decls.length (lb m.decls)
 procs:dx w A a3 m.procs.length (jq m.procs)
 main:dx w A a4 m.main.length (eE m.main)
theorem gS.later {G:World} {m:ec} {v:Value} {E a0 a6 c:OA} {ah ae c3 K:Nat} (h:gS w A m v E ah a0 ae a6 c3 c K) (I:dm w G):gS G A m v E ah a0 ae a6 c3 c K:=
 ⟨h.val,h.wna,h.uses.later I,h.decls.later I,h.procs.later I,h.main.later I⟩
theorem dx.str {l:List ByteArray} (h:dx w A a l.length (eH l)) (i:Nat) (V:i<l.length):∃ b C,a=some (dj b C)/\b<w.heap.size/\w.cell? ⟨b,C+i,none⟩=some (.string l[i])/\l[i].size<=maxLen:=by
 obtain ⟨b,C,a7,I,W⟩:=h.cell N7;obtain ⟨v,af,hd⟩:=W i (.str l[i]) (by simp [eH,V]);obtain ⟨rfl,J⟩:=k9 hd;exact ⟨b,C,a7,I,af,J⟩
theorem dx.de {l:List gG} (h:dx w A a l.length (lb l)) (i:Nat) (V:i<l.length):∃ b C,a=some (dj b C)/\Jk w b (C+i*4) l[i]:=by
 obtain ⟨b,C,a7,I,W⟩:=h.cell N7;generalize S:l[i]=x;obtain ⟨p,s,pub,n⟩:=x
 have al:∀ j d,j<4->(gG.mk p s pub n).ds[j]? = some d->∃ v,w.cell? ⟨b,C+i*4+j,none⟩=some v/\eO w A d v:=fun j d a2 hd=>by
  rw [ie];exact W (i*4+j) d ((mg gG.ds 4 (fun _=>rfl) l i V j a2).trans OQ)
 obtain ⟨aw,g,bE⟩:=al 0 (.int p) N7 (by simp [gG.ds]);obtain ⟨aF,a9,aT⟩:=al 1 (.str s) N7 (by simp [gG.ds]);obtain ⟨aM,au,aU⟩:=al 2 (.bool pub) N7 (by simp [gG.ds]);obtain ⟨bl,bn,bh⟩:=al 3 (.int n) N7 (by simp [gG.ds]);obtain ⟨rfl,w0⟩:=gR bE;obtain ⟨rfl,dk⟩:=k9 aT;obtain rfl:=BU aU;obtain ⟨rfl,dC⟩:=gR bh;exact ⟨b,C,a7,I,g,a9,au,bn,w0,dC,dk⟩
theorem dx.pr {l:List fa} (h:dx w A a l.length (jq l)) (i:Nat) (V:i<l.length):∃ b C E ah a0 ae a6 c3,a=some (dj b C)/\B1 w A b (C+i*5) l[i] E ah a0 ae a6 c3:=by
 obtain ⟨b,C,a7,I,W⟩:=h.cell N7;generalize S:l[i]=x;obtain ⟨s,pub,c,e,ac⟩:=x
 have al:∀ j d,j<5->(fa.mk s pub c e ac).ds[j]? = some d->∃ v,w.cell? ⟨b,C+i*5+j,none⟩=some v/\eO w A d v:=fun j d a2 hd=>by
  rw [ie];exact W (i*5+j) d ((mg fa.ds 5 (fun _=>rfl) l i V j a2).trans OQ)
 obtain ⟨aw,g,bE⟩:=al 0 (.str s) N7 (by simp [fa.ds]);obtain ⟨aF,a9,aT⟩:=al 1 (.bool pub) N7 (by simp [fa.ds]);obtain ⟨aM,au,aU⟩:=al 2 (.list c.length (eH c)) N7 (by simp [fa.ds]);obtain ⟨bl,bn,bh⟩:=al 3 (.list e.length (eH e)) N7 (by simp [fa.ds]);obtain ⟨a8,aH,a3⟩:=al 4 (.list ac.length (eE ac)) N7 (by simp [fa.ds]);obtain ⟨rfl,w0⟩:=k9 bE;obtain rfl:=BU aT;obtain ⟨E,ah,rfl,F⟩:=ho aU;obtain ⟨a0,ae,rfl,J⟩:=ho bh;obtain ⟨a6,c3,rfl,U⟩:=ho a3;exact ⟨b,C,E,ah,a0,ae,a6,c3,a7,I,g,a9,au,bn,aH,F,J,U,w0⟩
theorem dx.mo {l:List ec} (h:dx w A a l.length (Jj l)) (i:Nat) (V:i<l.length):∃ b C v E ah a0 ae a6 c3 c K,a=some (dj b C)/\b<w.heap.size/\gS w A l[i] v E ah a0 ae a6 c3 c K/\
 w.cell? ⟨b,C+i*5,none⟩=some (.string l[i].name)/\w.cell? ⟨b,C+i*5+1,none⟩=some (.slice E l[i].uses.length ah)/\w.cell? ⟨b,C+i*5+2,none⟩=some (.slice a0 l[i].decls.length ae)/\
 w.cell? ⟨b,C+i*5+3,none⟩=some (.slice a6 l[i].procs.length c3)/\w.cell? ⟨b,C+i*5+4,none⟩=some (.slice c l[i].main.length K):=by
 obtain ⟨b,C,a7,I,W⟩:=h.cell N7;generalize S:l[i]=x;obtain ⟨s,e,decls,procs,main⟩:=x
 have al:∀ j d,j<5->(ec.mk s e decls procs main).ds[j]? = some d->∃ v,w.cell? ⟨b,C+i*5+j,none⟩=some v/\eO w A d v:=fun j d a2 hd=>by
  rw [ie];exact W (i*5+j) d ((mg ec.ds 5 (fun _=>rfl) l i V j a2).trans OQ)
 obtain ⟨aw,g,bE⟩:=al 0 (.str s) N7 (by simp [ec.ds]);obtain ⟨aF,a9,aT⟩:=al 1 (.list e.length (eH e)) N7 (by simp [ec.ds]);obtain ⟨aM,au,aU⟩:=al 2 (.list decls.length (lb decls)) N7 (by simp [ec.ds,lb]);obtain ⟨bl,bn,bh⟩:=al 3 (.list procs.length (jq procs)) N7 (by simp [ec.ds,jq]);obtain ⟨a8,aH,a3⟩:=al 4 (.list main.length (eE main)) N7 (by simp [ec.ds]);obtain ⟨rfl,w0⟩:=k9 bE;obtain ⟨E,ah,rfl,F⟩:=ho aT;obtain ⟨a0,ae,rfl,J⟩:=ho aU;obtain ⟨a6,c3,rfl,U⟩:=ho bh;obtain ⟨c,K,rfl,aa⟩:=ho a3;exact ⟨b,C,_,E,ah,a0,ae,a6,c3,c,K,a7,I,⟨rfl,w0,F,J,U,aa⟩,g,a9,au,bn,aH⟩
mutual
def gH (w:World) (A:Nat->Prop):D->Value->Prop
 | .int n,v=>v = .int .i64 n
 | .str s,v=>v = .string s/\s.size<=maxLen
 | .bool b,v=>v = .bool b
 | .list n Y,v=>∃ a q,v = .slice a n q/\(n=0\/∃ b C cs,a=some ⟨b,C,none⟩/\A b/\b<w.heap.size/\pC w b C cs/\eI w A Y cs)
def eI (w:World) (A:Nat->Prop):List D->List Value->Prop
 | [],cs=>cs=[]
 | d :: Y,cs=>∃ v r,cs=v :: r/\gH w A d v/\eI w A Y r
end
mutual
variable {A A':Nat->Prop} {w G:World}
theorem gH.moves (a8:dU w A G A'):∀ (d:D) (v:Value),gH w A d v->gH G A' d v
 | .int _,_,h=>h
 | .str _,_,h=>h
 | .bool _,_,h=>h
 | .list n Y,v,h=>by
   unfold gH at h ⊢;obtain ⟨a,q,F,aa⟩:=h;refine ⟨a,q,F,?_⟩
   rcases aa with aa | ⟨b,C,cs,a7,X,I,W,S⟩
   . exact Or.inl aa
   . exact Or.inr ⟨b,C,cs,a7,(a8.2 b I X).1,e4 I a8.1,W.moves a8 X I,eI.moves a8 Y cs S⟩
theorem eI.moves (a8:dU w A G A'):∀ (l:List D) (cs:List Value),eI w A l cs->eI G A' l cs
 | [],_,h=>h
 | d :: Y,cs,h=>by
   unfold eI at h ⊢;obtain ⟨v,r,F,J,U⟩:=h;exact ⟨v,r,F,gH.moves a8 d v J,eI.moves a8 Y r U⟩
end
variable {A lo:Nat->Prop} {a:OA} {s:ByteArray} {v:Value} {w:World}
theorem gH.one:∀ {d:D} {v:Value},gH w lo d v->v.oneCell'=true
 | .int _,_,h=>by unfold gH at h;rw [h];rfl
 | .str _,_,h=>by unfold gH at h;rw [h.1];rfl
 | .bool _,_,h=>by unfold gH at h;rw [h];rfl
 | .list _ _,_,h=>by unfold gH at h;obtain ⟨a,q,h,_⟩:=h;rw [h];rfl
theorem eI.one:∀ {l:List D} {cs:List Value},eI w lo l cs->∀ u ∈ cs,u.oneCell'=true
 | [],_,h=>by unfold eI at h;rw [h];intro u aL;cases aL
 | d :: Y,cs,h=>by
   unfold eI at h;obtain ⟨v,r,rfl,J,U⟩:=h;intro u aL
   rcases kk.1 aL with rfl | aL
   . exact J.one
   . exact eI.one U u aL
theorem eI.len:∀ {l:List D} {cs:List Value},eI w lo l cs->cs.length=l.length
 | [],_,h=>by unfold eI at h;rw [h];rfl
 | d :: Y,cs,h=>by
   unfold eI at h;obtain ⟨v,r,rfl,J,U⟩:=h;simp [eI.len U]
theorem eI.nil:eI w lo [] []:=by unfold eI;rfl
theorem eI.cons {d:D} {ds:List D} {cs:List Value} (h:gH w lo d v) (k:eI w lo ds cs):eI w lo (d :: ds) (v :: cs):=by
 unfold eI;exact ⟨v,cs,rfl,h,k⟩
theorem eI.append:∀ {l m:List D} {cs p:List Value},eI w lo l cs->eI w lo m p->eI w lo (l++m) (cs++p)
 | [],m,cs,p,h,k=>by unfold eI at h;subst h;exact k
 | d :: Y,m,cs,p,h,k=>by
   unfold eI at h;obtain ⟨v,r,rfl,J,U⟩:=h;exact eI.cons J (eI.append U k)
theorem eI.get:∀ {l:List D} {cs:List Value},eI w lo l cs->∀ (j:Nat) (d:D),l[j]? = some d->∃ v,cs[j]? = some v/\gH w lo d v
 | [],_,_,j,d,a2=>by simp at a2
 | e :: Y,cs,h,j,d,a2=>by
   unfold eI at h;obtain ⟨v,r,rfl,J,U⟩:=h
   cases j with
   | zero=>simp at a2;subst a2;exact ⟨v,rfl,J⟩
   | succ j=>simpa using eI.get U j d PU
theorem kl {n:Int}:gH w lo (.int n) (di n):=by unfold gH;rfl
theorem qG (h:s.size<=maxLen):gH w lo (.str s) (.string s):=by unfold gH;exact ⟨rfl,h⟩
theorem vg {n:Int} (h:gH w lo (.int n) v):v=di n:=by unfold gH at h;exact h
theorem B2 (h:gH w lo (.str s) v):v = .string s/\s.size<=maxLen:=by unfold gH at h;exact h
def ee (w:World) (lo:Nat->Prop) (a:OA) (n:Nat) (ds:List D):Prop:=n=0\/∃ b C cs,a=some (dj b C)/\lo b/\b<w.heap.size/\pC w b C cs/\eI w lo ds cs
theorem ee.val {n q:Nat} {ds:List D} (h:ee w lo a n ds):gH w lo (.list n ds) (.slice a n q):=by unfold gH;exact ⟨a,q,rfl,h⟩
theorem ee.moves {A':Nat->Prop} {G:World} {n:Nat} {ds:List D} (h:ee w A a n ds) (a8:dU w A G A'):ee G A' a n ds:=by
 rcases h with aa | ⟨b,C,cs,a7,X,I,W,S⟩
 . exact Or.inl aa
 . exact Or.inr ⟨b,C,cs,a7,(a8.2 b I X).1,e4 I a8.1,W.moves a8 X I,eI.moves a8 ds cs S⟩
theorem ee.of_own {y n q:Nat} {e:TypeId} {size:Nat} {ds:List D} {ao:List Value} (h:w.ownsRow y e size (.slice a n q) n ao) (X:∀ b,y<=b->A b) (S:eI w A ds ao):ee w A a n ds:=by
 rcases h.2 with ⟨F,J⟩ | ⟨al,f,o,F,I,ak,Z,W,a8,ax⟩
 . exact Or.inl J
 . injection F with F _ _
   refine Or.inr ⟨al,0,ao,F,X al I,lt_of_heap ak,fun j u a2=>?_,S⟩;have:=h.cells (g:=al) (by rw [F];rfl) j u a2;rw [fY]
   have e:((dj al 0):Addr).add j=(dj al j):=On
   rwa [e] at this
mutual
def D.fine:D->Prop
 | .int n=>(Lit.int .i64 n).wf=true
 | .str _=>True
 | .bool _=>True
 | .list n Y=>n<=Y.length/\Y.length<=17592186044416/\D.fines Y
def D.fines:List D->Prop
 | []=>True
 | d :: Y=>d.fine/\D.fines Y
end
mutual
variable {A:Nat->Prop} {w:World}
theorem gH.toD:∀ (d:D) (v:Value),gH w A d v->d.fine->eO w A d v
 | .int _,_,h,k=>by unfold gH at h;unfold D.fine at k;unfold eO;exact ⟨h,k⟩
 | .str _,_,h,_=>by unfold gH at h;unfold eO;exact h
 | .bool _,_,h,_=>by unfold gH at h;unfold eO;exact h
 | .list n Y,v,h,k=>by
   unfold gH at h;unfold D.fine at k;unfold eO;obtain ⟨a,q,F,aa⟩:=h;refine ⟨a,q,F,k.1,k.2.1,?_⟩
   rcases aa with aa | ⟨b,C,cs,a7,X,I,W,S⟩
   . exact Or.inl aa
   . exact Or.inr ⟨b,C,cs,a7,X,I,W,eI.toD Y cs S k.2.2⟩
theorem eI.toD:∀ (l:List D) (cs:List Value),eI w A l cs->D.fines l->eu w A l cs
 | [],_,h,_=>by unfold eI at h;unfold eu;exact h
 | d :: Y,cs,h,k=>by
   unfold eI at h;unfold D.fines at k;unfold eu;obtain ⟨v,r,F,J,U⟩:=h;exact ⟨v,r,F,gH.toD d v J k.1,eI.toD Y r U k.2⟩
end
theorem ee.toD {A:Nat->Prop} {w:World} {a:OA} {n:Nat} {ds:List D} (h:ee w A a n ds) (F:n<=ds.length) (J:ds.length<=17592186044416) (k:D.fines ds):dx w A a n ds:=by
 refine ⟨F,J,?_⟩
 rcases h with h | ⟨b,C,cs,a7,X,I,W,S⟩
 . exact Or.inl h
 . exact Or.inr ⟨b,C,cs,a7,X,I,W,S.toD _ _ k⟩
inductive dB where
 | mk (op n m at_:Int) (args:List dB)
def dB.op:dB->Int | .mk T _ _ _ _=>T
def dB.n:dB->Int | .mk _ n _ _ _=>n
def dB.m:dB->Int | .mk _ _ m _ _=>m
def dB.at_:dB->Int | .mk _ _ _ a _=>a
def dB.args:dB->List dB | .mk _ _ _ _ l=>l
inductive du where
 | mk (op n m at_:Int) (args:List dB) (body other:List du)
def du.op:du->Int | .mk T _ _ _ _ _ _=>T
def du.n:du->Int | .mk _ n _ _ _ _ _=>n
def du.m:du->Int | .mk _ _ m _ _ _ _=>m
def du.at_:du->Int | .mk _ _ _ a _ _ _=>a
def du.args:du->List dB | .mk _ _ _ _ l _ _=>l
def du.body:du->List du | .mk _ _ _ _ _ l _=>l
def du.other:du->List du | .mk _ _ _ _ _ _ l=>l
mutual
def dB.ds:dB->List D
 | .mk T n m a O=>[.int T,.int n,.int m,.int a,.list O.length (es O)]
def es:List dB->List D
 | []=>[]
 | x :: r=>x.ds++es r
end
mutual
def du.ds:du->List D
 | .mk T n m a O ac Z=>[.int T,.int n,.int m,.int a,.list O.length (es O),.list ac.length (eJ ac),.list Z.length (eJ Z)]
def eJ:List du->List D
 | []=>[]
 | x :: r=>x.ds++eJ r
end
theorem dB.ds_len (x:dB):x.ds.length=5:=by cases x;unfold dB.ds;rfl
theorem du.ds_len (x:du):x.ds.length=7:=by cases x;unfold du.ds;rfl
theorem B3:∀ (l m:List dB),es (l++m)=es l++es m
 | [],m=>by simp [es]
 | x :: r,m=>by simp [es,B3 r m]
theorem B4:∀ (l m:List du),eJ (l++m)=eJ l++eJ m
 | [],m=>by simp [eJ]
 | x :: r,m=>by simp [eJ,B4 r m]
theorem Jl (x:dB):es [x]=x.ds:=by simp [es]
theorem Jm (x:du):eJ [x]=x.ds:=by simp [eJ]
structure e5 where
 params:Int
 locals:Int
 body:List du
def e5.ds (p:e5):List D:=[.int p.params,.int p.locals,.list p.body.length (eJ p.body)]
def ih (l:List e5):List D:=l.flatMap e5.ds
structure dN where
 name:ByteArray
 uses:List ByteArray
 data:Int
 parts:List e5
 main:List du
structure Mg where
 kind:Int
 n:Int
 m:Int
 at_:Int
def gI:Mg:=⟨0,0,0,0⟩
abbrev Kn:=ByteArray->ByteArray->Option Mg
abbrev Lc:=ByteArray->Option Int
def B5 (K:Kn) (L:Lc) (p s:ByteArray):Option Mg:=
 if p.size=0 then (match L s with | some a=>some ⟨0,0,0,a⟩ | none=>K p s) else K p s
def gv (K:Kn) (L:Lc) (p s:ByteArray) (f:List Int):Mg × Int:=
 match B5 K L p s with
 | none=>(gI,5)
 | some x=>if f.contains x.kind then (x,0) else (gI,7)
def lI (K:Kn) (L:Lc) (p s:ByteArray) (a:Int):Mg × Int:=
 if (gv K L p s [4]).2=0/\(gv K L p s [4]).1.n≠a then (gI,8) else gv K L p s [4]
structure Al where
 op:Int
 n:Int
 m:Int
 at_:Int
 err:Int
def rX (K:Kn) (L:Lc) (p s:ByteArray):Al:=
 if (gv K L p s [0,1,2]).2≠0 then ⟨0,0,0,0,(gv K L p s [0,1,2]).2⟩
 else if (gv K L p s [0,1,2]).1.kind=1 then ⟨1,(gv K L p s [0,1,2]).1.n,0,0,0⟩
 else if (gv K L p s [0,1,2]).1.kind=2 then ⟨3,0,(gv K L p s [0,1,2]).1.m,(gv K L p s [0,1,2]).1.at_,0⟩
 else ⟨16,0,0,(gv K L p s [0,1,2]).1.at_,0⟩
def lc (K:Kn) (L:Lc) (x:eA):Al:=
 if x.op=3 then rX K L x.mod x.name
 else if x.op=4 then ⟨4,(gv K L x.mod x.name [3]).1.n,(gv K L x.mod x.name [3]).1.m,(gv K L x.mod x.name [3]).1.at_,(gv K L x.mod x.name [3]).2⟩
 else if x.op=5 then ⟨5,0,(lI K L x.mod x.name x.args.length).1.m,(lI K L x.mod x.name x.args.length).1.at_,(lI K L x.mod x.name x.args.length).2⟩
 else ⟨x.op,x.n,0,0,0⟩
def jG (K:Kn) (L:Lc) (s:St):Al:=
 if s.op=1 then ⟨1,0,if (gv K L s.mod s.name [0,2]).1.kind=0 then -1 else (gv K L s.mod s.name [0,2]).1.m,(gv K L s.mod s.name [0,2]).1.at_,(gv K L s.mod s.name [0,2]).2⟩
 else if s.op=2 then ⟨2,(gv K L s.mod s.name [3]).1.n,(gv K L s.mod s.name [3]).1.m,(gv K L s.mod s.name [3]).1.at_,(gv K L s.mod s.name [3]).2⟩
 else if s.op=3 then ⟨3,0,(lI K L s.mod s.name s.args.length).1.m,(lI K L s.mod s.name s.args.length).1.at_,(lI K L s.mod s.name s.args.length).2⟩
 else ⟨s.op,0,0,0,0⟩
def hb {α β:Type}:Except Int α->(α->Except Int β)->Except Int β
 | .error e,_=>.error e
 | .ok a,f=>f a
def rY (a:Al):Except Int Al:=if a.err=0 then .ok a else .error a.err
mutual
def mO (K:Kn) (L:Lc):eA->Except Int dB
 | .mk T n p s O=>hb (rY (lc K L (.mk T n p s O))) fun h=>hb (gw K L O) fun l=>.ok (.mk h.op h.n h.m h.at_ l)
def gw (K:Kn) (L:Lc):List eA->Except Int (List dB)
 | []=>.ok []
 | x :: r=>hb (mO K L x) fun a3=>hb (gw K L r) fun l=>.ok (a3 :: l)
end
mutual
def km (K:Kn) (L:Lc):St->Except Int du
 | .mk T p s O ac Z=>hb (rY (jG K L (.mk T p s O ac Z))) fun h=>hb (gw K L O) fun l=>hb (fR K L ac) fun b=>hb (fR K L Z) fun o=>.ok (.mk h.op h.n h.m h.at_ l b o)
def fR (K:Kn) (L:Lc):List St->Except Int (List du)
 | []=>.ok []
 | x :: r=>hb (km K L x) fun a3=>hb (fR K L r) fun l=>.ok (a3 :: l)
end
variable {e:Int} {j:Nat} {α:Type}
theorem xM (x:Except Int α):hb x .ok=x:=by cases x<;>rfl
theorem xN (K:Kn) (L:Lc):∀ (a b:List eA) (H:List dB),gw K L a = .ok H->gw K L (a++b)=hb (gw K L b) fun l=>.ok (H++l)
 | [],b,H,h=>by
   rw [gw] at h;obtain rfl:=rS h;show gw K L b=_;exact (xM _).symm
 | x :: a,b,H,h=>by
   rw [gw] at h;show gw K L (x :: (a++b))=_;rw [gw]
   cases S:mO K L x with
   | error e=>rw [S] at h;cases h
   | ok a3=>
     rw [S] at h;simp only [hb] at h ⊢
     cases a7:gw K L a with
     | error e=>rw [a7] at h;cases h
     | ok l=>
       rw [a7] at h;obtain rfl:=rS h;rw [xN K L a b l a7]
       cases gw K L b<;>rfl
theorem xO (K:Kn) (L:Lc):∀ (a b:List St) (H:List du),fR K L a = .ok H->fR K L (a++b)=hb (fR K L b) fun l=>.ok (H++l)
 | [],b,H,h=>by
   rw [fR] at h;obtain rfl:=rS h;show fR K L b=_;exact (xM _).symm
 | x :: a,b,H,h=>by
   rw [fR] at h;show fR K L (x :: (a++b))=_;rw [fR]
   cases S:km K L x with
   | error e=>rw [S] at h;cases h
   | ok a3=>
     rw [S] at h;simp only [hb] at h ⊢
     cases a7:fR K L a with
     | error e=>rw [a7] at h;cases h
     | ok l=>
       rw [a7] at h;obtain rfl:=rS h;rw [xO K L a b l a7]
       cases fR K L b<;>rfl
theorem xP (l:List α) (j:Nat) (h:j<l.length):l=l.take j++l[j] :: l.drop (j+1):=by
 rw [List.getElem_cons_drop,oC]
theorem Jn {K:Kn} {L:Lc} {l:List eA} {H:List dB} (h:j<l.length) (a7:gw K L (l.take j) = .ok H) (ar:mO K L l[j] = .error e):gw K L l = .error e:=by
 rw [xP l j h,xN K L _ _ H a7,gw,ar];rfl
theorem Jo {K:Kn} {L:Lc} {l:List eA} {H:List dB} {y:dB} (h:j<l.length) (a7:gw K L (l.take j) = .ok H) (ar:mO K L l[j] = .ok y):gw K L (l.take (j+1)) = .ok (H++[y]):=by
 rw [gn h,xN K L _ _ H a7,gw,ar];rfl
theorem Jp {K:Kn} {L:Lc} {l:List St} {H:List du} (h:j<l.length) (a7:fR K L (l.take j) = .ok H) (ar:km K L l[j] = .error e):fR K L l = .error e:=by
 rw [xP l j h,xO K L _ _ H a7,fR,ar];rfl
theorem Jq {K:Kn} {L:Lc} {l:List St} {H:List du} {y:du} (h:j<l.length) (a7:fR K L (l.take j) = .ok H) (ar:km K L l[j] = .ok y):fR K L (l.take (j+1)) = .ok (H++[y]):=by
 rw [gn h,xO K L _ _ H a7,fR,ar];rfl
theorem xQ (K:Kn) (L:Lc) (x:eA):mO K L x=hb (rY (lc K L x)) fun h=>hb (gw K L x.args) fun l=>.ok (.mk h.op h.n h.m h.at_ l):=by
 obtain ⟨T,n,p,s,O⟩:=x;rw [mO];rfl
theorem tc (K:Kn) (L:Lc) (x:St):km K L x=hb (rY (jG K L x)) fun h=>hb (gw K L x.args) fun l=>hb (fR K L x.body) fun b=>hb (fR K L x.other) fun o=>.ok (.mk h.op h.n h.m h.at_ l b o):=by
 obtain ⟨T,p,s,O,ac,Z⟩:=x;rw [km];rfl
structure Sh where
 named:Bool
 number:Bool
 least:Int
 most:Int
 body:Bool
 other:Bool
def Sh.val (s:Sh):Value:=.agg #[.bool s.named,.bool s.number,di s.least,di s.most,.bool s.body,.bool s.other]
def mP:Sh:=⟨false,false,0,0,false,false⟩
def hq (T:Int):Option Sh:=
 if T=1 then some ⟨false,true,0,0,false,false⟩ else if T=2 then some mP else if T=3 then some ⟨true,false,0,0,false,false⟩
 else if T=4 then some ⟨true,false,1,1,false,false⟩ else if T=5 then some ⟨true,false,0,3,false,false⟩ else if T=6 then some ⟨false,false,1,1,false,false⟩
 else if 7<=T/\T<=15 then some ⟨false,false,2,2,false,false⟩ else none
def iD (T:Int):Option Sh:=
 if T=1 then some ⟨true,false,1,1,false,false⟩ else if T=2 then some ⟨true,false,2,2,false,false⟩ else if T=3 then some ⟨true,false,0,3,false,false⟩
 else if T=4 then some ⟨false,false,1,1,true,true⟩ else if T=5 then some ⟨false,false,1,1,true,false⟩ else if T=6 then some ⟨false,false,1,1,false,false⟩
 else if T=7 then some ⟨false,false,1,1,false,false⟩ else none
def B6 (T:Int):Bool:=(hq T).isSome
def B7 (T:Int):Bool:=(iD T).isSome
def mQ (T:Int):Sh:=(hq T).getD mP
def hK (T:Int):Sh:=(iD T).getD mP
def kept:List (L8):=[[109,111,100,117,108,101],[117,115,101],[112,117,98],[99,111,110,115,116],[118,97,114],[97,114,114,97,121],[112,114,111,99],[108,111,99,97,108],[109,97,105,110],
 [105,102],[101,108,115,101],[119,104,105,108,101],[114,101,116,117,114,110],[111,117,116],[105,110]]
def rZ (s:ByteArray):Bool:=kept.contains s.data.toList
def nameOk (s:ByteArray):Bool:=!rZ s&&Lx.zck s.data.toList
def numOkB (n:Int):Bool:=decide (0<=n)&&decide (n<=1099511627775)
def mR (h:Sh) (p s:ByteArray):Bool:=if h.named then nameOk s&&(decide (p.size=0)||nameOk p) else decide (p.size=0)&&decide (s.size=0)
def pD (h:Sh) (n:Int):Bool:=if h.number then numOkB n else decide (n=0)
def pE (h:Sh) (k:Nat):Bool:=decide (h.least<=(k:Int))&&decide ((k:Int)<=h.most)
def oH:Nat->List eA->Bool
 | 0,_=>true
 | k+1,l=>l.all (fun x=>B6 x.op&&oH k x.args)
def mh:Nat->List St->Bool
 | 0,_=>true
 | k+1,l=>l.all (fun s=>B7 s.op&&(oH 6 s.args&&(mh k s.body&&mh k s.other)))
def hL:Nat->List eA->Bool
 | 0,l=>decide (0<l.length)
 | k+1,l=>decide (3<l.length)||l.any (fun x=>hL k x.args)
def gx:Nat->List St->Bool
 | 0,_=>true
 | k+1,l=>decide (10<l.length)||l.any (fun s=>hL 6 s.args||(((hK s.op).body||decide (0<s.body.length))&&gx k s.body||(decide (0<s.other.length)&&gx k s.other)))
def oI:Nat->List eA->Bool
 | 0,_=>true
 | k+1,l=>l.all (fun x=>mR (mQ x.op) x.mod x.name&&(pD (mQ x.op) x.n&&(pE (mQ x.op) x.args.length&&oI k x.args)))
def lJ:Nat->List St->Bool
 | 0,_=>true
 | k+1,l=>l.all (fun s=>mR (hK s.op) s.mod s.name&&(pE (hK s.op) s.args.length&&(oI 6 s.args&&(((hK s.op).body||decide (s.body.length=0))&&(((hK s.op).other||decide (s.other.length=0))&&(lJ k s.body&&lJ k s.other))))))
def nG (d:gG):Bool:=if d.kind=1 then numOkB d.n else if d.kind=3 then decide (1<=d.n)&&decide (d.n<=32) else decide (d.n=0)
def ec.bodies (m:ec):List (List St):=m.procs.map fa.body++[m.main]
def ec.kinds (m:ec):Bool:=m.decls.all (fun d=>decide (1<=d.kind)&&decide (d.kind<=3))&&m.bodies.all (mh 6)
def ec.many (m:ec):Bool:=decide (3<m.uses.length)||(decide (10<m.decls.length)||(decide (6<m.procs.length)||(m.procs.any (fun D=>decide (3<D.params.length)||decide (4<D.locals.length))||m.bodies.any (gx 6))))
def ec.form (m:ec):Bool:=nameOk m.name&&(m.uses.all nameOk&&(m.decls.all (fun d=>nameOk d.name&&nG d)&&(m.procs.all (fun D=>nameOk D.name&&(D.params.all nameOk&&D.locals.all nameOk))&&m.bodies.all (lJ 6))))
def ec.err (m:ec):Int:=if m.kinds then (if m.many then 2 else (if m.form then 0 else 1)) else 4
theorem qH {d:List α} {p:α->Bool} {k:Nat} (h:(d.take k).all p=true) (N:¬ k<d.length):d.all p=true:=by
 rw [iq N7] at h;exact h
theorem Jr (s:ByteArray):rZ s=((s.toList == [109,111,100,117,108,101])||((s.toList == [117,115,101])||((s.toList == [112,117,98])||((s.toList == [99,111,110,115,116])||((s.toList == [118,97,114])||((s.toList == [97,114,114,97,121])||((s.toList == [112,114,111,99])||((s.toList == [108,111,99,97,108])||((s.toList == [109,97,105,110]) ||
 ((s.toList == [105,102])||((s.toList == [101,108,115,101])||((s.toList == [119,104,105,108,101])||((s.toList == [114,101,116,117,114,110])||((s.toList == [111,117,116])||((s.toList == [105,110])||false))))))))))))))):=by
 unfold rZ kept;rw [kj];simp only [List.contains_cons,List.contains_nil]
theorem B8 (s:ByteArray) (w:World) :
 dw 237 #[.string s] w fun e G=>e = .returned (.bool (rZ s))/\G=w:=by
 go_enter func237,ntmps237;go_wp2_with fail
 all_goals go_ret
 all_goals refine ⟨ret_bool ?_,rfl⟩
 all_goals rw [Jr]
 all_goals simp only [*,Bool.true_or,Bool.false_or,xH]
 all_goals simp_all only [qA]
theorem B9 (w:World) (o:Obj):(w.alloc o).heap[w.heap.size]? = some o:=(MapKept.heap_alloc w o).1
theorem Cb (t:Tk) (N:iz t=true):(jm [t] == 0)=t.okB:=by
 unfold jm;simp only [rR,ta,N,Bool.and_true,if_true,gY,pA]
 cases t.okB<;>rfl
theorem Cc (t:Tk) (w:World) (a8:t.text.size<=maxLen):i8 (w.alloc (.cells #[di t.kind,di t.n,.string t.text] 184)) (some (dj w.heap.size 0)) [t]:=by
 have h:∀ j u,#[Value.int .i64 t.kind,di t.n,.string t.text][j]? = some u->(w.alloc (.cells #[di t.kind,di t.n,.string t.text] 184)).cell? (dj w.heap.size j)=some u:=fun j u a2=>by
  rw [eZ (B9 w _)];exact a2
 refine Or.inr ⟨_,0,rfl,Ob,?_,?_,?_,?_⟩
 . intro i V
   obtain rfl:i=0:=PL
   exact h 0 _ rfl
 . intro i V
   obtain rfl:i=0:=PL
   exact h 1 _ rfl
 . intro i V
   obtain rfl:i=0:=PL
   exact h 2 _ rfl
 . intro i V
   obtain rfl:i=0:=PL
   exact a8
theorem Cd (t:Tk) (w:World) (a8:t.text.size<=maxLen) (N:iz t=true) :
 dw 238 #[t.val] w fun e G=>e = .returned (.bool t.okB)/\dm w G:=by
 have bJ:Hid ((jm [t] == 0)=t.okB):=Cb t N
 have ao:Hid (∀ (dk:World) (n:Nat),n=dk.heap.size->dw 116 #[.slice (some (dj n 0)) 1 1] (dk.alloc (.cells #[di t.kind,di t.n,.string t.text] 184)) fun e G=>e = .returned (di (jm [t]))/\dm dk G):=
  fun dk n Z=>by
   subst Z;refine (Check_any _ 1 [t] _ (Cc t dk a8) Ob).mono ?_;rintro e G ⟨rfl,I⟩;exact Rj
 obtain ⟨s,a5,a⟩:=t;simp only [Tk.val] at *;go_enter func238,ntmps238
 go_wp2_with (go_at_call 116;refine (ao _ _ Ob).mono ?_;rintro e G ⟨rfl,I⟩)
 go_ret;exact ⟨ret_bool bJ,((Below.refl _ _).alloc (dA _) _).trans (I.mono Ob)⟩
theorem Ce (s:ByteArray):Tk.okB ⟨1,0,s⟩=Lx.zck s.data.toList:=by simp [Tk.okB]
theorem Js (n:Int):Tk.okB ⟨2,n,⟨#[]⟩⟩=numOkB n:=by simp [Tk.okB,numOkB,kj]
theorem pF (s:ByteArray) (w:World) (a8:s.size<=maxLen) :
 dw 186 #[.string s] w fun e G=>e = .returned (.bool (nameOk s))/\dm w G:=by
 have ao:Hid (∀ dk:World,dw 238 #[.agg #[di 1,di 0,.string s]] dk fun e G=>e = .returned (.bool (Lx.zck s.data.toList))/\dm dk G):=fun dk=>by
  rw [← Ce];exact Cd ⟨1,0,s⟩ dk a8 rfl
 by_cases N:rZ s=true
 . have aV:Hid (nameOk s=false):=by show _=_;simp [nameOk,N]
   go_enter func186,ntmps186
   go_wp2_with (go_at_call 237;refine (B8 s _).mono ?_;rintro e G ⟨rfl,rfl⟩)
   go_ret;exact ⟨ret_bool (by rw [aV.out]),Below.refl _ _⟩
 . have f:rZ s=false:=by simpa using N
   clear N
   have aV:Hid (nameOk s=Lx.zck s.data.toList):=by show _=_;simp [nameOk,f]
   go_enter func186,ntmps186
   go_wp2_with (first | (go_at_call 237;refine (B8 s _).mono ?_;rintro e G ⟨rfl,rfl⟩) | (go_at_call 238;refine (ao _).mono ?_;rintro e G ⟨rfl,I⟩))
   go_ret;exact ⟨ret_bool (by rw [aV.out]),I⟩
theorem Cf (n:Int) (w:World) :
 dw 241 #[di n] w fun e G=>e = .returned (.bool (numOkB n))/\dm w G:=by
 have ao:Hid (∀ dk:World,dw 238 #[.agg #[di 2,di n,.string ⟨#[]⟩]] dk fun e G=>e = .returned (.bool (numOkB n))/\dm dk G):=fun dk=>by
  rw [← Js];exact Cd ⟨2,n,⟨#[]⟩⟩ dk (dY _) rfl
 go_enter func241,ntmps241
 go_wp2_with (go_at_call 238;refine (ao _).mono ?_;rintro e G ⟨rfl,I⟩)
 go_ret;exact ⟨rfl,I⟩
theorem xR (s:ByteArray):s.toList.isEmpty=decide (s.size=0):=by
 rw [kj];have h:=Lx.zbb s
 cases X:s.data.toList with
 | nil=>rw [X] at h;have a5:s.size=0:=h.symm;simp [a5]
 | cons an r=>
   rw [X] at h
   have a5:s.size≠0:=by simp at h;omega
   simp [a5]
theorem Cg (h:Sh) (p s:ByteArray) (w:World) (F:p.size<=maxLen) (J:s.size<=maxLen) :
 dw 242 #[h.val,.string p,.string s] w fun e G=>e = .returned (.bool (mR h p s))/\dm w G:=by
 obtain ⟨a,b,an,d,e,f⟩:=h;simp only [Sh.val]
 cases a with
 | false=>
   have z:Hid (mR ⟨false,b,an,d,e,f⟩ p s=(p.toList.isEmpty&&s.toList.isEmpty)):=by show _=_;simp [mR,xR]
   cases a1:p.toList.isEmpty with
   | false=>
     exact RY
   | true=>
     exact RY
 | true=>
   have z:Hid (mR ⟨true,b,an,d,e,f⟩ p s=(nameOk s&&(p.toList.isEmpty||nameOk p))):=by show _=_;simp [mR,xR]
   cases Z:nameOk s with
   | false=>
     go_enter func242,ntmps242
     go_wp2_with (go_at_call 186;refine (pF s _ J).mono ?_;rw [Z];rintro e G ⟨rfl,I⟩)
     go_ret;exact ⟨ret_bool (by rw [z.out,Z];rfl),((Below.refl _ _).alloc (dA _) _).trans (I.mono Ob)⟩
   | true=>
     cases a1:p.toList.isEmpty with
     | true=>
       go_enter func242,ntmps242
       go_wp2_with (go_at_call 186;refine (pF s _ J).mono ?_;rw [Z];rintro e G ⟨rfl,I⟩)
       go_ret;exact ⟨ret_bool (by rw [z.out,Z,a1];rfl),((Below.refl _ _).alloc (dA _) _).trans (I.mono Ob)⟩
     | false=>
       go_enter func242,ntmps242;go_wp2_with fail;refine (pF s _ J).mono ?_;rw [Z];rintro e dk ⟨rfl,I⟩;go_wp2_with fail;refine (pF p _ F).mono ?_;rintro e w2 ⟨rfl,aN⟩;go_wp2_with fail;go_ret;exact ⟨ret_bool (by rw [z.out,Z,a1];simp),(((Below.refl _ _).alloc (dA _) _).trans (I.mono Ob)).trans (aN.mono (fZ Ob I.size))⟩
theorem Jt (h:Sh) (n:Int) (w:World) :
 dw 280 #[h.val,di n] w fun e G=>e = .returned (.bool (pD h n))/\dm w G:=by
 obtain ⟨a,b,an,d,e,f⟩:=h;simp only [Sh.val]
 cases b with
 | false=>
   have z:Hid (pD ⟨a,false,an,d,e,f⟩ n=(n == 0)):=by show _=_;rw [qC];simp [pD]
   go_enter func280,ntmps280;go_wp2_with fail;exact RZ
 | true=>
   have z:Hid (pD ⟨a,true,an,d,e,f⟩ n=numOkB n):=by show _=_;simp [pD]
   go_enter func280,ntmps280
   go_wp2_with (go_at_call 241;refine (Cf n _).mono ?_;rintro e G ⟨rfl,I⟩)
   exact Sz
theorem Ch (h:Sh) (ak:OA) (k q:Nat) (w:World) :
 dw 243 #[h.val,.slice ak k q] w fun e G=>e = .returned (.bool (pE h k))/\dm w G:=by
 obtain ⟨a,b,an,d,e,f⟩:=h;simp only [Sh.val];have z:Hid (pE ⟨a,b,an,d,e,f⟩ k=(decide (an<=(k:Int))&&decide ((k:Int)<=d))):=rfl
 by_cases F:an<=(k:Int)
 . go_enter func243,ntmps243
   exact QN
 . go_enter func243,ntmps243
   exact QN
theorem Ju (x:gG) (w:World) :
 dw 188 #[.agg #[di x.kind,.string x.name,.bool x.pub,di x.n]] w fun e G=>e = .returned (.bool (nG x))/\dm w G:=by
 obtain ⟨s,a,b,a5⟩:=x
 by_cases a9:s=1
 . have z:Hid (nG ⟨s,a,b,a5⟩=numOkB a5):=if_pos a9
   subst a9;go_enter func188,ntmps188
   go_wp2_with (go_at_call 241;refine (Cf a5 _).mono ?_;rintro e G ⟨rfl,I⟩)
   exact Sz
 . have bt:(s == 1)=false:=beq_eq_false_iff_ne.2 a9
   by_cases bn:s=3
   . have z:Hid (nG ⟨s,a,b,a5⟩=(decide (1<=a5)&&decide (a5<=32))):=(if_neg a9).trans (if_pos bn)
     subst bn;clear a9 bt
     by_cases ap:1<=a5
     . go_enter func188,ntmps188
       exact QN
     . go_enter func188,ntmps188
       exact QN
   . have aR:(s == 3)=false:=beq_eq_false_iff_ne.2 bn
     have z:Hid (nG ⟨s,a,b,a5⟩=(a5 == 0)):=by
      show _=_
      rw [qC];simp [nG,a9,bn]
     clear a9 bn;go_enter func188,ntmps188;go_wp2_with fail
     all_goals go_ret
     all_goals exact ⟨ret_bool Pv,(Below.refl _ _).alloc (dA _) _⟩
end Go.Proofs.YtndkhgakfodldaaGreatDoor

namespace Go.Proofs.YtndkhgakfodldaaGreatDoor
open Go.RowKit Go.Maps
variable {Y:Exit->Act->World->Prop} {a:OA} {e E a0 a6 c:Value} {b:Nat} {cs ao:List Value} {k:Int} {o:Oper} {bE:Obj} {ops:Array Oper} {rest:List Oper} {w G dk dC:World}
def pG (v:Value):Option (DataW Value × List MemPlace):=some (.held v,[])
theorem xS:Keyed prog 3:=int_keyed Tryz.underlying3
theorem Ci (w:World):(zeroValue 270).run prog w = .ok mP.val w:=by kernel_rfl
def vh (D:DataW Value) (f:Int->Option Sh):Prop:=∀ a:Int,has D (.int .i64 a)=(f a).isSome/\D.atKey (.int .i64 a) (.held mP.val) = .held ((f a).getD mP).val
def iu (f:Int->Option Sh) (k:Int) (s:Sh):Int->Option Sh:=fun a=>if a=k then some s else f a
theorem vh.put {D:DataW Value} {f:Int->Option Sh} (h:vh D f) (an:IsMap D) (k:Int) (s:Sh):vh (D.put (.int .i64 k) (.held s.val)) (iu f k s):=by
 intro a
 by_cases e:a=k
 . subst e
   simp only [iu,if_true];exact ⟨has_put_same (k:=.int .i64 a) an trivial _,atKey_put_same (k:=.int .i64 a) an trivial _ _⟩
 . simp only [iu,if_neg e]
   have aX:Lit.int .i64 a≠.int .i64 k:=fun h=>e (by injection h)
   rw [has_put_other aX,atKey_put_other aX];exact h a
def eW (w:World) (b n:Nat) (f:Int->Option Sh):Prop:=∃ D,w.ownsMap prog 3 pG b n D/\vh D f
theorem eW.later {b n:Nat} {f:Int->Option Sh} (h:eW w b n f) (I:Below w.heap.size w G):eW G b n f:=by
 obtain ⟨D,F,J⟩:=h;have ac:=F.lt;exact SC
theorem eW.lt {b n:Nat} {f:Int->Option Sh} (h:eW w b n f):b<w.heap.size:=P7
theorem eW.made (w:World):eW (w.alloc (.map #[] 0)) w.heap.size 0 (fun _=>none):=
 ⟨.map [],rt w _ _ _,fun _=>⟨rfl,rfl⟩⟩
theorem eW.look {b n:Nat} {f:Int->Option Sh} (h:eW w b n f) (N:(Lit.int .i64 k).wf=true) :
 (Instr.lookup 232 (.map (some b)) (.int .i64 k) false).run prog w = .ok ((f k).getD mP).val w:=by
 obtain ⟨D,F,J⟩:=h;obtain ⟨v,a,E,af⟩:=F.lookup xS Tryz.underlying232 (Ci w) (zd:=.held mP.val) (zp:=[]) rfl (keyOf_int_mk Tryz.underlying3 N);rw [(J k).2] at af;simp only [pG,kJ,rQ,s2] at af;rw [E,af.1]
theorem eW.look_ok {b n:Nat} {f:Int->Option Sh} (h:eW w b n f) (N:(Lit.int .i64 k).wf=true) :
 (Instr.lookup 232 (.map (some b)) (.int .i64 k) true).run prog w = .ok (.tuple #[((f k).getD mP).val,.bool (f k).isSome]) w:=by
 obtain ⟨D,F,J⟩:=h;obtain ⟨v,a,E,af⟩:=F.look_ok xS Tryz.underlying232 (Ci w) (zd:=.held mP.val) (zp:=[]) rfl (keyOf_int_mk Tryz.underlying3 N);rw [(J k).2] at af;simp only [pG,kJ,rQ,s2] at af;rw [E,af.1,(J k).1]
theorem eW.put {b n:Nat} {f:Int->Option Sh} (h:eW w b n f) (Z:n<maxLen) (N:(Lit.int .i64 k).wf=true) (s:Sh) :
 ∃ G,(Instr.mapUpdate 232 (.map (some b)) (.int .i64 k) s.val).run prog w = .ok () G/\eW G b (n+1) (iu f k s)/\w.grownBy G (some b):=by
 obtain ⟨D,F,J⟩:=h;obtain ⟨G,bp,bx,bQ⟩:=F.update xS Tryz.underlying232 Z (keyOf_int_mk Tryz.underlying3 N) (val:=s.val) (d:=.held s.val) (ps:=[]) rfl;exact ⟨G,bp,⟨_,bx,J.put F.isMap k s⟩,bQ⟩
theorem Cj {a:Act} (ak:o.guard=none) (m x v:Operand) (aw:o.op=Op.insert 232 m x v) {b n:Nat} {f:Int->Option Sh} (aE:eW w b n f)
 (a1:a.eval m = .map (some b)) (k:Int) (S:a.eval x = .int .i64 k) (a4 am:Bool) (a5 ax:Int) (aG u:Bool) (af:a.eval v = .agg #[.bool a4,.bool am,.int .i64 a5,.int .i64 ax,.bool aG,.bool u]) (N:(Lit.int .i64 k).wf=true) (Z:n<maxLen)
 (aO:∀ G,eW G b (n+1) (iu f k ⟨a4,am,a5,ax,aG,u⟩)->w.grownBy G (some b)->wpList prog ops Y rest (a.put o.dst undef) G):wpList prog ops Y (o :: rest) a w:=by
 exact Re
theorem Jv {a:Act} (ak:o.guard=none) (m x v:Operand) (aw:o.op=Op.mapUpdate 232 m x v) {b n:Nat} {f:Int->Option Sh} (aE:eW w b n f)
 (a1:a.eval m = .map (some b)) (k:Int) (S:a.eval x = .int .i64 k) (a4 am:Bool) (a5 ax:Int) (aG u:Bool) (af:a.eval v = .agg #[.bool a4,.bool am,.int .i64 a5,.int .i64 ax,.bool aG,.bool u]) (N:(Lit.int .i64 k).wf=true) (Z:n<maxLen)
 (aO:∀ G,eW G b (n+1) (iu f k ⟨a4,am,a5,ax,aG,u⟩)->w.grownBy G (some b)->wpList prog ops Y rest (a.put o.dst undef) G):wpList prog ops Y (o :: rest) a w:=by
 exact Re
def Cm:Int->Option Sh:=iu (iu (iu (iu (iu (iu (iu (fun _=>none) 1 ⟨true,false,1,1,false,false⟩) 2 ⟨true,false,2,2,false,false⟩) 3 ⟨true,false,0,3,false,false⟩) 4 ⟨false,false,1,1,true,true⟩) 5 ⟨false,false,1,1,true,false⟩) 6 ⟨false,false,1,1,false,false⟩) 7 ⟨false,false,1,1,false,false⟩
theorem Jw:Cm=iD:=by
 funext a
 unfold Cm iu iD
 repeat' split
 all_goals first | rfl | omega
def xT:Int->Option Sh:=iu (iu (iu (iu (iu (iu (fun _=>none) 1 ⟨false,true,0,0,false,false⟩) 2 ⟨false,false,0,0,false,false⟩) 3 ⟨true,false,0,0,false,false⟩) 4 ⟨true,false,1,1,false,false⟩) 5 ⟨true,false,0,3,false,false⟩) 6 ⟨false,false,1,1,false,false⟩
def oJ (k:Nat):Int->Option Sh:=fun a=>if 7<=a/\a<7+(k:Int) then some ⟨false,false,2,2,false,false⟩ else xT a
theorem Jx:xT=oJ 0:=by
 funext a
 unfold oJ;rw [if_neg N7]
theorem Jy (k:Nat):iu (oJ k) (7+(k:Int)) ⟨false,false,2,2,false,false⟩=oJ (k+1):=by
 funext a
 simp only [iu,oJ]
 by_cases e:a=7+(k:Int)
 . rw [if_pos e,if_pos N7]
 . rw [if_neg e]
   by_cases h:7<=a/\a<7+(k:Int)
   . rw [if_pos h,if_pos N7]
   . rw [if_neg h,if_neg N7]
theorem Jz:oJ 9=hq:=by
 funext a
 unfold oJ xT iu hq
 repeat' split
 all_goals first | rfl | omega
theorem JA (w:World) :
 Calls prog 151 #[] w fun e G=>∃ b,e = .returned (.map (some b))/\eW G b 7 iD/\Below w.heap.size w G:=by
 have c8:=@run_makeMap prog;have aE:=eW.made w;have aF:Below w.heap.size w (w.alloc (.map #[] 0)):=(Below.refl _ _).alloc (dA _) _;go_enter func151,ntmps151
 go_wp2_with (refine Cj rfl _ _ _ rfl aE rfl _ rfl _ _ _ _ _ _ rfl N9 N9 ?_;clear aE;intro dk aE g;replace aF:=aF.grown g aF.size (fun j a2=>PT);clear g)
 go_ret;refine ⟨_,rfl,?_,aF⟩;rw [← Jw];exact aE
theorem JB (w:World) :
 Calls prog 150 #[] w fun e G=>∃ b,e = .returned (.map (some b))/\eW G b 15 hq/\Below w.heap.size w G:=by
 have c8:=@run_makeMap prog;have aE:=eW.made w;have aF:Below w.heap.size w (w.alloc (.map #[] 0)):=(Below.refl _ _).alloc (dA _) _;go_enter func150,ntmps150
 go_wp2_with (refine Cj rfl _ _ _ rfl aE rfl _ rfl _ _ _ _ _ _ rfl N9 N9 ?_;clear aE;intro dk aE g;replace aF:=aF.grown g aF.size (fun j a2=>PT);clear g)
 have a:eW dk w.heap.size 6 (oJ 0):=by rw [← Jx];exact aE
 clear aE
 go_loopw [2] (fun i wr=>∃ k:Nat,k<=9/\i = .int .i64 (7+(k:Int))/\eW wr w.heap.size (6+k) (oJ k)/\Below w.heap.size w wr) (fun i _=>16 - (intOf i).toNat)
 case atStart=>exact ⟨0,N7,rfl,a,aF⟩
 case round=>
  clear a aF;obtain ⟨k,N,rfl,aE,aF⟩:=hrel
  by_cases ac:k<9
  . go_wp2_with (refine Jv rfl _ _ _ rfl aE rfl _ rfl _ _ _ _ _ _ rfl (WalkArith.wf_i64 N7) Oh ?_;clear aE;intro w2 aE g;replace aF:=aF.grown g aF.size (fun j a2=>PT);clear g)
    rw [Jy] at aE;go_roundw
    case rel=>exact ⟨k+1,N7,Ou,aE,aF⟩
    case measure=>simp [intOf];omega
  . obtain rfl:k=9:=by omega
    go_wp2_with fail;go_ret;refine ⟨_,rfl,?_,aF⟩;rw [← Jz];exact aE
theorem xU (I:dm w dk) (U:Below (dk.alloc bE).heap.size (dk.alloc bE) dC):dm w dC:=by
 have F:=I.alloc I.size bE;exact F.trans (U.mono F.size)
theorem JC {ab:Obj} (I:dm w dk) (U:Below ((dk.alloc bE).alloc ab).heap.size ((dk.alloc bE).alloc ab) dC):dm w dC:=
 xU (I.alloc I.size bE) U
theorem dp (I:dm w dk) (U:dm dk dC):dm w dC:=I.trans (U.mono I.size)
theorem dn (w:World) (o:Obj):dm w (w.alloc o):=(Below.refl _ _).alloc (dA _) _
theorem et (w:World) (bE ab:Obj):dm w ((w.alloc bE).alloc ab):=(dn w bE).alloc Ob _
structure dV (w:World) (b:Nat) (cs:List Value):Prop where
 lt:b<w.heap.size
 cell:∀ j v,cs[j]? = some v->w.cell? (dj b j)=some v
theorem dV.later (h:dV w b cs) (I:dm w G):dV G b cs:=
 ⟨e4 h.lt I.size,fun j v a2=>(I.cell (p:=(dj b j)) h.lt).trans (h.cell j v a2)⟩
theorem dV.new (w:World) (cs:Array Value) (t:TypeId):dV (w.alloc (.cells cs t)) w.heap.size cs.toList:=
 ⟨Ob,fun j v a2=>by rw [eZ (B9 w _)];simpa using a2⟩
theorem dV.new1 (w:World) (cs:Array Value) (t:TypeId) (o:Obj):dV ((w.alloc (.cells cs t)).alloc o) w.heap.size cs.toList:=(dV.new w cs t).later (dn _ _)
theorem dV.new2 (w:World) (cs:Array Value) (t:TypeId) (o:Obj):dV ((w.alloc o).alloc (.cells cs t)) (w.heap.size+1) cs.toList:=by
 have:=dV.new (w.alloc o) cs t;exact S2
theorem dV.c2 (h:dV w b [e,E]):w.cell? (dj b 0)=some e/\w.cell? (dj b 1)=some E/\b<w.heap.size:=⟨h.cell 0 _ rfl,h.cell 1 _ rfl,h.lt⟩
theorem dV.c5 (h:dV w b [e,E,a0,a6,c]):w.cell? (dj b 0)=some e/\w.cell? (dj b 1)=some E/\w.cell? (dj b 2)=some a0/\w.cell? (dj b 3)=some a6/\w.cell? (dj b 4)=some c/\b<w.heap.size:=
 ⟨h.cell 0 _ rfl,h.cell 1 _ rfl,h.cell 2 _ rfl,h.cell 3 _ rfl,h.cell 4 _ rfl,h.lt⟩
theorem dV.c6 {V:Value} (h:dV w b [e,E,a0,a6,c,V]):w.cell? (dj b 0)=some e/\w.cell? (dj b 1)=some E/\w.cell? (dj b 2)=some a0/\w.cell? (dj b 3)=some a6/\w.cell? (dj b 4)=some c/\w.cell? (dj b 5)=some V/\b<w.heap.size:=
 ⟨h.cell 0 _ rfl,h.cell 1 _ rfl,h.cell 2 _ rfl,h.cell 3 _ rfl,h.cell 4 _ rfl,h.cell 5 _ rfl,h.lt⟩
theorem Cn (d t:Nat) (A:Nat->Prop):∀ (k:Nat),k<=6->∀ (l:List eA) (a:OA) (q:Nat) (m:Int) (w:World),m=7 - (k:Int)->dx w A a l.length (eV l)->eW w d 15 hq->oH k l=true->
 dw 235 #[.agg #[.map (some d),.map (some t)],.slice a l.length q,di m] w fun e G=>e = .returned (.bool true)/\dm w G
 | 0,_,l,a,q,m,w,hd,_,_,_=>by
   subst hd;go_enter func235,ntmps235;go_wp2_with fail;go_ret;exact ⟨rfl,(Below.refl _ _).alloc (dA _) _⟩
 | k+1,N,l,a,q,m,w,hd,an,aE,H=>by
   have aM:Hid (∀ (j:Nat) (a2:j<l.length),(hq l[j].op).isSome=true/\oH k l[j].args=true):=by
    simp only [oH,e1,dO] at H
    exact fun j a2=>H l[j] (eb a2)
   have bK:=an.bound
   have aJ:1<=m:=N7
   have p:m<=6:=N7
   have y:Hid (∀ (l:List eA) (a:OA) (q:Nat) (w:World),dx w A a l.length (eV l)->eW w d 15 hq->oH k l=true->
    dw 235 #[.agg #[.map (some d),.map (some t)],.slice a l.length q,di (m+1)] w fun e G=>e = .returned (.bool true)/\dm w G):=
    fun l a q w F J U=>Cn d t A k N7 l a q (m+1) w N7 F J U
   have b0:Hid (dx w A a l.length (eV l)):=an;have aQ:Hid (eW w d 15 hq):=aE;clear an aE hd H;have ag:Hid (dV (w.alloc (.cells #[.map (some d),.map (some t)] 235)) w.heap.size [.map (some d),.map (some t)]):=dV.new w _ _;go_enter func235,ntmps235;go_wp2_with fail
   go_loopw [15] (fun i wr=>∃ j:Nat,j<=l.length/\i=di j/\dm w wr/\dV wr w.heap.size [.map (some d),.map (some t)]) (fun i _=>l.length - (intOf i).toNat)
   case atStart=>exact ⟨0,dY _,rfl,dn _ _,ag⟩
   case round=>
    clear ag;obtain ⟨j,a2,rfl,I,aF⟩:=hrel;have aH:=aF.cell 0 _ rfl;have az:=aF.cell 1 _ rfl;have b5:=aF.lt;have ag:Hid (dV wr w.heap.size [.map (some d),.map (some t)]):=aF;clear aF
    by_cases ac:j<l.length
    . obtain ⟨b,C,ak,R,rfl,S⟩:=(b0.later I).ex j ac
      have O:=S.c0;have aO:=S.c1;have bp:=S.c2;have M:=S.c3;have ai:=S.c4;have b8:=S.lt;have aZ:Hid (dx wr A ak l[j].args.length (eV l[j].args)):=S.args;have aY:=((aQ.later I).later (dn _ (kC l[j].op l[j].n l[j].mod l[j].name ak l[j].args.length R))).look_ok S.wop;simp only [Sh.val] at aY;clear S;obtain ⟨aw,Q⟩:=aM j ac;rw [aw] at aY;go_wp2_with fail;refine (y l[j].args ak R _ (aZ.later (et _ _ _)) ((aQ.later I).later (et _ _ _)) Q).mono ?_;rintro e dC ⟨rfl,T⟩;go_wp2_with fail;go_roundw
      case rel=>exact ⟨j+1,N7,Ou,JC I T,ag.later (dp (et _ _ _) T)⟩
      case measure=>simp [intOf];omega
    . exact Rb
theorem Co (a:OA) (q:Nat) (m:Int) (w:World) :
 dw 236 #[.slice a 0 q,di m] w fun e G=>e = .returned (.bool false)/\dm w G:=by
 go_enter func236,ntmps236;go_wp2_with fail
 go_loopw [21] (fun i wr=>i=di 0/\wr=w) (fun _ _=>0)
 case atStart=>exact ⟨rfl,rfl⟩
 case round=>
  obtain ⟨rfl,rfl⟩:=hrel;go_wp2_with fail;go_ret;exact ⟨rfl,Below.refl _ _⟩
theorem Cp {k:Nat} {l:List eA} (h:hL (k+1) l=false) (j:Nat) (a2:j<l.length):hL k l[j].args=false:=by
 simp only [hL,hG,ma] at h;have:=h.2 l[j] (eb a2);exact S2
theorem Cr (A:Nat->Prop):∀ (k:Nat),k<=6->∀ (l:List eA) (a:OA) (q:Nat) (m:Int) (w:World),m=7 - (k:Int)->dx w A a l.length (eV l)->hL k l=false->
 dw 236 #[.slice a l.length q,di m] w fun e G=>e = .returned (.bool false)/\dm w G
 | 0,_,l,a,q,m,w,hd,an,a7=>by
   have ab:l.length=0:=by simp [hL] at a7;simp [a7]
   rw [ab];exact Co a q _ w
 | k + 1,N,l,a,q,m,w,hd,an,a7=>by
   have L:Hid (∀ (j:Nat) (a2:j<l.length),hL k l[j].args=false):=Cp a7
   have U:¬ 3<l.length:=by
    simp only [hL,hG,decide_eq_false_iff_not] at a7;exact a7.1
   have aJ:1<=m:=N7
   have p:m<=6:=N7
   have y:Hid (∀ (l:List eA) (a:OA) (q:Nat) (w:World),dx w A a l.length (eV l)->hL k l=false->
    dw 236 #[.slice a l.length q,di (m+1)] w fun e G=>e = .returned (.bool false)/\dm w G):=
    fun l a q w F J=>Cr A k N7 l a q (m+1) w N7 F J
   have b0:Hid (dx w A a l.length (eV l)):=an;clear an hd a7
   by_cases ab:l.length=0
   . rw [ab]
     exact Co a q _ w
   have d:0<l.length:=N7
   clear ab;go_enter func236,ntmps236;go_wp2_with fail
   . go_loopw [21] (fun i wr=>∃ j:Nat,j<=l.length/\i=di j/\dm w wr) (fun i _=>l.length - (intOf i).toNat)
     case atStart=>exact ⟨0,dY _,rfl,Below.refl _ _⟩
     case round=>
      obtain ⟨j,a2,rfl,I⟩:=hrel
      by_cases ac:j<l.length
      . obtain ⟨b,C,ak,R,rfl,S⟩:=(b0.later I).ex j ac
        have O:=S.c0;have aO:=S.c1;have bp:=S.c2;have M:=S.c3;have ai:=S.c4;have b8:=S.lt;have aZ:Hid (dx wr A ak l[j].args.length (eV l[j].args)):=S.args;clear S;go_wp2_with fail;refine (y l[j].args ak R _ (aZ.later (dn _ _)) (L j ac)).mono ?_;rintro e dC ⟨rfl,T⟩;go_wp2_with fail;go_roundw
        case rel=>exact ⟨j+1,N7,Ou,xU I T⟩
        case measure=>simp [intOf];omega
      . exact Rb
theorem JD (d t:Nat) (A:Nat->Prop):∀ (k:Nat) (l:List eA) (a:OA) (q:Nat) (w:World),dx w A a l.length (eV l)->eW w d 15 hq->hL k l=false->oI k l=true->
 dw 244 #[.agg #[.map (some d),.map (some t)],.slice a l.length q] w fun e G=>e = .returned (.bool true)/\dm w G:=by
 intro k
 induction k with
 | zero=>
   intro l a q w an aE a7 b7
   have ab:l.length=0:=by simp [hL] at a7;simp [a7]
   rw [ab];go_enter func244,ntmps244;exact Rd
 | succ k ay=>
   intro l a q w an aE a7 b7
   have aD:Hid (∀ (j:Nat) (a2:j<l.length),mR (mQ l[j].op) l[j].mod l[j].name=true/\pD (mQ l[j].op) l[j].n=true/\pE (mQ l[j].op) l[j].args.length=true/\oI k l[j].args=true):=by
    simp only [oI,e1,dO] at b7
    exact fun j a2=>b7 l[j] (eb a2)
   have bK:=an.bound
   have y:Hid (∀ (l:List eA) (a:OA) (q:Nat) (w:World),dx w A a l.length (eV l)->eW w d 15 hq->hL k l=false->oI k l=true->
    dw 244 #[.agg #[.map (some d),.map (some t)],.slice a l.length q] w fun e G=>e = .returned (.bool true)/\dm w G):=ay
   have b0:Hid (dx w A a l.length (eV l)):=an;have aQ:Hid (eW w d 15 hq):=aE;have L:Hid (∀ (j:Nat) (a2:j<l.length),hL k l[j].args=false):=Cp a7;clear an aE ay a7 b7;have ag:Hid (dV (w.alloc (.cells #[.map (some d),.map (some t)] 235)) w.heap.size [.map (some d),.map (some t)]):=dV.new w _ _;go_enter func244,ntmps244;go_wp2_with fail
   go_loopw [10] (fun i wr=>∃ j:Nat,j<=l.length/\i=di j/\dm w wr/\dV wr w.heap.size [.map (some d),.map (some t)]) (fun i _=>l.length - (intOf i).toNat)
   case atStart=>exact ⟨0,dY _,rfl,dn _ _,ag⟩
   case round=>
    clear ag;obtain ⟨j,a2,rfl,I,aF⟩:=hrel;have aH:=aF.cell 0 _ rfl;have az:=aF.cell 1 _ rfl;have b5:=aF.lt;have ag:Hid (dV wr w.heap.size [.map (some d),.map (some t)]):=aF;clear aF
    by_cases ac:j<l.length
    . obtain ⟨b,C,ak,R,rfl,S⟩:=(b0.later I).ex j ac
      have O:=S.c0;have aO:=S.c1;have bp:=S.c2;have M:=S.c3;have ai:=S.c4;have b8:=S.lt;have aZ:Hid (B0 wr A b (C+j*5) l[j] ak R):=S;obtain ⟨F,J,U,aa⟩:=aD j ac;have aY:=((aQ.later I).later (dn _ (kC l[j].op l[j].n l[j].mod l[j].name ak l[j].args.length R))).look S.wop;clear S;have h:(Instr.lookup 232 (.map (some d)) (di l[j].op) false).run prog (wr.alloc (kC l[j].op l[j].n l[j].mod l[j].name ak l[j].args.length R)) = .ok (mQ l[j].op).val (wr.alloc (kC l[j].op l[j].n l[j].mod l[j].name ak l[j].args.length R)):=aY;clear aY;generalize a8:mQ l[j].op=s at h F J U;clear a8;simp only [Sh.val] at h;go_wp2_with fail;refine (Cg s l[j].mod l[j].name _ aZ.wm aZ.wna).mono ?_;rw [F];rintro e dC ⟨rfl,c3⟩;have c:=(ag.later (et _ _ _)).later c3;have g:=(dV.new1 wr #[di l[j].op,di l[j].n,.string l[j].mod,.string l[j].name,.slice ak l[j].args.length R] 174 _).later c3
      have m:=(dV.new2 wr #[.bool s.named,.bool s.number,di s.least,di s.most,.bool s.body,.bool s.other] 270 _).later c3;have T:dm wr dC:=dp (et _ _ _) c3;clear c3 aH az b5;obtain ⟨aH,az,b5⟩:=c.c2;obtain ⟨af,a4,am,a5,ax,xz⟩:=g.c5;obtain ⟨D,ad,f,bi,b4,bx,yz⟩:=m.c6;have n:Hid (dV dC w.heap.size [.map (some d),.map (some t)]):=c;have o:Hid (dV dC wr.heap.size [di l[j].op,di l[j].n,.string l[j].mod,.string l[j].name,.slice ak l[j].args.length R]):=g;have u:Hid (dV dC (wr.heap.size+1) [.bool s.named,.bool s.number,di s.least,di s.most,.bool s.body,.bool s.other]):=m;clear c g m;go_wp2_with fail;refine (Jt s l[j].n _).mono ?_;rw [J];rintro e dD ⟨rfl,K⟩;have c:=n.later K;have g:=o.later K;have m:=u.later K;have bc:=dp T K;clear K n o u;clear aH az b5 af a4 am a5 ax xz D ad f bi b4 bx yz
      obtain ⟨aH,az,b5⟩:=c.c2;obtain ⟨af,a4,am,a5,ax,xz⟩:=g.c5;obtain ⟨D,ad,f,bi,b4,bx,yz⟩:=m.c6;have n:Hid (dV dD w.heap.size [.map (some d),.map (some t)]):=c;have o:Hid (dV dD wr.heap.size [di l[j].op,di l[j].n,.string l[j].mod,.string l[j].name,.slice ak l[j].args.length R]):=g;have u:Hid (dV dD (wr.heap.size+1) [.bool s.named,.bool s.number,di s.least,di s.most,.bool s.body,.bool s.other]):=m;clear c g m;go_wp2_with fail;refine (Ch s ak l[j].args.length R _).mono ?_;rw [U];rintro e dJ ⟨rfl,av⟩;have c:=n.later av;have g:=o.later av;have m:=u.later av;have br:=dp bc av;clear av n o u;clear aH az b5 af a4 am a5 ax xz D ad f bi b4 bx yz;obtain ⟨aH,az,b5⟩:=c.c2;obtain ⟨af,a4,am,a5,ax,xz⟩:=g.c5;obtain ⟨D,ad,f,bi,b4,bx,yz⟩:=m.c6;have n:Hid (dV dJ w.heap.size [.map (some d),.map (some t)]):=c
      have o:Hid (dV dJ wr.heap.size [di l[j].op,di l[j].n,.string l[j].mod,.string l[j].name,.slice ak l[j].args.length R]):=g;have u:Hid (dV dJ (wr.heap.size+1) [.bool s.named,.bool s.number,di s.least,di s.most,.bool s.body,.bool s.other]):=m;clear c g m;go_wp2_with fail;refine (y l[j].args ak R _ (aZ.args.later br) ((aQ.later I).later br) (L j ac) aa).mono ?_;rintro e eD ⟨rfl,aW⟩;have Z:=dp br aW;have c:=n.later aW;clear aW;go_wp2_with fail;go_roundw
      case rel=>exact ⟨j+1,N7,Ou,dp I Z,c⟩
      case measure=>simp [intOf];omega
    . exact Rb
theorem JE (e E:Bool) (a0 a6:Int) (c V:Bool) (w:World):(Instr.field 270 (.agg #[.bool e,.bool E,di a0,di a6,.bool c,.bool V]) 4).run prog w = .ok (.bool c) w:=by kernel_rfl
theorem Cs (d t:Nat) (A:Nat->Prop):∀ (k:Nat),k<=6->∀ (l:List St) (a:OA) (q:Nat) (m:Int) (w:World),m=7 - (k:Int)->dx w A a l.length (eE l)->eW w d 15 hq->eW w t 7 iD->mh k l=true->
 dw 184 #[.agg #[.map (some d),.map (some t)],.slice a l.length q,di m] w fun e G=>e = .returned (.bool true)/\dm w G
 | 0,_,l,a,q,m,w,hd,_,_,_,_=>by
   subst hd;go_enter func184,ntmps184;go_wp2_with fail;go_ret;exact ⟨rfl,dn _ _⟩
 | k+1,N,l,a,q,m,w,hd,an,aE,H,b7=>by
   have aD:Hid (∀ (j:Nat) (a2:j<l.length),(iD l[j].op).isSome=true/\oH 6 l[j].args=true/\mh k l[j].body=true/\mh k l[j].other=true):=by
    simp only [mh,e1,dO] at b7
    exact fun j a2=>b7 l[j] (eb a2)
   have bK:=an.bound
   have aJ:1<=m:=N7
   have p:m<=6:=N7
   have y:Hid (∀ (l:List St) (a:OA) (q:Nat) (w:World),dx w A a l.length (eE l)->eW w d 15 hq->eW w t 7 iD->mh k l=true->
    dw 184 #[.agg #[.map (some d),.map (some t)],.slice a l.length q,di (m+1)] w fun e G=>e = .returned (.bool true)/\dm w G):=
    fun l a q w F J U aa=>Cs d t A k N7 l a q (m+1) w N7 F J U aa
   have b0:Hid (dx w A a l.length (eE l)):=an;have aQ:Hid (eW w d 15 hq):=aE;have bA:Hid (eW w t 7 iD):=H;clear an aE H hd b7;have ag:Hid (dV (w.alloc (.cells #[.map (some d),.map (some t)] 235)) w.heap.size [.map (some d),.map (some t)]):=dV.new w _ _;go_enter func184,ntmps184;go_wp2_with fail
   go_loopw [15] (fun i wr=>∃ j:Nat,j<=l.length/\i=di j/\dm w wr/\dV wr w.heap.size [.map (some d),.map (some t)]) (fun i _=>l.length - (intOf i).toNat)
   case atStart=>exact ⟨0,dY _,rfl,dn _ _,ag⟩
   case round=>
    clear ag;obtain ⟨j,a2,rfl,I,aF⟩:=hrel;have aH:=aF.cell 0 _ rfl;have az:=aF.cell 1 _ rfl;have b5:=aF.lt;have ag:Hid (dV wr w.heap.size [.map (some d),.map (some t)]):=aF;clear aF
    by_cases ac:j<l.length
    . obtain ⟨b,C,E,bo,a0,ei,a6,e2,rfl,S⟩:=(b0.later I).st j ac
      have O:=S.c0;have aO:=S.c1;have bp:=S.c2;have M:=S.c3;have ai:=S.c4;have z:=S.c5;have b8:=S.lt;have b3:=S.args.bound;have aV:=S.body.bound;have aS:=S.other.bound;have aZ:Hid (vf wr A b (C+j*6) l[j] E bo a0 ei a6 e2):=S;obtain ⟨aw,F,J,U⟩:=aD j ac;have aY:=((bA.later I).later (dn _ (jz l[j].op l[j].mod l[j].name E l[j].args.length bo a0 l[j].body.length ei a6 l[j].other.length e2))).look_ok S.wop;clear S;rw [aw] at aY;generalize a8:(iD l[j].op).getD mP=s at aY;simp only [Sh.val] at aY;clear a8;go_wp2_with fail;refine (Cn d t A 6 N7 l[j].args E bo 1 _ N7 (aZ.args.later (et _ _ _)) ((aQ.later I).later (et _ _ _)) F).mono ?_;rintro e dC ⟨rfl,c3⟩;have c:=(ag.later (et _ _ _)).later c3;have g:=(dV.new1 wr #[di l[j].op,.string l[j].mod,.string l[j].name,.slice E l[j].args.length bo,.slice a0 l[j].body.length ei,.slice a6 l[j].other.length e2] 176 _).later c3
      have T:dm wr dC:=dp (et _ _ _) c3;clear c3 aH az b5;obtain ⟨aH,az,b5⟩:=c.c2;obtain ⟨af,a4,am,a5,ax,aG,xz⟩:=g.c6;have n:Hid (dV dC w.heap.size [.map (some d),.map (some t)]):=c;have o:Hid (dV dC wr.heap.size [di l[j].op,.string l[j].mod,.string l[j].name,.slice E l[j].args.length bo,.slice a0 l[j].body.length ei,.slice a6 l[j].other.length e2]):=g;clear c g;go_wp2_with fail;refine (y l[j].body a0 ei _ (aZ.body.later T) ((aQ.later I).later T) ((bA.later I).later T) J).mono ?_;rintro e dD ⟨rfl,K⟩;have c:=n.later K;have g:=o.later K;have bc:=dp T K;clear K n o;clear aH az b5 af a4 am a5 ax aG xz;obtain ⟨aH,az,b5⟩:=c.c2;obtain ⟨af,a4,am,a5,ax,aG,xz⟩:=g.c6;have n:Hid (dV dD w.heap.size [.map (some d),.map (some t)]):=c;have o:Hid (dV dD wr.heap.size [di l[j].op,.string l[j].mod,.string l[j].name,.slice E l[j].args.length bo,.slice a0 l[j].body.length ei,.slice a6 l[j].other.length e2]):=g
      clear c g;go_wp2_with fail;refine (y l[j].other a6 e2 _ (aZ.other.later bc) ((aQ.later I).later bc) ((bA.later I).later bc) U).mono ?_;rintro e dJ ⟨rfl,av⟩;have v:=n.later av;have br:=dp bc av;clear av;go_wp2_with fail;go_roundw
      case rel=>exact ⟨j+1,N7,Ou,dp I br,v⟩
      case measure=>simp [intOf];omega
    . exact Rb
theorem Ct (d t:Nat) (A:Nat->Prop):∀ (k:Nat),k<=6->∀ (l:List St) (a:OA) (q:Nat) (m:Int) (w:World),m=7 - (k:Int)->dx w A a l.length (eE l)->eW w d 15 hq->eW w t 7 iD->gx k l=false->
 dw 185 #[.agg #[.map (some d),.map (some t)],.slice a l.length q,di m] w fun e G=>e = .returned (.bool false)/\dm w G
 | 0,_,l,a,q,m,w,hd,_,_,_,a7=>by
   simp [gx] at a7
 | k + 1, N,l,a,q,m,w,hd,an,aE,H,a7=>by
   have B:¬ 10<l.length:=by
    simp only [gx,hG,decide_eq_false_iff_not] at a7;exact a7.1
   have aD:Hid (∀ (j:Nat) (a2:j<l.length),hL 6 l[j].args=false/\(((hK l[j].op).body=true\/0<l[j].body.length)->gx k l[j].body=false)/\(0<l[j].other.length->gx k l[j].other=false)):=by
    simp only [gx,hG,ma] at a7
    refine fun j a2=>?_
    have:=a7.2 l[j] (eb a2);simp only [nE,hG,sX,decide_eq_false_iff_not] at this;exact ⟨this.1,fun h=>this.2.1.resolve_left (fun e=>h.elim (fun h=>by simp [h] at e) e.2),fun h=>this.2.2.resolve_left (fun e=>e h)⟩
   have bK:=an.bound
   have aJ:1<=m:=N7
   have p:m<=6:=N7
   have y:Hid (∀ (l:List St) (a:OA) (q:Nat) (w:World),dx w A a l.length (eE l)->eW w d 15 hq->eW w t 7 iD->gx k l=false->
    dw 185 #[.agg #[.map (some d),.map (some t)],.slice a l.length q,di (m+1)] w fun e G=>e = .returned (.bool false)/\dm w G):=
    fun l a q w F J U aa=>Ct d t A k N7 l a q (m+1) w N7 F J U aa
   have b0:Hid (dx w A a l.length (eE l)):=an;have aQ:Hid (eW w d 15 hq):=aE;have bA:Hid (eW w t 7 iD):=H;clear an aE H hd a7;have ag:Hid (dV (w.alloc (.cells #[.map (some d),.map (some t)] 235)) w.heap.size [.map (some d),.map (some t)]):=dV.new w _ _;go_enter func185,ntmps185;go_wp2_with fail
   go_loopw [18] (fun i wr=>∃ j:Nat,j<=l.length/\i=di j/\dm w wr/\dV wr w.heap.size [.map (some d),.map (some t)]) (fun i _=>l.length - (intOf i).toNat)
   case atStart=>exact ⟨0,dY _,rfl,dn _ _,ag⟩
   case round=>
    clear ag;obtain ⟨j,a2,rfl,I,aF⟩:=hrel;have aH:=aF.cell 0 _ rfl;have az:=aF.cell 1 _ rfl;have b5:=aF.lt;have ag:Hid (dV wr w.heap.size [.map (some d),.map (some t)]):=aF;clear aF
    by_cases ac:j<l.length
    . obtain ⟨b,C,E,bo,a0,ei,a6,e2,rfl,S⟩:=(b0.later I).st j ac
      have O:=S.c0;have aO:=S.c1;have bp:=S.c2;have M:=S.c3;have ai:=S.c4;have z:=S.c5;have b8:=S.lt;have b3:=S.args.bound;have aV:=S.body.bound;have aS:=S.other.bound;have aZ:Hid (vf wr A b (C+j*6) l[j] E bo a0 ei a6 e2):=S;obtain ⟨F,J,bj⟩:=aD j ac;clear S;go_wp2_with fail;refine (Cr A 6 N7 l[j].args E bo 1 _ N7 (aZ.args.later (dn _ _)) F).mono ?_;rintro e dC ⟨rfl,c3⟩;have c:=(ag.later (dn _ _)).later c3;have g:=(dV.new wr #[di l[j].op,.string l[j].mod,.string l[j].name,.slice E l[j].args.length bo,.slice a0 l[j].body.length ei,.slice a6 l[j].other.length e2] 176).later c3;have T:dm wr dC:=dp (dn _ _) c3;clear c3 aH az b5;obtain ⟨aH,az,b5⟩:=c.c2;obtain ⟨af,a4,am,a5,ax,aG,xz⟩:=g.c6;have n:Hid (dV dC w.heap.size [.map (some d),.map (some t)]):=c
      have o:Hid (dV dC wr.heap.size [di l[j].op,.string l[j].mod,.string l[j].name,.slice E l[j].args.length bo,.slice a0 l[j].body.length ei,.slice a6 l[j].other.length e2]):=g;clear c g;have aY:(Instr.lookup 232 (.map (some t)) (di l[j].op) false).run prog dC = .ok (hK l[j].op).val dC:=((bA.later I).later T).look aZ.wop;simp only [Sh.val] at aY;have D:=JE
      by_cases aa:(hK l[j].op).body=true\/0<l[j].body.length
      . have J:=J aa
        have bk:(hK l[j].op).body=true\/(hK l[j].op).body=false/\0<l[j].body.length:=by cases r:(hK l[j].op).body with
         | true=>exact Or.inl rfl
         | false=>exact Or.inr ⟨rfl,aa.resolve_left (by rw [r];simp)⟩
        clear aa
        rcases bk with r | ⟨r,aa⟩<;>(
         rw [r] at aY;clear r;go_wp2_with fail;refine (y l[j].body a0 ei _ (aZ.body.later T) ((aQ.later I).later T) ((bA.later I).later T) J).mono ?_;rintro e dD ⟨rfl,K⟩;have c:=n.later K;have g:=o.later K;have bc:=dp T K;clear K n o;clear aH az b5 af a4 am a5 ax aG xz;obtain ⟨aH,az,b5⟩:=c.c2;obtain ⟨af,a4,am,a5,ax,aG,xz⟩:=g.c6;have n:Hid (dV dD w.heap.size [.map (some d),.map (some t)]):=c;have o:Hid (dV dD wr.heap.size [di l[j].op,.string l[j].mod,.string l[j].name,.slice E l[j].args.length bo,.slice a0 l[j].body.length ei,.slice a6 l[j].other.length e2]):=g;clear c g
         by_cases aB:0<l[j].other.length
         . go_wp2_with fail
           refine (y l[j].other a6 e2 _ (aZ.other.later bc) ((aQ.later I).later bc) ((bA.later I).later bc) (bj aB)).mono ?_;rintro e ar ⟨rfl,aw⟩;have v:=n.later aw;have X:=dp bc aw;exact RH
         . have v:=n.out
           go_wp2_with fail;go_roundw
           case rel=>exact ⟨j+1,N7,Ou,dp I bc,v⟩
           case measure=>simp [intOf];omega)
      . have r:(hK l[j].op).body=false:=by cases r:(hK l[j].op).body with
         | true=>exact absurd (Or.inl r) aa
         | false=>rfl
        have aa:¬ 0<l[j].body.length:=fun h=>aa (Or.inr h)
        rw [r] at aY;clear r
        by_cases aB:0<l[j].other.length
        . go_wp2_with fail
          refine (y l[j].other a6 e2 _ (aZ.other.later T) ((aQ.later I).later T) ((bA.later I).later T) (bj aB)).mono ?_;rintro e ar ⟨rfl,aw⟩;have v:=n.later aw;have X:=dp T aw;exact RH
        . have v:=n.out
          go_wp2_with fail;go_roundw
          case rel=>exact ⟨j+1,N7,Ou,dp I T,v⟩
          case measure=>simp [intOf];omega
    . exact Rb
theorem JF {k:Nat} {l:List St} (h:l.length=0\/gx (k+1) l=false) (j:Nat) (a2:j<l.length):hL 6 l[j].args=false/\(l[j].body.length=0\/gx k l[j].body=false)/\(l[j].other.length=0\/gx k l[j].other=false):=by
 rcases h with h | h
 . omega
 . simp only [gx,hG,ma] at h
   have:=h.2 l[j] (eb a2);simp only [nE,hG,sX,decide_eq_false_iff_not] at this;refine ⟨this.1,?_,?_⟩
   . rcases this.2.1 with F | F
     . left;omega
     . exact Or.inr F
   . rcases this.2.2 with F | F
     . left;omega
     . exact Or.inr F
theorem JG (d t:Nat) (A:Nat->Prop):∀ (k:Nat) (l:List St) (a:OA) (q:Nat) (w:World),dx w A a l.length (eE l)->eW w d 15 hq->eW w t 7 iD->(l.length=0\/gx k l=false)->lJ k l=true->
 dw 189 #[.agg #[.map (some d),.map (some t)],.slice a l.length q] w fun e G=>e = .returned (.bool true)/\dm w G:=by
 intro k
 induction k with
 | zero=>
   intro l a q w an aE H a7 b7
   have ab:l.length=0:=by
    rcases a7 with h | h
    . exact h
    . simp [gx] at h
   rw [ab];go_enter func189,ntmps189;exact Rd
 | succ k ay=>
   intro l a q w an aE H a7 b7
   have aD:Hid (∀ (j:Nat) (a2:j<l.length),mR (hK l[j].op) l[j].mod l[j].name=true/\pE (hK l[j].op) l[j].args.length=true/\oI 6 l[j].args=true/\((hK l[j].op).body=true\/l[j].body.length=0)/\((hK l[j].op).other=true\/l[j].other.length=0)/\lJ k l[j].body=true/\lJ k l[j].other=true):=by
    simp only [lJ,e1,dO,xy,decide_eq_true_eq] at b7
    exact fun j a2=>b7 l[j] (eb a2)
   have bK:=an.bound
   have y:Hid (∀ (l:List St) (a:OA) (q:Nat) (w:World),dx w A a l.length (eE l)->eW w d 15 hq->eW w t 7 iD->(l.length=0\/gx k l=false)->lJ k l=true->
    dw 189 #[.agg #[.map (some d),.map (some t)],.slice a l.length q] w fun e G=>e = .returned (.bool true)/\dm w G):=ay
   have b0:Hid (dx w A a l.length (eE l)):=an;have aQ:Hid (eW w d 15 hq):=aE;have bA:Hid (eW w t 7 iD):=H;have L:Hid (∀ (j:Nat) (a2:j<l.length),hL 6 l[j].args=false/\(l[j].body.length=0\/gx k l[j].body=false)/\(l[j].other.length=0\/gx k l[j].other=false)):=JF a7;clear an aE H a7 ay b7;have ag:Hid (dV (w.alloc (.cells #[.map (some d),.map (some t)] 235)) w.heap.size [.map (some d),.map (some t)]):=dV.new w _ _;go_enter func189,ntmps189;go_wp2_with fail
   go_loopw [10] (fun i wr=>∃ j:Nat,j<=l.length/\i=di j/\dm w wr/\dV wr w.heap.size [.map (some d),.map (some t)]) (fun i _=>l.length - (intOf i).toNat)
   case atStart=>exact ⟨0,dY _,rfl,dn _ _,ag⟩
   case round=>
    clear ag;obtain ⟨j,a2,rfl,I,aF⟩:=hrel;have aH:=aF.cell 0 _ rfl;have az:=aF.cell 1 _ rfl;have b5:=aF.lt;have ag:Hid (dV wr w.heap.size [.map (some d),.map (some t)]):=aF;clear aF
    by_cases ac:j<l.length
    . obtain ⟨b,C,E,bo,a0,ei,a6,e2,rfl,S⟩:=(b0.later I).st j ac
      have O:=S.c0;have aO:=S.c1;have bp:=S.c2;have M:=S.c3;have ai:=S.c4;have z:=S.c5;have b8:=S.lt;have b3:=S.args.bound;have aV:=S.body.bound;have aS:=S.other.bound;have aZ:Hid (vf wr A b (C+j*6) l[j] E bo a0 ei a6 e2):=S;obtain ⟨F,J,U,bk,bO,ar,p⟩:=aD j ac;have aY:(Instr.lookup 232 (.map (some t)) (di l[j].op) false).run prog (wr.alloc (jz l[j].op l[j].mod l[j].name E l[j].args.length bo a0 l[j].body.length ei a6 l[j].other.length e2)) = .ok (hK l[j].op).val (wr.alloc (jz l[j].op l[j].mod l[j].name E l[j].args.length bo a0 l[j].body.length ei a6 l[j].other.length e2)):=((bA.later I).later (dn _ (jz l[j].op l[j].mod l[j].name E l[j].args.length bo a0 l[j].body.length ei a6 l[j].other.length e2))).look S.wop;clear S;generalize a8:hK l[j].op=s at aY F J bk bO;clear a8;simp only [Sh.val] at aY
      go_wp2_with fail;refine (Cg s l[j].mod l[j].name _ aZ.wm aZ.wna).mono ?_;rw [F];rintro e dC ⟨rfl,c3⟩;have c:=(ag.later (et _ _ _)).later c3;have g:=(dV.new1 wr #[di l[j].op,.string l[j].mod,.string l[j].name,.slice E l[j].args.length bo,.slice a0 l[j].body.length ei,.slice a6 l[j].other.length e2] 176 _).later c3;have m:=(dV.new2 wr #[.bool s.named,.bool s.number,di s.least,di s.most,.bool s.body,.bool s.other] 270 _).later c3;have T:dm wr dC:=dp (et _ _ _) c3;clear c3 aH az b5;obtain ⟨aH,az,b5⟩:=c.c2;obtain ⟨af,a4,am,a5,ax,aG,xz⟩:=g.c6;obtain ⟨D,ad,f,bi,b4,bx,yz⟩:=m.c6;have n:Hid (dV dC w.heap.size [.map (some d),.map (some t)]):=c;have o:Hid (dV dC wr.heap.size [di l[j].op,.string l[j].mod,.string l[j].name,.slice E l[j].args.length bo,.slice a0 l[j].body.length ei,.slice a6 l[j].other.length e2]):=g
      have u:Hid (dV dC (wr.heap.size+1) [.bool s.named,.bool s.number,di s.least,di s.most,.bool s.body,.bool s.other]):=m;clear c g m;go_wp2_with fail;refine (Ch s E l[j].args.length bo _).mono ?_;rw [J];rintro e dD ⟨rfl,K⟩;have c:=n.later K;have g:=o.later K;have m:=u.later K;have bc:=dp T K;clear K n o u;clear aH az b5 af a4 am a5 ax aG xz D ad f bi b4 bx yz;obtain ⟨aH,az,b5⟩:=c.c2;obtain ⟨af,a4,am,a5,ax,aG,xz⟩:=g.c6;obtain ⟨D,ad,f,bi,b4,bx,yz⟩:=m.c6;have n:Hid (dV dD w.heap.size [.map (some d),.map (some t)]):=c;have o:Hid (dV dD wr.heap.size [di l[j].op,.string l[j].mod,.string l[j].name,.slice E l[j].args.length bo,.slice a0 l[j].body.length ei,.slice a6 l[j].other.length e2]):=g;have u:Hid (dV dD (wr.heap.size+1) [.bool s.named,.bool s.number,di s.least,di s.most,.bool s.body,.bool s.other]):=m
      clear c g m;go_wp2_with fail;refine (JD d t A 6 l[j].args E bo _ (aZ.args.later bc) ((aQ.later I).later bc) (L j ac).1 U).mono ?_;rintro e dJ ⟨rfl,av⟩;have c:=n.later av;have g:=o.later av;have m:=u.later av;have br:=dp bc av;clear av n o u;clear aH az b5 af a4 am a5 ax aG xz D ad f bi b4 bx yz;obtain ⟨aH,az,b5⟩:=c.c2;obtain ⟨af,a4,am,a5,ax,aG,xz⟩:=g.c6;obtain ⟨D,ad,f,bi,b4,bx,yz⟩:=m.c6;have n:Hid (dV dJ w.heap.size [.map (some d),.map (some t)]):=c;have o:Hid (dV dJ wr.heap.size [di l[j].op,.string l[j].mod,.string l[j].name,.slice E l[j].args.length bo,.slice a0 l[j].body.length ei,.slice a6 l[j].other.length e2]):=g;have u:Hid (dV dJ (wr.heap.size+1) [.bool s.named,.bool s.number,di s.least,di s.most,.bool s.body,.bool s.other]):=m;clear c g m
      have bk:s.body=true\/s.body=false/\¬ 0<l[j].body.length:=by cases r:s.body with
       | true=>exact Or.inl rfl
       | false=>exact Or.inr ⟨rfl,by rw [r] at bk;simp at bk;simp [bk]⟩
      have bO:s.other=true\/s.other=false/\¬ 0<l[j].other.length:=by cases x:s.other with
       | true=>exact Or.inl rfl
       | false=>exact Or.inr ⟨rfl,by rw [x] at bO;simp at bO;simp [bO]⟩
      rcases bk with r | ⟨r,aa⟩<;>rcases bO with x | ⟨x,aB⟩<;>(
       rw [r] at b4;rw [x] at bx;go_wp2_with fail;refine (y l[j].body a0 ei _ (aZ.body.later br) ((aQ.later I).later br) ((bA.later I).later br) (L j ac).2.1 ar).mono ?_;rintro e eD ⟨rfl,aW⟩;have c:=n.later aW;have g:=o.later aW;have m:=u.later aW;have Z:=dp br aW;clear aW n o u;clear aH az b5 af a4 am a5 ax aG xz D ad f bi b4 bx yz;obtain ⟨aH,az,b5⟩:=c.c2;obtain ⟨af,a4,am,a5,ax,aG,xz⟩:=g.c6;obtain ⟨D,ad,f,bi,b4,bx,yz⟩:=m.c6;have n:Hid (dV eD w.heap.size [.map (some d),.map (some t)]):=c;have o:Hid (dV eD wr.heap.size [di l[j].op,.string l[j].mod,.string l[j].name,.slice E l[j].args.length bo,.slice a0 l[j].body.length ei,.slice a6 l[j].other.length e2]):=g;have u:Hid (dV eD (wr.heap.size+1) [.bool s.named,.bool s.number,di s.least,di s.most,.bool s.body,.bool s.other]):=m
       clear c g m;go_wp2_with fail;refine (y l[j].other a6 e2 _ (aZ.other.later Z) ((aQ.later I).later Z) ((bA.later I).later Z) (L j ac).2.2 p).mono ?_;rintro e eP ⟨rfl,aq⟩;have v:=n.later aq;have a1:=dp Z aq;clear aq;go_wp2_with fail;go_roundw
       case rel=>exact ⟨j+1,N7,Ou,dp I a1,v⟩
       case measure=>simp [intOf];omega)
    . exact Rb
abbrev dQ:Nat->Prop:=fun _=>True
theorem Tryz.infoBody:(prog.info? 25).map (fun i=>(i.zero,i.size,i.bytes))=some (some (dt),1,24):=by kernel_rfl
def lK (w:World) (ao:List Value) (t:List (List St)):Prop:=ao.length=t.length/\∀ i (h:i<t.length),∃ a an,ao[i]? = some (.slice a t[i].length an)/\dx w dQ a t[i].length (eE t[i])
theorem lK.later {t:List (List St)} (h:lK w ao t) (I:dm w G):lK G ao t:=
 ⟨h.1,fun i V=>by obtain ⟨a,an,F,J⟩:=h.2 i V;exact ⟨a,an,F,J.later I⟩⟩
theorem lK.nil (w:World):lK w [] []:=⟨rfl,fun i h=>Pq⟩
theorem lK.snoc {t:List (List St)} (h:lK w ao t) {l:List St} {c:Nat} (hd:dx w dQ a l.length (eE l)):lK w (ao++[.slice a l.length c]) (t++[l]):=by
 refine ⟨by simp [h.1],fun i V=>?_⟩
 rcases gZ i t.length with ac | E
 . obtain ⟨O,j,F,J⟩:=h.2 i ac
   refine ⟨O,j,?_,?_⟩
   . rw [kh (by rw [h.1];exact ac),lE ac];exact F
   . rw [lE ac];exact J
 . have:i=t.length:=by simp at V;omega
   subst this;refine ⟨a,c,?_,?_⟩
   . rw [lC (by rw [h.1];exact dA _),h.1];simp
   . simpa using hd
def pH (w:World) (a:OA) (t:List (List St)):Prop:=∀ i (h:i<t.length),∃ b C O j,a=some (dj b C)/\b<w.heap.size/\w.cell? ⟨b,C+i,none⟩=some (.slice O t[i].length j)/\dx w dQ O t[i].length (eE t[i])
theorem pH.later {t:List (List St)} (h:pH w a t) (I:dm w G):pH G a t:=fun i V=>by
 obtain ⟨b,C,O,j,F,J,U,aa⟩:=h i V;exact ⟨b,C,O,j,F,e4 J I.size,(I.cell (p:=⟨b,C+i,none⟩) J).trans U,aa.later I⟩
theorem lK.at {y g n q:Nat} {t:List (List St)} (h:lK w ao t) (T:w.ownsRow y 25 1 (.slice (some (dj g 0)) n q) n ao):pH w (some (dj g 0)) t:=by
 intro i V;obtain ⟨O,j,F,J⟩:=h.2 i V;have W:=T.cells (g:=g) rfl i _ F;have ac:=(T.lt g rfl).2
 have e:((dj g 0):Addr).add i=(dj g i):=On
 rw [e] at W;exact ⟨g,0,O,j,rfl,ac,by rw [fY];exact W,J⟩
theorem dV.grown {cq:Option Nat} (h:dV w b cs) (ak:w.grownBy G cq) (aX:some b≠cq):dV G b cs:=
 ⟨e4 h.lt ak.size,fun j v a2=>(lY (w:=w) (ak.block b h.lt aX)).trans (h.cell j v a2)⟩
theorem Cu (w:World) (v:Value) (t:TypeId) (n:Nat) (Z:n=w.heap.size):∀ j u,[v][j]? = some u->(w.alloc (.cells #[v] t)).cell? (((dj n 0):Addr).add j)=some u:=by
 subst Z;intro j u a2
 have e:((dj w.heap.size 0):Addr).add j=(dj w.heap.size j):=On
 rw [e];exact (dV.new w #[v] t).cell j u a2
theorem xV (m:ec) (v:Value) (E:OA) (ah:Nat) (a0:OA) (ae:Nat) (a6:OA) (c3:Nat) (c:OA) (K:Nat) (w:World) (a7:gS w dQ m v E ah a0 ae a6 c3 c K) :
 dw 183 #[v] w fun e G=>∃ a q,e = .returned (.slice a m.bodies.length q)/\pH G a m.bodies/\dm w G:=by
 obtain ⟨rfl,p,b3,hDe,bC,hMa⟩:=a7;obtain ⟨aY,V,a9,ba,bA⟩:=info_parts Tryz.infoBody
 have bK:m.procs.length<=3518437208883:=by
  have F:=bC.2.1
  have J:(jq m.procs).length=m.procs.length*5:=by
   exact Q4
  omega
 have A:Hid (dx w dQ a6 m.procs.length (jq m.procs)):=bC;have L:Hid (dx w dQ c m.main.length (eE m.main)):=hMa;clear b3 hDe bC hMa;go_enter func183,ntmps183;go_wp2_with fail;have ag:=dV.new w #[.string m.name,.slice E m.uses.length ah,.slice a0 m.decls.length ae,.slice a6 m.procs.length c3,.slice c m.main.length K] 27
 go_loopw [9,3] (fun i v wr=>∃ (j:Nat) (ao:List Value),j<=m.procs.length/\i=di j/\wr.ownsRow (w.heap.size+1) 25 1 v j ao/\lK w ao ((m.procs.take j).map fa.body)/\dm w wr/\dV wr w.heap.size [.string m.name,.slice E m.uses.length ah,.slice a0 m.decls.length ae,.slice a6 m.procs.length c3,.slice c m.main.length K]) (fun i _ _=>m.procs.length - (intOf i).toNat)
 case atStart=>exact ⟨0,[],dY _,rfl,jU _ _ _ _,lK.nil _,dn _ _,ag⟩
 case round=>
  clear ag;obtain ⟨j,ao,a2,rfl,T,hBo,I,aF⟩:=hrel;have P:Hid (wr.ownsRow (w.heap.size+1) 25 1 u3 j ao):=T;have br:Hid (lK w ao ((m.procs.take j).map fa.body)):=hBo;have ag:Hid (dV wr w.heap.size [.string m.name,.slice E m.uses.length ah,.slice a0 m.decls.length ae,.slice a6 m.procs.length c3,.slice c m.main.length K]):=aF;have b2:Hid (∀ k,u3.ownBlock=some k->w.heap.size+1<=k/\k<wr.heap.size):=T.lt;obtain ⟨aH,az,aK,aW,bg,b5⟩:=aF.c5;clear T hBo aF
  by_cases ac:j<m.procs.length
  . obtain ⟨b,C,bt,aT,bv,aU,aR,bh,rfl,S⟩:=(A.later I).pr j ac
    have O:=S.c0;have aO:=S.c1;have bp:=S.c2;have M:=S.c3;have ai:=S.c4;have b8:=S.lt
    have aZ:Hid (dx w dQ aR m.procs[j].body.length (eE m.procs[j].body)):=by
     obtain ⟨aL,c0,b1',d1',b2',d2',b3',d3',e,D⟩:=A.pr j ac
     injection e with e
     injection e with aJ aI
     subst aJ;subst aI;have aa:=(I.cell (p:=⟨b,C+j*5+4,none⟩) D.lt).trans D.c4;rw [S.c4] at aa
     injection aa with aa
     injection aa with aa _ _
     subst aa;exact D.body
    have aQ:Hid ((m.procs.take (j+1)).map fa.body=(m.procs.take j).map fa.body++[m.procs[j].body]):=by
     show _=_
     rw [gn ac,j2];rfl
    clear S
    go_wp2_with (at_builtin;refine wpList_append_lies _ rfl _ _ 271 rfl (w.heap.size+1) 25 aY _ 1 24 Tryz.underlying271 V a9 ba bA rfl N9 _ j ao rfl ((P.alloc _).alloc _) _ 1 1 [.slice aR m.procs[j].body.length bh] rfl rfl (Cu _ _ _ _ Ob) (by simp [Value.oneCell']) N7 Oh N7 Of _ rfl ?_;intro al R w2 g f d be)
    have ak:wr.grownBy w2 u3.ownBlock:=((wH wr _ _).trans (wH _ _ _)).trans f;have aN:dm w w2:=I.grown ak I.size (fun k N=>by have:=(b2 k N).1;omega);have u:=ag.grown ak (fun e=>by have:=(b2 _ e.symm).1;omega);clear f d ak;go_roundw
    case rel=>exact ⟨j+1,ao++[.slice aR m.procs[j].body.length bh],N7,Ou,g,by rw [aQ.out];exact br.snoc aZ,aN,u⟩
    case measure=>simp [intOf];omega
  . have h:j=m.procs.length:=by omega
    subst h
    have aQ:Hid (m.bodies=(m.procs.take m.procs.length).map fa.body++[m.main]):=by show _=_;rw [gu];rfl
    have aV:Hid (m.bodies.length=m.procs.length+1):=by show _=_;simp [ec.bodies]
    go_wp2_with (at_builtin;refine wpList_append_lies _ rfl _ _ 271 rfl (w.heap.size+1) 25 aY _ 1 24 Tryz.underlying271 V a9 ba bA rfl N9 _ m.procs.length ao rfl (P.alloc _) _ 1 1 [.slice c m.main.length K] rfl rfl (Cu _ _ _ _ Ob) (by simp [Value.oneCell']) N7 Oh N7 Of _ rfl ?_;intro al R w2 g f d be)
    have ak:wr.grownBy w2 u3.ownBlock:=(wH wr _ _).trans f;have aN:dm w w2:=I.grown ak I.size (fun k N=>by have:=(b2 k N).1;omega);clear f d ak;go_ret;refine ⟨some (dj al 0),R,?_,?_,aN⟩
    . rw [aV.out];rfl
    have:=(br.snoc (c:=K) L).later aN;rw [aQ.out];exact this.at g
theorem JH (s:ByteArray) (w:World) (a8:s.size<=maxLen) :
 dw 240 #[.string s] w fun e G=>e = .returned (.bool (!nameOk s))/\dm w G:=by
 go_enter func240,ntmps240
 go_wp2_with (go_at_call 186;refine (pF s _ a8).mono ?_;rintro e G ⟨rfl,I⟩)
 go_ret;exact ⟨rfl,I⟩
theorem JI (l:List ByteArray) (a:OA) (q:Nat) (w:World) (an:dx w dQ a l.length (eH l)) :
 dw 279 #[.slice a l.length q,.func (.func 240) #[] #[]] w fun e G=>∃ n:Int,e = .returned (di n)/\decide (0<=n) = !l.all nameOk/\dm w G:=by
 have bK:=an.bound;have b0:Hid (dx w dQ a l.length (eH l)):=an;clear an;go_enter func279,ntmps279;go_wp2_with fail
 go_loopw [8] (fun i wr=>∃ j:Nat,j<=l.length/\i=di j/\(l.take j).all nameOk=true/\dm w wr) (fun i _=>l.length - (intOf i).toNat)
 case atStart=>exact ⟨0,dY _,rfl,rfl,Below.refl _ _⟩
 case round=>
  obtain ⟨j,a2,rfl,aS,I⟩:=hrel;have aR:Hid ((l.take j).all nameOk=true):=aS;clear aS
  by_cases ac:j<l.length
  . obtain ⟨b,C,rfl,b8,W,am⟩:=(b0.later I).str j ac
    go_wp2_with fail;refine (JH l[j] _ am).mono ?_
    cases Z:nameOk l[j] with
    | false=>
      have aD:Hid (l.all nameOk=false):=all_not l _ j ac Z;rintro e dC ⟨rfl,T⟩;go_wp2_with fail;go_ret;exact ⟨j,rfl,by rw [aD.out];simp,dp I T⟩
    | true=>
      have aM:Hid ((l.take (j+1)).all nameOk=true):=by
       show _=_
       rw [all_snoc l _ j ac,aR.out,Z];rfl
      rintro e dC ⟨rfl,T⟩;go_wp2_with fail;go_roundw
      case rel=>exact ⟨j+1,N7,Ou,aM,dp I T⟩
      case measure=>simp [intOf];omega
  . have aM:Hid (l.all nameOk=true):=qH aR ac
    go_wp2_with fail;go_ret;exact ⟨-1,rfl,by rw [aM.out];rfl,I⟩
theorem xW (l:List ByteArray) (a:OA) (q:Nat) (w:World) (an:dx w dQ a l.length (eH l)) :
 dw 187 #[.slice a l.length q] w fun e G=>e = .returned (.bool (l.all nameOk))/\dm w G:=by
 have ao:Hid (dw 239 #[.slice a l.length q,.func (.func 240) #[] #[]] w fun e G=>e = .returned (.bool (!l.all nameOk))/\dm w G):=by
  have y:Hid (dw 279 #[.slice a l.length q,.func (.func 240) #[] #[]] w fun e G=>∃ n:Int,e = .returned (di n)/\decide (0<=n) = !l.all nameOk/\dm w G):=JI l a q w an;clear an;show Calls _ _ _ _ _;go_enter func239,ntmps239
  go_wp2_with (go_at_call 279;refine y.mono ?_;rintro e G ⟨n,rfl,Z,I⟩)
  go_ret;exact ⟨rfl,I⟩
 clear an;go_enter func187,ntmps187
 go_wp2_with (go_at_call 239;refine ao.mono ?_;rintro e G ⟨rfl,I⟩)
 go_ret;exact ⟨ret_bool Ob,I⟩
abbrev mC (m:ec) (a:OA) (b:Nat) (c:OA) (e:Nat) (f:OA) (g:Nat) (h:OA) (i:Nat):Obj:=jl m.name a m.uses.length b c m.decls.length e f m.procs.length g h m.main.length i
theorem hid {q:Prop} (h:q):Hid q:=h
theorem xX {l:List fa} (h:dx w dQ a l.length (jq l)):l.length<=3518437208883:=by
 have F:=h.2.1
 have J:(jq l).length=l.length*5:=by
  exact Q4
 omega
structure kK (m:ec):Prop where
 decK:∀ d ∈ m.decls,1<=d.kind/\d.kind<=3
 bodK:∀ b ∈ m.bodies,mh 6 b=true
 dec:m.decls.length<=10
 pro:m.procs.length<=6
 par:∀ p ∈ m.procs,p.params.length<=3/\p.locals.length<=4
 bodM:∀ b ∈ m.bodies,gx 6 b=false
 decF:∀ d ∈ m.decls,nameOk d.name=true/\nG d=true
 proF:∀ p ∈ m.procs,nameOk p.name=true/\p.params.all nameOk=true/\p.locals.all nameOk=true
 bodF:∀ b ∈ m.bodies,lJ 6 b=true
theorem kK.kinds {m:ec} (h:kK m):m.kinds=true:=by
 simp only [ec.kinds,dO,e1,decide_eq_true_eq];exact ⟨h.decK,h.bodK⟩
theorem kK.many {m:ec} (h:kK m):m.many=decide (3<m.uses.length):=by
 have F:decide (10<m.decls.length)=false:=decide_eq_false (by have:=h.dec;omega);have J:decide (6<m.procs.length)=false:=decide_eq_false (by have:=h.pro;omega)
 have U:m.procs.any (fun D:fa=>decide (3<D.params.length)||decide (4<D.locals.length))=false:=by
  simp only [ma,nE,hG,decide_eq_false_iff_not];intro D aA;have:=h.par D aA;omega
 have aa:m.bodies.any (gx 6)=false:=by
  simp only [ma,nE];exact h.bodM
 simp only [ec.many,F,J,U,aa,Bool.or_false]
theorem kK.form {m:ec} (h:kK m):m.form=(nameOk m.name&&m.uses.all nameOk):=by
 have F:m.decls.all (fun d:gG=>nameOk d.name&&nG d)=true:=by
  simp only [e1,dO];exact h.decF
 have J:m.procs.all (fun D:fa=>nameOk D.name&&(D.params.all nameOk&&D.locals.all nameOk))=true:=by
  simp only [e1,dO]
  exact fun D aA=>by simpa using h.proF D aA
 have U:m.bodies.all (lJ 6)=true:=e1.2 h.bodF;simp only [ec.form,F,J,U,Bool.and_true]
theorem JJ (n:ByteArray) (us:List ByteArray):kK ⟨n,us,[],[],[]⟩:=by
 have I:∀ b ∈ (⟨n,us,[],[],[]⟩:ec).bodies,b=[]:=fun b h=>by simpa [ec.bodies] using h
 exact ⟨Ob,fun b h=>by rw [I b h];simp [mh],Ob,Ob,Ob,fun b h=>by rw [I b h];simp [gx],Ob,Ob,fun b h=>by rw [I b h];simp [lJ]⟩
theorem Cv {m:ec} (h:m.err=0):kK m:=by
 unfold ec.err at h
 cases N:m.kinds with
 | false=>rw [N] at h;simp at h
 | true=>
 cases a1:m.many with
 | true=>rw [N,a1] at h;simp at h
 | false=>
 cases Y:m.form with
 | false=>rw [N,a1,Y] at h;simp at h
 | true=>
 simp only [ec.kinds,dO,e1,decide_eq_true_eq] at N;simp only [ec.many,hG,ma,nE,decide_eq_false_iff_not] at a1;simp only [ec.form,dO,e1] at Y;exact ⟨N.1,N.2,N7,N7,fun D aA=>by have:=a1.2.2.2.1 D aA;omega,a1.2.2.2.2,Y.2.2.1,fun D aA=>by simpa using Y.2.2.2.1 D aA,Y.2.2.2.2⟩
theorem JK
 (d t:Nat) (m:ec) (v:Value) (E:OA) (ah:Nat) (a0:OA) (ae:Nat) (a6:OA) (c3:Nat) (c:OA) (K:Nat) (w:World) (a7:gS w dQ m v E ah a0 ae a6 c3 c K) (aE:eW w d 15 hq) (H:eW w t 7 iD) (a:kK m) :
 dw 152 #[.agg #[.map (some d),.map (some t)],v] w fun e G=>e = .returned (.bool true)/\dm w G:=by
 have aX:=hid a;obtain rfl:=a7.val;have b3:=a7.uses.bound;have aV:=a7.decls.bound;have A:Hid (m.procs.length<=3518437208883):=xX a7.procs;have aS:=A.out;have L:Hid (gS w dQ m (.agg #[.string m.name,.slice E m.uses.length ah,.slice a0 m.decls.length ae,.slice a6 m.procs.length c3,.slice c m.main.length K]) E ah a0 ae a6 c3 c K):=a7;have aQ:Hid (eW w d 15 hq):=aE;have bA:Hid (eW w t 7 iD):=H;clear a7 aE H a;have D:Hid (dV ((w.alloc (.cells #[.map (some d),.map (some t)] 235)).alloc (mC m E ah a0 ae a6 c3 c K)) w.heap.size [.map (some d),.map (some t)]):=dV.new1 w _ _ _;have B:Hid (dV ((w.alloc (.cells #[.map (some d),.map (some t)] 235)).alloc (mC m E ah a0 ae a6 c3 c K)) (w.heap.size+1) [.string m.name,.slice E m.uses.length ah,.slice a0 m.decls.length ae,.slice a6 m.procs.length c3,.slice c m.main.length K]):=dV.new2 w _ _ _
 go_enter func152,ntmps152;go_wp2_with fail
 go_loopw [12] (fun i wr=>∃ j:Nat,j<=m.decls.length/\i=di j/\dm w wr/\dV wr w.heap.size [.map (some d),.map (some t)]/\dV wr (w.heap.size+1) [.string m.name,.slice E m.uses.length ah,.slice a0 m.decls.length ae,.slice a6 m.procs.length c3,.slice c m.main.length K]) (fun i _=>m.decls.length - (intOf i).toNat)
 case atStart=>exact ⟨0,dY _,rfl,et _ _ _,D,B⟩
 case round=>
  clear D B;obtain ⟨j,a2,rfl,I,hB0,f⟩:=hrel;obtain ⟨aH,az,b5⟩:=hB0.c2;obtain ⟨b0,bB,bH,bR,bN,mz⟩:=f.c5;have D:Hid (dV wr w.heap.size [.map (some d),.map (some t)]):=hB0;have B:=hid f;clear hB0 f
  by_cases ac:j<m.decls.length
  . obtain ⟨b,C,rfl,S⟩:=(L.decls.later I).de j ac
    have O:=S.c0;have aO:=S.c1;have bp:=S.c2;have M:=S.c3;have b8:=S.lt;clear S;have N:=aX.decK m.decls[j] (eb ac);exact Ru
  . go_wp2_with fail
    refine (xV m _ E ah a0 ae a6 c3 c K _ (L.later I)).mono ?_;rintro e dJ ⟨h,bc,rfl,hBA,br⟩;have r:Hid (pH dJ h m.bodies):=hBA
    have l:m.bodies.length<=4000000000000:=PQ
    have g:=D.later br;have a9:=B.later br;have Z:=dp I br;clear br hBA D B;clear aH az b5 b0 bB bH bR bN mz;have D:Hid (dV dJ w.heap.size [.map (some d),.map (some t)]):=g;have B:=hid a9;have Hb6:Hid (dm w dJ):=Z;clear g a9 Z;go_wp2_with fail
    go_loopw [28] (fun i wr=>∃ j:Nat,j<=m.bodies.length/\i=di j/\dm dJ wr/\dV wr w.heap.size [.map (some d),.map (some t)]/\dV wr (w.heap.size+1) [.string m.name,.slice E m.uses.length ah,.slice a0 m.decls.length ae,.slice a6 m.procs.length c3,.slice c m.main.length K]) (fun i _=>m.bodies.length - (intOf i).toNat)
    case atStart=>exact ⟨0,dY _,rfl,Below.refl _ _,D,B⟩
    case round=>
     clear D B;obtain ⟨j,a2,rfl,a1,hB0,f⟩:=hrel;obtain ⟨aH,az,b5⟩:=hB0.c2;obtain ⟨b0,bB,bH,bR,bN,mz⟩:=f.c5;have D:Hid (dV wr w.heap.size [.map (some d),.map (some t)]):=hB0;have B:=hid f;clear hB0 f
     by_cases ac:j<m.bodies.length
     . obtain ⟨b,C,ak,R,rfl,b8,W,S⟩:=(r.later a1) j ac
       have aZ:Hid (dx wr dQ ak m.bodies[j].length (eE m.bodies[j])):=S;clear S;go_wp2_with fail;refine (Cs d t dQ 6 N7 m.bodies[j] ak R 1 _ N7 aZ ((aQ.later Hb6).later a1) ((bA.later Hb6).later a1) (aX.bodK m.bodies[j] (eb ac))).mono ?_;exact QL
     . go_wp2_with fail
       go_ret;exact ⟨rfl,dp Hb6 a1⟩
theorem JL
 (d t:Nat) (m:ec) (v:Value) (E:OA) (ah:Nat) (a0:OA) (ae:Nat) (a6:OA) (c3:Nat) (c:OA) (K:Nat) (w:World) (a7:gS w dQ m v E ah a0 ae a6 c3 c K) (aE:eW w d 15 hq) (H:eW w t 7 iD) (a:kK m) :
 dw 153 #[.agg #[.map (some d),.map (some t)],v] w fun e G=>e = .returned (.bool m.many)/\dm w G:=by
 by_cases aL:3<m.uses.length
 . have aM:Hid (m.many=true):=by show _=_;simp [ec.many,aL]
   obtain rfl:=a7.val;have b3:=a7.uses.bound;clear a7 aE H;go_enter func153,ntmps153;go_wp2_with fail;go_ret;exact ⟨ret_bool aM.symm,et _ _ _⟩
 have z:Hid (m.many=false):=a.many.trans (decide_eq_false aL);have aX:=hid a;have hd:=a.dec;have aA:=a.pro;obtain rfl:=a7.val;have b3:=a7.uses.bound;have aV:=a7.decls.bound;have A:Hid (m.procs.length<=3518437208883):=xX a7.procs;have aS:=A.out;have L:Hid (gS w dQ m (.agg #[.string m.name,.slice E m.uses.length ah,.slice a0 m.decls.length ae,.slice a6 m.procs.length c3,.slice c m.main.length K]) E ah a0 ae a6 c3 c K):=a7;have aQ:Hid (eW w d 15 hq):=aE;have bA:Hid (eW w t 7 iD):=H;clear a7 aE H a;have D:Hid (dV ((w.alloc (.cells #[.map (some d),.map (some t)] 235)).alloc (mC m E ah a0 ae a6 c3 c K)) w.heap.size [.map (some d),.map (some t)]):=dV.new1 w _ _ _;have B:Hid (dV ((w.alloc (.cells #[.map (some d),.map (some t)] 235)).alloc (mC m E ah a0 ae a6 c3 c K)) (w.heap.size+1) [.string m.name,.slice E m.uses.length ah,.slice a0 m.decls.length ae,.slice a6 m.procs.length c3,.slice c m.main.length K]):=dV.new2 w _ _ _
 go_enter func153,ntmps153;go_wp2_with fail
 go_loopw [28] (fun i wr=>∃ j:Nat,j<=m.procs.length/\i=di j/\dm w wr/\dV wr w.heap.size [.map (some d),.map (some t)]/\dV wr (w.heap.size+1) [.string m.name,.slice E m.uses.length ah,.slice a0 m.decls.length ae,.slice a6 m.procs.length c3,.slice c m.main.length K]) (fun i _=>m.procs.length - (intOf i).toNat)
 case atStart=>exact ⟨0,dY _,rfl,et _ _ _,D,B⟩
 case round=>
  clear D B;obtain ⟨j,a2,rfl,I,hB0,f⟩:=hrel;obtain ⟨aH,az,b5⟩:=hB0.c2;obtain ⟨b0,bB,bH,bR,bN,mz⟩:=f.c5;have D:Hid (dV wr w.heap.size [.map (some d),.map (some t)]):=hB0;have B:=hid f;clear hB0 f
  by_cases ac:j<m.procs.length
  . obtain ⟨b,C,bt,aT,bv,aU,aR,bh,rfl,S⟩:=(L.procs.later I).pr j ac
    have O:=S.c0;have aO:=S.c1;have bp:=S.c2;have M:=S.c3;have ai:=S.c4;have b8:=S.lt;have aJ:=S.params.bound;have aI:=S.locals.bound;clear S;have N:=aX.par m.procs[j] (eb ac);exact Ru
  . go_wp2_with fail
    refine (xV m _ E ah a0 ae a6 c3 c K _ (L.later I)).mono ?_;rintro e dJ ⟨h,bc,rfl,hBA,br⟩;have r:Hid (pH dJ h m.bodies):=hBA
    have l:m.bodies.length<=4000000000000:=PQ
    have g:=D.later br;have a9:=B.later br;have Z:=dp I br;clear br hBA D B;clear aH az b5 b0 bB bH bR bN mz;have D:Hid (dV dJ w.heap.size [.map (some d),.map (some t)]):=g;have B:=hid a9;have Hb6:Hid (dm w dJ):=Z;clear g a9 Z;go_wp2_with fail
    go_loopw [46] (fun i wr=>∃ j:Nat,j<=m.bodies.length/\i=di j/\dm dJ wr/\dV wr w.heap.size [.map (some d),.map (some t)]/\dV wr (w.heap.size+1) [.string m.name,.slice E m.uses.length ah,.slice a0 m.decls.length ae,.slice a6 m.procs.length c3,.slice c m.main.length K]) (fun i _=>m.bodies.length - (intOf i).toNat)
    case atStart=>exact ⟨0,dY _,rfl,Below.refl _ _,D,B⟩
    case round=>
     clear D B;obtain ⟨j,a2,rfl,a1,hB0,f⟩:=hrel;obtain ⟨aH,az,b5⟩:=hB0.c2;obtain ⟨b0,bB,bH,bR,bN,mz⟩:=f.c5;have D:Hid (dV wr w.heap.size [.map (some d),.map (some t)]):=hB0;have B:=hid f;clear hB0 f
     by_cases ac:j<m.bodies.length
     . obtain ⟨b,C,ak,R,rfl,b8,W,S⟩:=(r.later a1) j ac
       have aZ:Hid (dx wr dQ ak m.bodies[j].length (eE m.bodies[j])):=S;clear S;go_wp2_with fail;refine (Ct d t dQ 6 N7 m.bodies[j] ak R 1 _ N7 aZ ((aQ.later Hb6).later a1) ((bA.later Hb6).later a1) (aX.bodM m.bodies[j] (eb ac))).mono ?_;exact QL
     . go_wp2_with fail
       go_ret;exact ⟨ret_bool z.symm,dp Hb6 a1⟩
theorem JM
 (d t:Nat) (m:ec) (v:Value) (E:OA) (ah:Nat) (a0:OA) (ae:Nat) (a6:OA) (c3:Nat) (c:OA) (K:Nat) (w:World) (a7:gS w dQ m v E ah a0 ae a6 c3 c K) (aE:eW w d 15 hq) (H:eW w t 7 iD) (a:kK m) :
 dw 154 #[.agg #[.map (some d),.map (some t)],v] w fun e G=>e = .returned (.bool m.form)/\dm w G:=by
 have aX:=hid a;have z:=hid a.form;clear a;obtain rfl:=a7.val;have b3:=a7.uses.bound;have aV:=a7.decls.bound;have A:Hid (m.procs.length<=3518437208883):=xX a7.procs;have aS:=A.out;have L:Hid (gS w dQ m (.agg #[.string m.name,.slice E m.uses.length ah,.slice a0 m.decls.length ae,.slice a6 m.procs.length c3,.slice c m.main.length K]) E ah a0 ae a6 c3 c K):=a7;have aQ:Hid (eW w d 15 hq):=aE;have bA:Hid (eW w t 7 iD):=H;clear a7 aE H;have D:Hid (dV ((w.alloc (.cells #[.map (some d),.map (some t)] 235)).alloc (mC m E ah a0 ae a6 c3 c K)) w.heap.size [.map (some d),.map (some t)]):=dV.new1 w _ _ _;have B:Hid (dV ((w.alloc (.cells #[.map (some d),.map (some t)] 235)).alloc (mC m E ah a0 ae a6 c3 c K)) (w.heap.size+1) [.string m.name,.slice E m.uses.length ah,.slice a0 m.decls.length ae,.slice a6 m.procs.length c3,.slice c m.main.length K]):=dV.new2 w _ _ _
 go_enter func154,ntmps154;go_wp2_with fail;refine (pF m.name _ L.wna).mono ?_
 cases bF:nameOk m.name with
 | false=>
   rintro e dk ⟨rfl,bd⟩;go_wp2_with fail;go_ret;exact ⟨ret_bool (by rw [z.out,bF];rfl),dp (et _ _ _) bd⟩
 | true=>
 rintro e dk ⟨rfl,bd⟩;have g:=D.later bd;have a9:=B.later bd;have bs:dm w dk:=dp (et _ _ _) bd;clear D B bd;obtain ⟨b0,bB,bH,bR,bN,mz⟩:=a9.c5;have D:Hid (dV dk w.heap.size [.map (some d),.map (some t)]):=g;have B:=hid a9;clear g a9;go_wp2_with fail;refine (xW m.uses E ah _ (L.uses.later bs)).mono ?_
 cases aF:m.uses.all nameOk with
 | false=>
   rintro e w2 ⟨rfl,bd⟩;go_wp2_with fail;go_ret;exact ⟨ret_bool (by rw [z.out,bF,aF];rfl),dp bs bd⟩
 | true=>
 rintro e w2 ⟨rfl,bd⟩;have g:=D.later bd;have a9:=B.later bd;have bI:=dp bs bd;clear D B bd bs b0 bB bH bR bN mz;obtain ⟨b0,bB,bH,bR,bN,mz⟩:=a9.c5;have D:Hid (dV w2 w.heap.size [.map (some d),.map (some t)]):=g;have B:=hid a9;clear g a9;go_wp2_with fail;clear b0 bB bH bR bN mz
 go_loopw [24] (fun i wr=>∃ j:Nat,j<=m.decls.length/\i=di j/\dm w wr/\dV wr w.heap.size [.map (some d),.map (some t)]/\dV wr (w.heap.size+1) [.string m.name,.slice E m.uses.length ah,.slice a0 m.decls.length ae,.slice a6 m.procs.length c3,.slice c m.main.length K]) (fun i _=>m.decls.length - (intOf i).toNat)
 case atStart=>exact ⟨0,dY _,rfl,bI,D,B⟩
 case round=>
  clear bI;clear D B;obtain ⟨j,a2,rfl,I,hB0,f⟩:=hrel;obtain ⟨aH,az,b5⟩:=hB0.c2;obtain ⟨b0,bB,bH,bR,bN,mz⟩:=f.c5;have D:Hid (dV wr w.heap.size [.map (some d),.map (some t)]):=hB0;have B:=hid f;clear hB0 f
  by_cases ac:j<m.decls.length
  . obtain ⟨b,C,rfl,S⟩:=(L.decls.later I).de j ac
    have O:=S.c0;have aO:=S.c1;have bp:=S.c2;have M:=S.c3;have b8:=S.lt;obtain ⟨F,J⟩:=aX.decF m.decls[j] (eb ac);have p:=S.wna;clear S;go_wp2_with fail;refine (pF m.decls[j].name _ p).mono ?_;rw [F];rintro e dC ⟨rfl,bd⟩;have o:=(dV.new wr #[di m.decls[j].kind,.string m.decls[j].name,.bool m.decls[j].pub,di m.decls[j].n] 170).later bd;have bf:=o.cell 0 _ rfl;have be:=o.cell 1 _ rfl;have b9:=o.cell 2 _ rfl;have bm:=o.cell 3 _ rfl;have k:=o.lt;have g:=(D.later (dn _ _)).later bd;have a9:=(B.later (dn _ _)).later bd;have bs:=xU I bd;clear bd o D B aH az b5 b0 bB bH bR bN mz;have D:Hid (dV dC w.heap.size [.map (some d),.map (some t)]):=g;have B:=hid a9;clear g a9;go_wp2_with fail;refine (Ju m.decls[j] _).mono ?_;rw [J];rintro e dD ⟨rfl,bd⟩
    have g:=D.later bd;have a9:=B.later bd;have bI:=dp bs bd;clear bd bs;go_wp2_with fail;go_roundw
    case rel=>exact ⟨j+1,N7,Ou,bI,g,a9⟩
    case measure=>simp [intOf];omega
  . go_wp2_with fail
    clear ac a2;clear aH az b5 b0 bB bH bR bN mz
    go_loopw [41] (fun i wr=>∃ j:Nat,j<=m.procs.length/\i=di j/\dm w wr/\dV wr w.heap.size [.map (some d),.map (some t)]/\dV wr (w.heap.size+1) [.string m.name,.slice E m.uses.length ah,.slice a0 m.decls.length ae,.slice a6 m.procs.length c3,.slice c m.main.length K]) (fun i _=>m.procs.length - (intOf i).toNat)
    case atStart=>exact ⟨0,dY _,rfl,I,D,B⟩
    case round=>
     clear I;clear D B;obtain ⟨j,a2,rfl,I,hB0,f⟩:=hrel;obtain ⟨aH,az,b5⟩:=hB0.c2;obtain ⟨b0,bB,bH,bR,bN,mz⟩:=f.c5;have D:Hid (dV wr w.heap.size [.map (some d),.map (some t)]):=hB0;have B:=hid f;clear hB0 f
     by_cases ac:j<m.procs.length
     . obtain ⟨b,C,bt,aT,bv,aU,aR,bh,rfl,S⟩:=(L.procs.later I).pr j ac
       have O:=S.c0;have aO:=S.c1;have bp:=S.c2;have M:=S.c3;have ai:=S.c4;have b8:=S.lt;have aZ:Hid (B1 wr dQ b (C+j*5) m.procs[j] bt aT bv aU aR bh):=S;obtain ⟨F,J,U⟩:=aX.proF m.procs[j] (eb ac);clear S;go_wp2_with fail;refine (pF m.procs[j].name _ aZ.wna).mono ?_;rw [F];rintro e dC ⟨rfl,bd⟩;have o:=(dV.new wr #[.string m.procs[j].name,.bool m.procs[j].pub,.slice bt m.procs[j].params.length aT,.slice bv m.procs[j].locals.length aU,.slice aR m.procs[j].body.length bh] 118).later bd;obtain ⟨bf,be,b9,bm,bk,k⟩:=o.c5;have bJ:Hid (dV dC wr.heap.size [.string m.procs[j].name,.bool m.procs[j].pub,.slice bt m.procs[j].params.length aT,.slice bv m.procs[j].locals.length aU,.slice aR m.procs[j].body.length bh]):=o;have g:=(D.later (dn _ _)).later bd;have a9:=(B.later (dn _ _)).later bd
       have bs:=dp (dn _ _) bd;clear bd o D B aH az b5 b0 bB bH bR bN mz;have D:Hid (dV dC w.heap.size [.map (some d),.map (some t)]):=g;have B:=hid a9;clear g a9;go_wp2_with fail;refine (xW m.procs[j].params bt aT _ (aZ.params.later bs)).mono ?_;rw [J];rintro e dD ⟨rfl,bd⟩;have o:=bJ.later bd;clear bf be b9 bm bk k bJ;obtain ⟨bf,be,b9,bm,bk,k⟩:=o.c5;have g:=D.later bd;have a9:=B.later bd;have bI:=dp bs bd;clear bd bs o D B;have D:Hid (dV dD w.heap.size [.map (some d),.map (some t)]):=g;have B:=hid a9;clear g a9;go_wp2_with fail;refine (xW m.procs[j].locals bv aU _ (aZ.locals.later bI)).mono ?_;rw [U];rintro e dJ ⟨rfl,bd⟩;have g:=D.later bd;have a9:=B.later bd;have bM:=dp I (dp bI bd);clear bd bI;go_wp2_with fail;go_roundw
       case rel=>exact ⟨j+1,N7,Ou,bM,g,a9⟩
       case measure=>simp [intOf];omega
     . go_wp2_with fail
       refine (xV m _ E ah a0 ae a6 c3 c K _ (L.later I)).mono ?_;rintro e dJ ⟨h,bc,rfl,hBA,br⟩;have r:Hid (pH dJ h m.bodies):=hBA
       have l:m.bodies.length<=4000000000000:=PQ
       have g:=D.later br;have a9:=B.later br;have Z:=dp I br;clear br hBA D B;clear aH az b5 b0 bB bH bR bN mz;have D:Hid (dV dJ w.heap.size [.map (some d),.map (some t)]):=g;have B:=hid a9;have Hb6:Hid (dm w dJ):=Z;clear g a9 Z;go_wp2_with fail
       go_loopw [65] (fun i wr=>∃ j:Nat,j<=m.bodies.length/\i=di j/\dm dJ wr/\dV wr w.heap.size [.map (some d),.map (some t)]/\dV wr (w.heap.size+1) [.string m.name,.slice E m.uses.length ah,.slice a0 m.decls.length ae,.slice a6 m.procs.length c3,.slice c m.main.length K]) (fun i _=>m.bodies.length - (intOf i).toNat)
       case atStart=>exact ⟨0,dY _,rfl,Below.refl _ _,D,B⟩
       case round=>
        clear D B;obtain ⟨j,a2,rfl,a1,hB0,f⟩:=hrel;obtain ⟨aH,az,b5⟩:=hB0.c2;obtain ⟨b0,bB,bH,bR,bN,mz⟩:=f.c5;have D:Hid (dV wr w.heap.size [.map (some d),.map (some t)]):=hB0;have B:=hid f;clear hB0 f
        by_cases ac:j<m.bodies.length
        . obtain ⟨b,C,ak,R,rfl,b8,W,S⟩:=(r.later a1) j ac
          have aZ:Hid (dx wr dQ ak m.bodies[j].length (eE m.bodies[j])):=S;clear S;go_wp2_with fail;refine (JG d t dQ 6 m.bodies[j] ak R _ aZ ((aQ.later Hb6).later a1) ((bA.later Hb6).later a1) (Or.inr (aX.bodM m.bodies[j] (eb ac))) (aX.bodF m.bodies[j] (eb ac))).mono ?_;exact QL
        . go_wp2_with fail
          go_ret;exact ⟨ret_bool (by rw [z.out,bF,aF];rfl),dp Hb6 a1⟩
theorem JN {m:ec} (h:m.kinds=true) (F:m.many=true):m.err=2:=by unfold ec.err;rw [h,F];rfl
theorem JO {m:ec} (h:m.kinds=true) (F:m.many=false) (J:m.form=false):m.err=1:=by unfold ec.err;rw [h,F,J];rfl
theorem JP {m:ec} (h:m.kinds=true) (F:m.many=false) (J:m.form=true):m.err=0:=by unfold ec.err;rw [h,F,J];rfl
theorem Cw (m:ec) (v:Value) (E:OA) (ah:Nat) (a0:OA) (ae:Nat) (a6:OA) (c3:Nat) (c:OA) (K:Nat) (w:World) (a7:gS w dQ m v E ah a0 ae a6 c3 c K) (a:kK m) :
 dw 112 #[v] w fun e G=>e = .returned (di m.err)/\dm w G:=by
 obtain rfl:=a7.val;have L:Hid (gS w dQ m (.agg #[.string m.name,.slice E m.uses.length ah,.slice a0 m.decls.length ae,.slice a6 m.procs.length c3,.slice c m.main.length K]) E ah a0 ae a6 c3 c K):=a7;have aX:=hid a;clear a7 a;have ag:Hid (dV (w.alloc (mC m E ah a0 ae a6 c3 c K)) w.heap.size [.string m.name,.slice E m.uses.length ah,.slice a0 m.decls.length ae,.slice a6 m.procs.length c3,.slice c m.main.length K]):=dV.new w _ _;go_enter func112,ntmps112;go_wp2_with fail;refine (JB _).mono ?_;rintro e dk ⟨d,rfl,aE,aq⟩;have aQ:=hid aE;have k:=ag.later aq;have bd:=dp (dn _ _) aq;clear ag aq aE;have ag:=hid k;obtain ⟨b0,bB,bH,bR,bN,mz⟩:=k.c5;clear k;go_wp2_with fail;refine (JA _).mono ?_;rintro e w2 ⟨t,rfl,H,aN⟩;have aU:=hid ((aQ.later aN).later (dn _ (.cells #[.map (some d),.map (some t)] 235)))
 have aM:=hid (H.later (dn _ (.cells #[.map (some d),.map (some t)] 235)));have k:=(ag.later aN).later (dn _ (.cells #[.map (some d),.map (some t)] 235));have g:=dV.new w2 #[.map (some d),.map (some t)] 235;have bs:=dp bd aN;have bI:=dp bs (dn _ (.cells #[.map (some d),.map (some t)] 235))
 have aZ:=(ag.later aN)
 clear ag aN H aQ bd b0 bB bH bR bN mz;obtain ⟨b0,bB,bH,bR,bN,mz⟩:=aZ.c5;have ag:=hid k;have D:=hid g;clear k g aZ;go_wp2_with fail;refine (JK d t m _ E ah a0 ae a6 c3 c K _ (L.later bI) aU aM aX).mono ?_;rintro e dC ⟨rfl,T⟩;have k:=ag.later T;have g:=D.later T;have ay:=aU.later T;have b1:=aM.later T;have bM:=dp bI T;clear ag D aU aM bs bI T b0 bB bH bR bN mz;obtain ⟨b0,bB,bH,bR,bN,mz⟩:=k.c5;obtain ⟨aH,az,b5⟩:=g.c2;have ag:=hid k;have D:=hid g;have aU:=hid ay;have aM:=hid b1;clear k g ay b1;go_wp2_with fail;refine (JL d t m _ E ah a0 ae a6 c3 c K _ (L.later bM) aU aM aX).mono ?_
 cases J:m.many with
 | true=>
   rintro e dD ⟨rfl,bc⟩;go_wp2_with fail;go_ret;exact ⟨ret_int (JN aX.kinds J).symm,dp bM bc⟩
 | false=>
 rintro e dD ⟨rfl,bc⟩;have k:=ag.later bc;have g:=D.later bc;have ay:=aU.later bc;have b1:=aM.later bc;have bL:=dp bM bc;clear ag D aU aM bM bc b0 bB bH bR bN mz aH az b5;obtain ⟨b0,bB,bH,bR,bN,mz⟩:=k.c5;obtain ⟨aH,az,b5⟩:=g.c2;have aU:=hid ay;have aM:=hid b1;clear k g ay b1;go_wp2_with fail;refine (JM d t m _ E ah a0 ae a6 c3 c K _ (L.later bL) aU aM aX).mono ?_
 cases U:m.form with
 | false=>
   rintro e dJ ⟨rfl,br⟩;go_wp2_with fail;go_ret;exact ⟨ret_int (JO aX.kinds J U).symm,dp bL br⟩
 | true=>
 rintro e dJ ⟨rfl,br⟩;go_wp2_with fail;go_ret;exact ⟨ret_int (JP aX.kinds J U).symm,dp bL br⟩
end Go.Proofs.YtndkhgakfodldaaGreatDoor

namespace Go.Proofs.YtndkhgakfodldaaGreatDoor
open Go.RowKit
abbrev xY:ByteArray:=⟨#[109,111,100,117,108,101]⟩
abbrev mS:ByteArray:=⟨#[117,115,101]⟩
abbrev ld:ByteArray:=⟨#[112,117,98]⟩
abbrev xZ:ByteArray:=⟨#[99,111,110,115,116]⟩
abbrev x0:ByteArray:=⟨#[118,97,114]⟩
abbrev x6:ByteArray:=⟨#[97,114,114,97,121]⟩
abbrev JQ:ByteArray:=⟨#[112,114,111,99]⟩
abbrev JR:ByteArray:=⟨#[108,111,99,97,108]⟩
abbrev x7:ByteArray:=⟨#[109,97,105,110]⟩
abbrev pI:ByteArray:=⟨#[105,102]⟩
abbrev r2:ByteArray:=⟨#[101,108,115,101]⟩
abbrev oK:ByteArray:=⟨#[119,104,105,108,101]⟩
abbrev oL:ByteArray:=⟨#[114,101,116,117,114,110]⟩
abbrev qI:ByteArray:=⟨#[111,117,116]⟩
abbrev vi:ByteArray:=⟨#[105,110]⟩
abbrev sa:ByteArray:=⟨#[123]⟩
abbrev oM:ByteArray:=⟨#[125]⟩
abbrev lf:ByteArray:=⟨#[40]⟩
abbrev mT:ByteArray:=⟨#[41]⟩
abbrev nH:ByteArray:=⟨#[91]⟩
abbrev oN:ByteArray:=⟨#[93]⟩
abbrev sb:ByteArray:=⟨#[44]⟩
abbrev nI:ByteArray:=⟨#[59]⟩
abbrev pJ:ByteArray:=⟨#[61]⟩
abbrev td:ByteArray:=⟨#[46]⟩
abbrev sd:ByteArray:=⟨#[33]⟩
def Cy:List (L8):=[[109,111,100,117,108,101],[117,115,101],[112,117,98],[99,111,110,115,116],[118,97,114],[97,114,114,97,121],[112,114,111,99],[108,111,99,97,108],[109,97,105,110],[105,102],[101,108,115,101],[119,104,105,108,101],[114,101,116,117,114,110],[111,117,116],[105,110]]
def kn:List ByteArray:=[⟨#[38]⟩,⟨#[124]⟩,⟨#[43]⟩,⟨#[45]⟩,⟨#[42]⟩,⟨#[47]⟩,⟨#[37]⟩,⟨#[61]⟩,⟨#[60]⟩]
def se (s:ByteArray):Bool:=Cy.any (fun k=>s.toList == k)
def j4:Tk:=⟨0,0,⟨#[]⟩⟩
def hd (l:List Tk):Tk:=l.getD 0 j4
def dG (l:List Tk) (t:ByteArray):Bool:=(hd l).text.toList == t.toList
def mi (l:List Tk) (d:List ByteArray):Option ByteArray:=d.find? (fun t=>dG l t)
def iw (l:List Tk):Option (ByteArray × List Tk):=if ((hd l).kind == 1 && !se (hd l).text)=true then some ((hd l).text,l.tail) else none
def pNum (l:List Tk):Option (Int × List Tk):=if (hd l).kind=2 then some ((hd l).n,l.tail) else none
def nJ (l:List Tk):Option ((ByteArray × ByteArray) × List Tk):=
 match iw l with
 | none=>none
 | some (a,P)=>if dG P td then (match iw P.tail with | none=>none | some (b,j)=>some ((a,b),j)) else some ((⟨#[]⟩,a),P)
def oO (l:List Tk):Option Nat:=kn.findIdx? (fun t=>dG l t)
mutual
def fW:Nat->List Tk->Option (eA × List Tk)
 | 0,_=>none
 | f+1,l=>
   if (hd l).kind=2 then some (.mk 1 (hd l).n ⟨#[]⟩ ⟨#[]⟩ [],l.tail)
   else if dG l vi then some (.mk 2 0 ⟨#[]⟩ ⟨#[]⟩ [],l.tail)
   else if dG l sd then (match fW f l.tail with | none=>none | some (x,P)=>some (.mk 6 0 ⟨#[]⟩ ⟨#[]⟩ [x],P))
   else if dG l lf then lg f l.tail
   else match nJ l with
    | none=>none
    | some ((m,n),P)=>
      if dG P nH then (match fW f P.tail with | none=>none | some (x,j)=>if dG j oN then some (.mk 4 0 m n [x],j.tail) else none)
      else if dG P lf then (match jH f P.tail with | none=>none | some (ao,j)=>some (.mk 5 0 m n ao,j))
      else some (.mk 3 0 m n [],P)
def lg:Nat->List Tk->Option (eA × List Tk)
 | 0,_=>none
 | f + 1,l=>
   match fW f l with
   | none=>none
   | some (a,P)=>match oO P with
     | none=>none
     | some k=>match fW f P.tail with
       | none=>none
       | some (b,j)=>if dG j mT then some (.mk (7+k) 0 ⟨#[]⟩ ⟨#[]⟩ [a,b],j.tail) else none
def jH:Nat->List Tk->Option (List eA × List Tk)
 | 0,_=>none
 | f+1,l=>
   if dG l mT then some ([],l.tail)
   else match fW f l with
    | none=>none
    | some (x,P)=>nK f [x] P
def nK:Nat->List eA->List Tk->Option (List eA × List Tk)
 | 0,_,_=>none
 | f+1,H,l=>
   if dG l sb then (match fW f l.tail with | none=>none | some (x,P)=>nK f (H++[x]) P)
   else if dG l mT then some (H,l.tail) else none
end
variable {l L:List Tk} {t:ByteArray}
theorem Cz (ax:0<t.size) (h:dG l t=true):l≠[]:=by
 rintro rfl;unfold dG at h
 have e:(hd ([]:List Tk)).text.toList=[]:=by rw [kj];rfl
 rw [e,kj] at h;have F:t.data.toList=[]:=(beq_iff_eq.1 h).symm;have J:=Lx.zbb t;rw [F] at J;simp at J;omega
theorem te (h:l≠[]):l.tail.length<l.length:=by cases l with | nil=>exact absurd rfl h | cons x r=>simp
theorem f9 (ax:0<t.size) (h:dG l t=true):l.tail.length<l.length:=te (Cz ax h)
theorem vj (h:(hd l).kind≠0):l≠[]:=by rintro rfl;exact h rfl
theorem vk {a:ByteArray} (h:iw l=some (a,L)):L.length<l.length:=by
 unfold iw at h
 split at h
 . rename_i N
   have f:(hd l).kind=1:=by
    simp only [dO,beq_iff_eq] at N;exact N.1
   obtain ⟨_,rfl⟩:=g0 (eX h);exact te (vj (by rw [f];decide))
 . cases h
theorem x8 {a:ByteArray × ByteArray} (h:nJ l=some (a,L)):L.length<l.length:=by
 unfold nJ at h
 split at h
 . cases h
 . rename_i E P F
   have:=vk F
   split at h
   . rename_i a8
     have:=f9 N9 a8
     split at h
     . cases h
     . rename_i b j J
       have:=vk J;exact R5
   . obtain ⟨_,rfl⟩:=g0 (eX h)
     omega
theorem CA {k:Nat} (h:oO l=some k):l≠[]:=by
 unfold oO at h;obtain ⟨N,J,_⟩:=uN.1 h
 have:0<(kn[k]).size:=by
  have:∀ x ∈ kn,0<x.size:=N9
  exact this _ (eb N)
 exact Cz this J
mutual
theorem oP:∀ (f:Nat) (l L:List Tk) (x:eA),fW f l=some (x,L)->L.length<l.length
 | 0,_,_,_,h=>by simp [fW] at h
 | f + 1,l,L,x,h=>by
   unfold fW at h
   split at h
   . rename_i N
     obtain ⟨_,rfl⟩:=g0 (eX h);exact te (vj (by rw [N];decide))
   split at h
   . rename_i a8
     obtain ⟨_,rfl⟩:=g0 (eX h);exact f9 N9 a8
   split at h
   . rename_i a8
     have:=f9 N9 a8
     split at h
     . cases h
     . rename_i a3 P F
       have:=oP f _ _ _ F;obtain ⟨_,rfl⟩:=g0 (eX h);omega
   split at h
   . rename_i a8
     have:=f9 N9 a8;have:=JS f _ _ _ h;omega
   split at h
   . cases h
   . rename_i m n P F
     have:=x8 F
     split at h
     . rename_i a8
       have:=f9 N9 a8
       split at h
       . cases h
       . rename_i a3 j J
         have:=oP f _ _ _ J
         split at h
         . rename_i r
           have:=f9 N9 r;obtain ⟨_,rfl⟩:=g0 (eX h);omega
         . cases h
     split at h
     . rename_i a8
       have:=f9 N9 a8
       split at h
       . cases h
       . rename_i a3 j J
         have:=CB f _ _ _ J;obtain ⟨_,rfl⟩:=g0 (eX h);omega
     . obtain ⟨_,rfl⟩:=g0 (eX h)
       omega
theorem JS:∀ (f:Nat) (l L:List Tk) (x:eA),lg f l=some (x,L)->L.length<l.length
 | 0,_,_,_,h=>by simp [lg] at h
 | f + 1,l,L,x,h=>by
   unfold lg at h
   split at h
   . cases h
   . rename_i a P F
     have:=oP f _ _ _ F
     split at h
     . cases h
     . rename_i k N
       have:=te (CA N)
       split at h
       . cases h
       . rename_i b j J
         have:=oP f _ _ _ J
         split at h
         . rename_i r
           have:=f9 N9 r;obtain ⟨_,rfl⟩:=g0 (eX h);omega
         . cases h
theorem CB:∀ (f:Nat) (l L:List Tk) (x:List eA),jH f l=some (x,L)->L.length<l.length
 | 0,_,_,_,h=>by simp [jH] at h
 | f + 1,l,L,x,h=>by
   unfold jH at h
   split at h
   . rename_i a8
     obtain ⟨_,rfl⟩:=g0 (eX h);exact f9 N9 a8
   split at h
   . cases h
   . rename_i a3 P F
     have:=oP f _ _ _ F;have:=CC f _ _ _ _ h;omega
theorem CC:∀ (f:Nat) (H:List eA) (l L:List Tk) (x:List eA),nK f H l=some (x,L)->L.length<l.length
 | 0,_,_,_,_,h=>by simp [nK] at h
 | f + 1,H,l,L,x,h=>by
   unfold nK at h
   split at h
   . rename_i a8
     have:=f9 N9 a8
     split at h
     . cases h
     . rename_i a3 P F
       have:=oP f _ _ _ F;have:=CC f _ _ _ _ h;omega
   split at h
   . rename_i a8
     obtain ⟨_,rfl⟩:=g0 (eX h);exact f9 N9 a8
   . cases h
end
variable {l L:List Tk}
def pX (l:List Tk):Option (eA × List Tk):=fW (3*l.length+8) l
def vm (l:List Tk):Option (List eA × List Tk):=jH (3*l.length+8) l
theorem pK {x:eA} (h:pX l=some (x,L)):L.length<l.length:=oP _ _ _ _ h
theorem JT {x:List eA} (h:vm l=some (x,L)):L.length<l.length:=CB _ _ _ _ h
def hM (l:List Tk):Option (St × List Tk):=
 match nJ l with
 | none=>none
 | some ((m,n),P)=>
   if dG P pJ then (match pX P.tail with | none=>none | some (x,j)=>some (.mk 1 m n [x] [] [],j))
   else if dG P nH then (match pX P.tail with
    | none=>none
    | some (x,j)=>if dG j oN then (if dG j.tail pJ then (match pX j.tail.tail with | none=>none | some (a3,D)=>some (.mk 2 m n [x,a3] [] [],D)) else none) else none)
   else if dG P lf then (match vm P.tail with | none=>none | some (ao,j)=>some (.mk 3 m n ao [] [],j))
   else none
def mU (r:Option (St × List Tk)):Option (St × List Tk):=match r with | none=>none | some (s,l)=>if dG l nI then some (s,l.tail) else none
mutual
def jr:Nat->List Tk->Option (St × List Tk)
 | 0,_=>none
 | f+1,l=>
   if dG l pI then (match pX l.tail with
    | none=>none
    | some (x,P)=>match iE f P with
      | none=>none
      | some (b,j)=>if dG j r2 then (match iE f j.tail with | none=>none | some (o,D)=>if o.length=0 then none else some (.mk 4 ⟨#[]⟩ ⟨#[]⟩ [x] b o,D))
        else some (.mk 4 ⟨#[]⟩ ⟨#[]⟩ [x] b [],j))
   else if dG l oK then (match pX l.tail with
    | none=>none
    | some (x,P)=>match iE f P with | none=>none | some (b,j)=>some (.mk 5 ⟨#[]⟩ ⟨#[]⟩ [x] b [],j))
   else if dG l oL then mU (match pX l.tail with | none=>none | some (x,P)=>some (.mk 6 ⟨#[]⟩ ⟨#[]⟩ [x] [] [],P))
   else if dG l qI then mU (match pX l.tail with | none=>none | some (x,P)=>some (.mk 7 ⟨#[]⟩ ⟨#[]⟩ [x] [] [],P))
   else mU (hM l)
def iE:Nat->List Tk->Option (List St × List Tk)
 | 0,_=>none
 | f+1,l=>if dG l sa then mj f [] l.tail else none
def mj:Nat->List St->List Tk->Option (List St × List Tk)
 | 0,_,_=>none
 | f+1,H,l=>
   if dG l oM then some (H,l.tail)
   else match jr f l with | none=>none | some (s,P)=>mj f (H++[s]) P
end
structure ko (ts:List Tk):Prop where
 no:∀ k,dG (ts.drop k) sd=false
 co:∀ k,dG (ts.drop k) sb=false
 wh:∀ k,dG (ts.drop k) oK=false
 re:∀ k,dG (ts.drop k) oL=false
end Go.Proofs.YtndkhgakfodldaaGreatDoor
