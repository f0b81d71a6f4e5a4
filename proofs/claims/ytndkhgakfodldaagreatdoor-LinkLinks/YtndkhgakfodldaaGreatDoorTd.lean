import Derived.Test.YtndkhgakfodldaaGreatDoorLeafc
import Derived.Deep.AppendLies
set_option maxRecDepth 100000
set_option maxHeartbeats 3200000
open Go.Proofs.Tryz
namespace Go.Proofs.YtndkhgakfodldaaGreatDoor
open Go.RowKit
inductive D where
 | int (n:Int)
 | str (s:ByteArray)
 | bool (b:Bool)
 | list (n:Nat) (ds:List D)
def pp (w:World) (b C:Nat) (l:List Value):Prop:=∀ j u,l[j]? = some u->w.cell? ⟨b,C+j,none⟩=some u
mutual
def fT (w:World) (A:Nat->Prop):D->Value->Prop
 | .int n,v=>v = .int .i64 n/\(Lit.int .i64 n).wf=true
 | .str s,v=>v = .string s/\s.size<=maxLen
 | .bool b,v=>v = .bool b
 | .list n y,v=>∃ a I,v = .slice a n I/\n<=y.length/\y.length<=17592186044416/\(n=0\/∃ b C cs,a=some ⟨b,C,none⟩/\A b/\b<w.heap.size/\pp w b C cs/\fB w A y cs)
def fB (w:World) (A:Nat->Prop):List D->List Value->Prop
 | [],cs=>cs=[]
 | o :: y,cs=>∃ v O,cs=v :: O/\fT w A o v/\fB w A y O
end
variable {A q:Nat->Prop} {b K lo' C:Nat} {w r:World}
def jV (K:Nat) (w r:World):Prop:=w.heap.size<=r.heap.size/\∀ k,K<=k->k<w.heap.size->r.heap[k]? = w.heap[k]?
theorem jV.refl (K:Nat) (w:World):jV K w w:=⟨eD _,fun _ _ _=>rfl⟩
theorem jV.trans {a b c:World} (h:jV K a b) (k:jV K b c):jV K a c:=
 ⟨iC h.1 k.1,fun i G J=>(k.2 i G (gl J h.1)).trans (h.2 i G J)⟩
theorem jV.mono (h:jV K w r) (a2:K<=lo'):jV lo' w r:=⟨h.1,fun k G J=>h.2 k (iC a2 G) J⟩
theorem jV.of_below (h:et w r) (K:Nat):jV K w r:=⟨h.size,fun k _ J=>h.block k J⟩
theorem jV.cell (h:jV K w r) (G:K<=b) (J:b<w.heap.size):r.cell? (ep b C)=w.cell? (ep b C):=
 md (w:=w) (h.2 b G J)
theorem jV.alloc (h:jV K w r) (o:Obj):jV K w (r.alloc o):=
 h.trans (jV.of_below ((Below.refl r.heap.size r).alloc (eD _) o) K)
def eQ (w:World) (A:Nat->Prop) (r:World) (q:Nat->Prop):Prop:=w.heap.size<=r.heap.size/\∀ b,b<w.heap.size->A b->q b/\r.heap[b]? = w.heap[b]?
theorem eQ.refl (w:World) (A:Nat->Prop):eQ w A w A:=⟨eD _,fun _ _ h=>⟨h,rfl⟩⟩
theorem eQ.trans {eq w2 eC:World} {a c d:Nat->Prop} (h:eQ eq a w2 c) (k:eQ w2 c eC d):eQ eq a eC d:=
 ⟨iC h.1 k.1,fun b F ab=>⟨(k.2 b (gl F h.1) (h.2 b F ab).1).1,(k.2 b (gl F h.1) (h.2 b F ab).1).2.trans (h.2 b F ab).2⟩⟩
theorem eQ.of_below (h:et w r) (A:Nat->Prop):eQ w A r A:=⟨h.size,fun b F ab=>⟨ab,h.block b F⟩⟩
theorem eQ.alloc (h:eQ w A r q) (o:Obj):eQ w A (r.alloc o) q:=h.trans (eQ.of_below ((Below.refl r.heap.size r).alloc (eD _) o) q)
theorem eQ.lower (h:lo'<=K):eQ w (K<=·) w (lo'<=·):=⟨eD _,fun _ _ ab=>⟨iC h ab,rfl⟩⟩
theorem pp.moves {l:List Value} (h:pp w b C l) (Z:eQ w A r q) (G:A b) (J:b<w.heap.size):pp r b C l:=
 fun j u ac=>(md (w:=w) (Z.2 b J G).2).trans (h j u ac)
mutual
theorem fT.moves (Z:eQ w A r q):∀ (o:D) (v:Value),fT w A o v->fT r q o v
 | .int _,_,h=>h
 | .str _,_,h=>h
 | .bool _,_,h=>h
 | .list n y,v,h=>by
   unfold fT at h ⊢;obtain ⟨a,I,G,J,S,a6⟩:=h;refine ⟨a,I,G,J,S,?_⟩
   rcases a6 with a6 | ⟨b,C,cs,ab,a2,F,a1,Q⟩
   . exact Or.inl a6
   . exact Or.inr ⟨b,C,cs,ab,(Z.2 b F a2).1,gl F Z.1,a1.moves Z a2 F,fB.moves Z y cs Q⟩
theorem fB.moves (Z:eQ w A r q):∀ (l:List D) (cs:List Value),fB w A l cs->fB r q l cs
 | [],_,h=>h
 | o :: y,cs,h=>by
   unfold fB at h ⊢;obtain ⟨v,O,G,J,S⟩:=h;exact ⟨v,O,G,fT.moves Z o v J,fB.moves Z y O S⟩
end
variable {A K:Nat->Prop} {a:OA} {b:Bool} {I:Nat} {cs:List Value} {s:ByteArray} {v:Value} {w r:World}
theorem fT.one:∀ {o:D} {v:Value},fT w K o v->v.oneCell'=true
 | .int _,_,h=>by unfold fT at h;rw [h.1];rfl
 | .str _,_,h=>by unfold fT at h;rw [h.1];rfl
 | .bool _,_,h=>by unfold fT at h;rw [h];rfl
 | .list _ _,_,h=>by unfold fT at h;obtain ⟨a,I,h,_⟩:=h;rw [h];rfl
theorem fB.one:∀ {l:List D} {cs:List Value},fB w K l cs->∀ u ∈ cs,u.oneCell'=true
 | [],_,h=>by unfold fB at h;rw [h];intro u aI;cases aI
 | o :: y,cs,h=>by
   unfold fB at h;obtain ⟨v,O,rfl,J,S⟩:=h;intro u aI
   rcases lM.1 aI with rfl | aI
   . exact J.one
   . exact fB.one S u aI
theorem fB.len:∀ {l:List D} {cs:List Value},fB w K l cs->cs.length=l.length
 | [],_,h=>by unfold fB at h;rw [h];rfl
 | o :: y,cs,h=>by
   unfold fB at h;obtain ⟨v,O,rfl,J,S⟩:=h;simp [fB.len S]
theorem fB.nil:fB w K [] []:=by unfold fB;rfl
theorem fB.cons {d:D} {ds:List D} (h:fT w K d v) (k:fB w K ds cs):fB w K (d :: ds) (v :: cs):=by
 unfold fB;exact ⟨v,cs,rfl,h,k⟩
theorem fB.append:∀ {l m:List D} {cs t:List Value},fB w K l cs->fB w K m t->fB w K (l++m) (cs++t)
 | [],m,cs,t,h,k=>by unfold fB at h;subst h;exact k
 | o :: y,m,cs,t,h,k=>by
   unfold fB at h;obtain ⟨v,O,rfl,J,S⟩:=h;exact fB.cons J (fB.append S k)
theorem fB.get:∀ {l:List D} {cs:List Value},fB w K l cs->∀ (j:Nat) (o:D),l[j]? = some o->∃ v,cs[j]? = some v/\fT w K o v
 | [],_,_,j,o,ac=>by simp at ac
 | e :: y,cs,h,j,o,ac=>by
   unfold fB at h;obtain ⟨v,O,rfl,J,S⟩:=h
   cases j with
   | zero=>simp at ac;subst ac;exact ⟨v,rfl,J⟩
   | succ j=>simpa using fB.get S j o (by simpa using ac)
theorem f8 {n:Int} (h:(Lit.int .i64 n).wf=true):fT w K (.int n) (em n):=by unfold fT;exact ⟨rfl,h⟩
theorem gy (h:s.size<=maxLen):fT w K (.str s) (.string s):=by unfold fT;exact ⟨rfl,h⟩
theorem uj:fT w K (.bool b) (.bool b):=by unfold fT;rfl
theorem jW:fT w K (.list 0 []) (.slice a 0 I):=by unfold fT;exact ⟨a,I,rfl,eD _,by simp,Or.inl rfl⟩
theorem GL {n b C:Nat} {ds:List D} (G:n<=ds.length) (J:ds.length<=17592186044416) (a2:K b) (F:b<w.heap.size) (a1:pp w b C cs) (Q:fB w K ds cs):fT w K (.list n ds) (.slice (some (ep b C)) n I):=by
 unfold fT;exact ⟨_,I,rfl,G,J,Or.inr ⟨b,C,cs,rfl,a2,F,a1,Q⟩⟩
theorem hw {n:Int} (h:fT w K (.int n) v):v=em n/\(Lit.int .i64 n).wf=true:=by unfold fT at h;exact h
theorem lj (h:fT w K (.str s) v):v = .string s/\s.size<=maxLen:=by unfold fT at h;exact h
theorem AF (h:fT w K (.bool b) v):v = .bool b:=by unfold fT at h;exact h
def eE (w:World) (K:Nat->Prop) (a:OA) (n:Nat) (ds:List D):Prop:=n<=ds.length/\ds.length<=17592186044416/\(n=0\/∃ b C cs,a=some (ep b C)/\K b/\b<w.heap.size/\pp w b C cs/\fB w K ds cs)
theorem hY {n:Nat} {ds:List D} (h:fT w K (.list n ds) v):∃ a I,v = .slice a n I/\eE w K a n ds:=by unfold fT at h;exact h
theorem eE.val {n:Nat} {ds:List D} (h:eE w K a n ds):fT w K (.list n ds) (.slice a n I):=by unfold fT;exact ⟨a,I,rfl,h⟩
theorem eE.moves {q:Nat->Prop} {n:Nat} {ds:List D} (h:eE w A a n ds) (Z:eQ w A r q):eE r q a n ds:=by
 obtain ⟨G,J,S⟩:=h;refine ⟨G,J,?_⟩
 rcases S with a6 | ⟨b,C,cs,ab,a2,F,a1,Q⟩
 . exact Or.inl a6
 . exact Or.inr ⟨b,C,cs,ab,(Z.2 b F a2).1,gl F Z.1,a1.moves Z a2 F,fB.moves Z ds cs Q⟩
theorem eE.later {n:Nat} {ds:List D} (h:eE w A a n ds) (F:et w r):eE r A a n ds:=h.moves (eQ.of_below F A)
theorem eE.bound {n:Nat} {ds:List D} (h:eE w A a n ds):n<=17592186044416:=iC h.1 h.2.1
theorem eE.cell {n:Nat} {ds:List D} (h:eE w A a n ds) (U:0<n):∃ b C,a=some (ep b C)/\b<w.heap.size/\∀ (j:Nat) (o:D),ds[j]? = some o->∃ v,w.cell? ⟨b,C+j,none⟩=some v/\fT w A o v:=by
 rcases h.2.2 with a3 | ⟨b,C,cs,ab,_,F,a1,Q⟩
 . omega
 . refine ⟨b,C,ab,F,fun j o ac=>?_⟩
   obtain ⟨v,a7,ez⟩:=Q.get j o ac;exact ⟨v,a1 j v a7,ez⟩
inductive fg where
 | mk (op n:Int) (mod name:ByteArray) (args:List fg)
def fg.op:fg->Int | .mk p _ _ _ _=>p
def fg.n:fg->Int | .mk _ n _ _ _=>n
def fg.mod:fg->ByteArray | .mk _ _ m _ _=>m
def fg.name:fg->ByteArray | .mk _ _ _ m _=>m
def fg.args:fg->List fg | .mk _ _ _ _ l=>l
inductive St where
 | mk (op:Int) (mod name:ByteArray) (args:List fg) (body other:List St)
def St.op:St->Int | .mk p _ _ _ _ _=>p
def St.mod:St->ByteArray | .mk _ m _ _ _ _=>m
def St.name:St->ByteArray | .mk _ _ m _ _ _=>m
def St.args:St->List fg | .mk _ _ _ l _ _=>l
def St.body:St->List St | .mk _ _ _ _ l _=>l
def St.other:St->List St | .mk _ _ _ _ _ l=>l
mutual
def fg.ds:fg->List D
 | .mk p n s u d=>[.int p,.int n,.str s,.str u,.list d.length (ft d)]
def ft:List fg->List D
 | []=>[]
 | q :: O=>q.ds++ft O
end
mutual
def St.ds:St->List D
 | .mk p s u d U N=>[.int p,.str s,.str u,.list d.length (ft d),.list U.length (fw U),.list N.length (fw N)]
def fw:List St->List D
 | []=>[]
 | q :: O=>q.ds++fw O
end
variable {A:Nat->Prop} {a:OA} {w:World}
theorem fg.ds_len (x:fg):x.ds.length=5:=by cases x;unfold fg.ds;rfl
theorem St.ds_len (x:St):x.ds.length=6:=by cases x;unfold St.ds;rfl
theorem xd:∀ (l m:List fg),ft (l++m)=ft l++ft m
 | [],m=>by simp [ft]
 | q :: O,m=>by simp [ft,xd O m]
theorem xe:∀ (l m:List St),fw (l++m)=fw l++fw m
 | [],m=>by simp [fw]
 | q :: O,m=>by simp [fw,xe O m]
theorem uk (x:fg):ft [x]=x.ds:=by simp [ft]
theorem AG (x:St):fw [x]=x.ds:=by simp [fw]
theorem AH:∀ (l:List fg) (i:Nat) (h:i<l.length) (j:Nat),j<5->(ft l)[i*5+j]? = (l[i].ds)[j]?
 | [],i,h,_,_=>by simp at h
 | q :: O,0,_,j,ac=>by
   have:=q.ds_len;simp only [ft,oo];rw [mR (by omega),jq,hv]
 | q :: O,i+1,h,j,ac=>by
   have:=q.ds_len;simp only [ft,pl];rw [om (by omega),show (i+1)*5+j - q.ds.length=i*5+j from by omega];exact AH O i (by simpa using h) j ac
theorem AJ:∀ (l:List St) (i:Nat) (h:i<l.length) (j:Nat),j<6->(fw l)[i*6+j]? = (l[i].ds)[j]?
 | [],i,h,_,_=>by simp at h
 | q :: O,0,_,j,ac=>by
   have:=q.ds_len;simp only [fw,oo];rw [mR (by omega),jq,hv]
 | q :: O,i+1,h,j,ac=>by
   have:=q.ds_len;simp only [fw,pl];rw [om (by omega),show (i+1)*6+j - q.ds.length=i*6+j from by omega];exact AJ O i (by simpa using h) j ac
structure AK (w:World) (A:Nat->Prop) (b o:Nat) (x:fg) (aa:OA) (cap:Nat):Prop where
 lt:b<w.heap.size
 c0:w.cell? (ep b o)=some (em x.op)
 c1:w.cell? ⟨b,o+1,none⟩=some (em x.n)
 c2:w.cell? ⟨b,o+2,none⟩=some (.string x.mod)
 c3:w.cell? ⟨b,o+3,none⟩=some (.string x.name)
 c4:w.cell? ⟨b,o+4,none⟩=some (.slice aa x.args.length cap)
 args:eE w A aa x.args.length (ft x.args)
 wop:(Lit.int .i64 x.op).wf=true
 wn:(Lit.int .i64 x.n).wf=true
 wm:x.mod.size<=maxLen
 wna:x.name.size<=maxLen
structure ul (w:World) (A:Nat->Prop) (b o:Nat) (x:St) (a1:OA) (c1':Nat) (a2:OA) (c2':Nat) (a3:OA) (c3':Nat):Prop where
 lt:b<w.heap.size
 c0:w.cell? (ep b o)=some (em x.op)
 c1:w.cell? ⟨b,o+1,none⟩=some (.string x.mod)
 c2:w.cell? ⟨b,o+2,none⟩=some (.string x.name)
 c3:w.cell? ⟨b,o+3,none⟩=some (.slice a1 x.args.length c1')
 c4:w.cell? ⟨b,o+4,none⟩=some (.slice a2 x.body.length c2')
 c5:w.cell? ⟨b,o+5,none⟩=some (.slice a3 x.other.length c3')
 args:eE w A a1 x.args.length (ft x.args)
 body:eE w A a2 x.body.length (fw x.body)
 other:eE w A a3 x.other.length (fw x.other)
 wop:(Lit.int .i64 x.op).wf=true
 wm:x.mod.size<=maxLen
 wna:x.name.size<=maxLen
theorem eE.ex {l:List fg} (h:eE w A a l.length (ft l)) (i:Nat) (X:i<l.length):∃ b C t I,a=some (ep b C)/\AK w A b (C+i*5) l[i] t I:=by
 obtain ⟨b,C,ab,F,a1⟩:=h.cell (by omega);generalize Q:l[i]=q;obtain ⟨p,n,s,u,d⟩:=q
 have g:∀ j o,j<5->(fg.mk p n s u d).ds[j]? = some o->∃ v,w.cell? ⟨b,C+i*5+j,none⟩=some v/\fT w A o v:=fun j o ac ez=>by
  rw [kd];exact a1 (i*5+j) o ((AH l i X j ac).trans (by rw [Q];exact ez))
 obtain ⟨Z,ag,b5⟩:=g 0 (.int p) (by omega) (by simp [fg.ds]);obtain ⟨aK,ak,aL⟩:=g 1 (.int n) (by omega) (by simp [fg.ds]);obtain ⟨aN,au,aU⟩:=g 2 (.str s) (by omega) (by simp [fg.ds]);obtain ⟨aY,aI,bd⟩:=g 3 (.str u) (by omega) (by simp [fg.ds]);obtain ⟨be,bq,z⟩:=g 4 (.list d.length (ft d)) (by omega) (by simp [fg.ds]);obtain ⟨rfl,w0⟩:=hw b5;obtain ⟨rfl,eq⟩:=hw aL;obtain ⟨rfl,w2⟩:=lj aU;obtain ⟨rfl,eC⟩:=lj bd;obtain ⟨t,I,rfl,aT⟩:=hY z;exact ⟨b,C,t,I,ab,F,ag,ak,au,aI,bq,aT,w0,eq,w2,eC⟩
theorem eE.st {l:List St} (h:eE w A a l.length (fw l)) (i:Nat) (X:i<l.length):∃ b C Y a9 a5 a4 a7 c3,a=some (ep b C)/\ul w A b (C+i*6) l[i] Y a9 a5 a4 a7 c3:=by
 obtain ⟨b,C,ab,F,a1⟩:=h.cell (by omega);generalize Q:l[i]=q;obtain ⟨p,s,u,d,U,N⟩:=q
 have g:∀ j o,j<6->(St.mk p s u d U N).ds[j]? = some o->∃ v,w.cell? ⟨b,C+i*6+j,none⟩=some v/\fT w A o v:=fun j o ac ez=>by
  rw [kd];exact a1 (i*6+j) o ((AJ l i X j ac).trans (by rw [Q];exact ez))
 obtain ⟨Z,ag,b5⟩:=g 0 (.int p) (by omega) (by simp [St.ds]);obtain ⟨aK,ak,aL⟩:=g 1 (.str s) (by omega) (by simp [St.ds]);obtain ⟨aN,au,aU⟩:=g 2 (.str u) (by omega) (by simp [St.ds]);obtain ⟨aY,aI,bd⟩:=g 3 (.list d.length (ft d)) (by omega) (by simp [St.ds]);obtain ⟨be,bq,z⟩:=g 4 (.list U.length (fw U)) (by omega) (by simp [St.ds]);obtain ⟨P,c9,c0⟩:=g 5 (.list N.length (fw N)) (by omega) (by simp [St.ds]);obtain ⟨rfl,w0⟩:=hw b5;obtain ⟨rfl,eq⟩:=lj aL;obtain ⟨rfl,w2⟩:=lj aU;obtain ⟨Y,a9,rfl,G⟩:=hY bd;obtain ⟨a5,a4,rfl,J⟩:=hY z;obtain ⟨a7,c3,rfl,S⟩:=hY c0;exact ⟨b,C,Y,a9,a5,a4,a7,c3,ab,F,ag,ak,au,aI,bq,c9,G,J,S,w0,eq,w2⟩
structure ge where
 kind:Int
 name:ByteArray
 pub:Bool
 n:Int
structure fH where
 name:ByteArray
 pub:Bool
 params:List ByteArray
 locals:List ByteArray
 body:List St
structure fh where
 name:ByteArray
 uses:List ByteArray
 decls:List ge
 procs:List fH
 main:List St
def ge.ds (d:ge):List D:=[.int d.kind,.str d.name,.bool d.pub,.int d.n]
def fj (l:List ByteArray):List D:=l.map .str
def fH.ds (p:fH):List D:=[.str p.name,.bool p.pub,.list p.params.length (fj p.params),.list p.locals.length (fj p.locals),.list p.body.length (fw p.body)]
def fh.ds (m:fh):List D:=[.str m.name,.list m.uses.length (fj m.uses),.list m.decls.length (m.decls.flatMap ge.ds),.list m.procs.length (m.procs.flatMap fH.ds),.list m.main.length (fw m.main)]
def hK (l:List fH):List D:=l.flatMap fH.ds
def iD (l:List ge):List D:=l.flatMap ge.ds
def GM (l:List fh):List D:=l.flatMap fh.ds
theorem mw {α:Type} (f:α->List D) (k:Nat) (ag:∀ q,(f q).length=k):∀ (l:List α) (i:Nat) (h:i<l.length) (j:Nat),j<k->(l.flatMap f)[i*k+j]? = (f l[i])[j]?
 | [],i,h,_,_=>by simp at h
 | q :: O,0,_,j,ac=>by
   have:=ag q;simp only [lh,oo];rw [mR (by omega),jq,hv]
 | q :: O,i+1,h,j,ac=>by
   have:=ag q;have e:(i+1)*k=i*k+k:=Nat.succ_mul i k;simp only [lh,pl];rw [om (by omega),show (i+1)*k+j - (f q).length=i*k+j from by omega];exact mw f k ag O i (by simpa using h) j ac
structure GN (w:World) (b o:Nat) (x:ge):Prop where
 lt:b<w.heap.size
 c0:w.cell? (ep b o)=some (em x.kind)
 c1:w.cell? ⟨b,o+1,none⟩=some (.string x.name)
 c2:w.cell? ⟨b,o+2,none⟩=some (.bool x.pub)
 c3:w.cell? ⟨b,o+3,none⟩=some (em x.n)
 wk:(Lit.int .i64 x.kind).wf=true
 wn:(Lit.int .i64 x.n).wf=true
 wna:x.name.size<=maxLen
structure AL (w:World) (A:Nat->Prop) (b o:Nat) (x:fH) (a1:OA) (c1':Nat) (a2:OA) (c2':Nat) (a3:OA) (c3':Nat):Prop where
 lt:b<w.heap.size
 c0:w.cell? (ep b o)=some (.string x.name)
 c1:w.cell? ⟨b,o+1,none⟩=some (.bool x.pub)
 c2:w.cell? ⟨b,o+2,none⟩=some (.slice a1 x.params.length c1')
 c3:w.cell? ⟨b,o+3,none⟩=some (.slice a2 x.locals.length c2')
 c4:w.cell? ⟨b,o+4,none⟩=some (.slice a3 x.body.length c3')
 params:eE w A a1 x.params.length (fj x.params)
 locals:eE w A a2 x.locals.length (fj x.locals)
 body:eE w A a3 x.body.length (fw x.body)
 wna:x.name.size<=maxLen
structure hm (w:World) (A:Nat->Prop) (m:fh) (v:Value) (a1:OA) (c1:Nat) (a2:OA) (c2:Nat) (a3:OA) (c3:Nat) (a4:OA) (c4:Nat):Prop where
 val:v = .agg #[.string m.name,.slice a1 m.uses.length c1,.slice a2 m.decls.length c2,.slice a3 m.procs.length c3,.slice a4 m.main.length c4]
 wna:m.name.size<=maxLen
 uses:eE w A a1 m.uses.length (fj m.uses)
 decls:eE w A a2 m.decls.length (iD m.decls)
 procs:eE w A a3 m.procs.length (hK m.procs)
 main:eE w A a4 m.main.length (fw m.main)
theorem hm.later {r:World} {m:fh} {v:Value} {Y a5 a7 ay:OA} {a9 a4 c3 am:Nat} (h:hm w A m v Y a9 a5 a4 a7 c3 ay am) (F:et w r):hm r A m v Y a9 a5 a4 a7 c3 ay am:=
 ⟨h.val,h.wna,h.uses.later F,h.decls.later F,h.procs.later F,h.main.later F⟩
theorem eE.str {l:List ByteArray} (h:eE w A a l.length (fj l)) (i:Nat) (X:i<l.length):∃ b C,a=some (ep b C)/\b<w.heap.size/\w.cell? ⟨b,C+i,none⟩=some (.string l[i])/\l[i].size<=maxLen:=by
 obtain ⟨b,C,ab,F,a1⟩:=h.cell (by omega);obtain ⟨v,a7,ez⟩:=a1 i (.str l[i]) (by simp [fj,X]);obtain ⟨rfl,J⟩:=lj ez;exact ⟨b,C,ab,F,a7,J⟩
theorem eE.de {l:List ge} (h:eE w A a l.length (iD l)) (i:Nat) (X:i<l.length):∃ b C,a=some (ep b C)/\GN w b (C+i*4) l[i]:=by
 obtain ⟨b,C,ab,F,a1⟩:=h.cell (by omega);generalize Q:l[i]=q;obtain ⟨y,u,pub,n⟩:=q
 have g:∀ j o,j<4->(ge.mk y u pub n).ds[j]? = some o->∃ v,w.cell? ⟨b,C+i*4+j,none⟩=some v/\fT w A o v:=fun j o ac ez=>by
  rw [kd];exact a1 (i*4+j) o ((mw ge.ds 4 (fun _=>rfl) l i X j ac).trans (by rw [Q];exact ez))
 obtain ⟨Z,ag,b5⟩:=g 0 (.int y) (by omega) (by simp [ge.ds]);obtain ⟨aK,ak,aL⟩:=g 1 (.str u) (by omega) (by simp [ge.ds]);obtain ⟨aN,au,aU⟩:=g 2 (.bool pub) (by omega) (by simp [ge.ds]);obtain ⟨aY,aI,bd⟩:=g 3 (.int n) (by omega) (by simp [ge.ds]);obtain ⟨rfl,w0⟩:=hw b5;obtain ⟨rfl,eq⟩:=lj aL;obtain rfl:=AF aU;obtain ⟨rfl,eC⟩:=hw bd;exact ⟨b,C,ab,F,ag,ak,au,aI,w0,eC,eq⟩
theorem eE.pr {l:List fH} (h:eE w A a l.length (hK l)) (i:Nat) (X:i<l.length):∃ b C Y a9 a5 a4 a7 c3,a=some (ep b C)/\AL w A b (C+i*5) l[i] Y a9 a5 a4 a7 c3:=by
 obtain ⟨b,C,ab,F,a1⟩:=h.cell (by omega);generalize Q:l[i]=q;obtain ⟨u,pub,c,d,U⟩:=q
 have g:∀ j o,j<5->(fH.mk u pub c d U).ds[j]? = some o->∃ v,w.cell? ⟨b,C+i*5+j,none⟩=some v/\fT w A o v:=fun j o ac ez=>by
  rw [kd];exact a1 (i*5+j) o ((mw fH.ds 5 (fun _=>rfl) l i X j ac).trans (by rw [Q];exact ez))
 obtain ⟨Z,ag,b5⟩:=g 0 (.str u) (by omega) (by simp [fH.ds]);obtain ⟨aK,ak,aL⟩:=g 1 (.bool pub) (by omega) (by simp [fH.ds]);obtain ⟨aN,au,aU⟩:=g 2 (.list c.length (fj c)) (by omega) (by simp [fH.ds]);obtain ⟨aY,aI,bd⟩:=g 3 (.list d.length (fj d)) (by omega) (by simp [fH.ds]);obtain ⟨be,bq,z⟩:=g 4 (.list U.length (fw U)) (by omega) (by simp [fH.ds]);obtain ⟨rfl,w0⟩:=lj b5;obtain rfl:=AF aL;obtain ⟨Y,a9,rfl,G⟩:=hY aU;obtain ⟨a5,a4,rfl,J⟩:=hY bd;obtain ⟨a7,c3,rfl,S⟩:=hY z;exact ⟨b,C,Y,a9,a5,a4,a7,c3,ab,F,ag,ak,au,aI,bq,G,J,S,w0⟩
theorem eE.mo {l:List fh} (h:eE w A a l.length (GM l)) (i:Nat) (X:i<l.length):∃ b C v Y a9 a5 a4 a7 c3 ay am,a=some (ep b C)/\b<w.heap.size/\hm w A l[i] v Y a9 a5 a4 a7 c3 ay am/\
 w.cell? ⟨b,C+i*5,none⟩=some (.string l[i].name)/\w.cell? ⟨b,C+i*5+1,none⟩=some (.slice Y l[i].uses.length a9)/\w.cell? ⟨b,C+i*5+2,none⟩=some (.slice a5 l[i].decls.length a4)/\
 w.cell? ⟨b,C+i*5+3,none⟩=some (.slice a7 l[i].procs.length c3)/\w.cell? ⟨b,C+i*5+4,none⟩=some (.slice ay l[i].main.length am):=by
 obtain ⟨b,C,ab,F,a1⟩:=h.cell (by omega);generalize Q:l[i]=q;obtain ⟨u,c,decls,procs,main⟩:=q
 have g:∀ j o,j<5->(fh.mk u c decls procs main).ds[j]? = some o->∃ v,w.cell? ⟨b,C+i*5+j,none⟩=some v/\fT w A o v:=fun j o ac ez=>by
  rw [kd];exact a1 (i*5+j) o ((mw fh.ds 5 (fun _=>rfl) l i X j ac).trans (by rw [Q];exact ez))
 obtain ⟨Z,ag,b5⟩:=g 0 (.str u) (by omega) (by simp [fh.ds]);obtain ⟨aK,ak,aL⟩:=g 1 (.list c.length (fj c)) (by omega) (by simp [fh.ds]);obtain ⟨aN,au,aU⟩:=g 2 (.list decls.length (iD decls)) (by omega) (by simp [fh.ds,iD]);obtain ⟨aY,aI,bd⟩:=g 3 (.list procs.length (hK procs)) (by omega) (by simp [fh.ds,hK]);obtain ⟨be,bq,z⟩:=g 4 (.list main.length (fw main)) (by omega) (by simp [fh.ds]);obtain ⟨rfl,w0⟩:=lj b5;obtain ⟨Y,a9,rfl,G⟩:=hY aL;obtain ⟨a5,a4,rfl,J⟩:=hY aU;obtain ⟨a7,c3,rfl,S⟩:=hY bd;obtain ⟨ay,am,rfl,a6⟩:=hY z;exact ⟨b,C,_,Y,a9,a5,a4,a7,c3,ay,am,ab,F,⟨rfl,w0,G,J,S,a6⟩,ag,ak,au,aI,bq⟩
mutual
def g0 (w:World) (A:Nat->Prop):D->Value->Prop
 | .int n,v=>v = .int .i64 n
 | .str s,v=>v = .string s/\s.size<=maxLen
 | .bool b,v=>v = .bool b
 | .list n y,v=>∃ a I,v = .slice a n I/\(n=0\/∃ b C cs,a=some ⟨b,C,none⟩/\A b/\b<w.heap.size/\pp w b C cs/\fG w A y cs)
def fG (w:World) (A:Nat->Prop):List D->List Value->Prop
 | [],cs=>cs=[]
 | o :: y,cs=>∃ v O,cs=v :: O/\g0 w A o v/\fG w A y O
end
mutual
variable {A q:Nat->Prop} {w r:World}
theorem g0.moves (Z:eQ w A r q):∀ (o:D) (v:Value),g0 w A o v->g0 r q o v
 | .int _,_,h=>h
 | .str _,_,h=>h
 | .bool _,_,h=>h
 | .list n y,v,h=>by
   unfold g0 at h ⊢;obtain ⟨a,I,G,a6⟩:=h;refine ⟨a,I,G,?_⟩
   rcases a6 with a6 | ⟨b,C,cs,ab,a2,F,a1,Q⟩
   . exact Or.inl a6
   . exact Or.inr ⟨b,C,cs,ab,(Z.2 b F a2).1,gl F Z.1,a1.moves Z a2 F,fG.moves Z y cs Q⟩
theorem fG.moves (Z:eQ w A r q):∀ (l:List D) (cs:List Value),fG w A l cs->fG r q l cs
 | [],_,h=>h
 | o :: y,cs,h=>by
   unfold fG at h ⊢;obtain ⟨v,O,G,J,S⟩:=h;exact ⟨v,O,G,g0.moves Z o v J,fG.moves Z y O S⟩
end
variable {A K:Nat->Prop} {a:OA} {I:Nat} {s:ByteArray} {v:Value} {w:World}
theorem g0.one:∀ {o:D} {v:Value},g0 w K o v->v.oneCell'=true
 | .int _,_,h=>by unfold g0 at h;rw [h];rfl
 | .str _,_,h=>by unfold g0 at h;rw [h.1];rfl
 | .bool _,_,h=>by unfold g0 at h;rw [h];rfl
 | .list _ _,_,h=>by unfold g0 at h;obtain ⟨a,I,h,_⟩:=h;rw [h];rfl
theorem fG.one:∀ {l:List D} {cs:List Value},fG w K l cs->∀ u ∈ cs,u.oneCell'=true
 | [],_,h=>by unfold fG at h;rw [h];intro u aI;cases aI
 | o :: y,cs,h=>by
   unfold fG at h;obtain ⟨v,O,rfl,J,S⟩:=h;intro u aI
   rcases lM.1 aI with rfl | aI
   . exact J.one
   . exact fG.one S u aI
theorem fG.len:∀ {l:List D} {cs:List Value},fG w K l cs->cs.length=l.length
 | [],_,h=>by unfold fG at h;rw [h];rfl
 | o :: y,cs,h=>by
   unfold fG at h;obtain ⟨v,O,rfl,J,S⟩:=h;simp [fG.len S]
theorem fG.nil:fG w K [] []:=by unfold fG;rfl
theorem fG.cons {d:D} {ds:List D} {cs:List Value} (h:g0 w K d v) (k:fG w K ds cs):fG w K (d :: ds) (v :: cs):=by
 unfold fG;exact ⟨v,cs,rfl,h,k⟩
theorem fG.append:∀ {l m:List D} {cs t:List Value},fG w K l cs->fG w K m t->fG w K (l++m) (cs++t)
 | [],m,cs,t,h,k=>by unfold fG at h;subst h;exact k
 | o :: y,m,cs,t,h,k=>by
   unfold fG at h;obtain ⟨v,O,rfl,J,S⟩:=h;exact fG.cons J (fG.append S k)
theorem fG.get:∀ {l:List D} {cs:List Value},fG w K l cs->∀ (j:Nat) (o:D),l[j]? = some o->∃ v,cs[j]? = some v/\g0 w K o v
 | [],_,_,j,o,ac=>by simp at ac
 | e :: y,cs,h,j,o,ac=>by
   unfold fG at h;obtain ⟨v,O,rfl,J,S⟩:=h
   cases j with
   | zero=>simp at ac;subst ac;exact ⟨v,rfl,J⟩
   | succ j=>simpa using fG.get S j o (by simpa using ac)
theorem jX {n:Int}:g0 w K (.int n) (em n):=by unfold g0;rfl
theorem mx (h:s.size<=maxLen):g0 w K (.str s) (.string s):=by unfold g0;exact ⟨rfl,h⟩
theorem AM {b:Bool}:g0 w K (.bool b) (.bool b):=by unfold g0;rfl
theorem um {n:Int} (h:g0 w K (.int n) v):v=em n:=by unfold g0 at h;exact h
theorem AN (h:g0 w K (.str s) v):v = .string s/\s.size<=maxLen:=by unfold g0 at h;exact h
def eU (w:World) (K:Nat->Prop) (a:OA) (n:Nat) (ds:List D):Prop:=n=0\/∃ b C cs,a=some (ep b C)/\K b/\b<w.heap.size/\pp w b C cs/\fG w K ds cs
theorem eU.val {n:Nat} {ds:List D} (h:eU w K a n ds):g0 w K (.list n ds) (.slice a n I):=by unfold g0;exact ⟨a,I,rfl,h⟩
theorem eU.moves {q:Nat->Prop} {r:World} {n:Nat} {ds:List D} (h:eU w A a n ds) (Z:eQ w A r q):eU r q a n ds:=by
 rcases h with a6 | ⟨b,C,cs,ab,a2,F,a1,Q⟩
 . exact Or.inl a6
 . exact Or.inr ⟨b,C,cs,ab,(Z.2 b F a2).1,gl F Z.1,a1.moves Z a2 F,fG.moves Z ds cs Q⟩
theorem eU.of_own {Y n:Nat} {e:TypeId} {size:Nat} {ds:List D} {ae:List Value} (h:w.ownsRow Y e size (.slice a n I) n ae) (a2:∀ b,Y<=b->A b) (Q:fG w A ds ae):eU w A a n ds:=by
 rcases h.2 with ⟨G,J⟩ | ⟨g,f,o,G,F,af,U,a1,Z,aj⟩
 . exact Or.inl J
 . injection G with G _ _
   refine Or.inr ⟨g,0,ae,G,a2 g F,lt_of_heap af,fun j u ac=>?_,Q⟩;have:=h.cells (g:=g) (by rw [G];rfl) j u ac;rw [hv]
   have e:((ep g 0):Addr).add j=(ep g j):=by unfold Addr.add;split<;>simp_all
   rwa [e] at this
mutual
def D.fine:D->Prop
 | .int n=>(Lit.int .i64 n).wf=true
 | .str _=>True
 | .bool _=>True
 | .list n y=>n<=y.length/\y.length<=17592186044416/\D.fines y
def D.fines:List D->Prop
 | []=>True
 | o :: y=>o.fine/\D.fines y
end
mutual
variable {A:Nat->Prop} {w:World}
theorem g0.toD:∀ (o:D) (v:Value),g0 w A o v->o.fine->fT w A o v
 | .int _,_,h,k=>by unfold g0 at h;unfold D.fine at k;unfold fT;exact ⟨h,k⟩
 | .str _,_,h,_=>by unfold g0 at h;unfold fT;exact h
 | .bool _,_,h,_=>by unfold g0 at h;unfold fT;exact h
 | .list n y,v,h,k=>by
   unfold g0 at h;unfold D.fine at k;unfold fT;obtain ⟨a,I,G,a6⟩:=h;refine ⟨a,I,G,k.1,k.2.1,?_⟩
   rcases a6 with a6 | ⟨b,C,cs,ab,a2,F,a1,Q⟩
   . exact Or.inl a6
   . exact Or.inr ⟨b,C,cs,ab,a2,F,a1,fG.toD y cs Q k.2.2⟩
theorem fG.toD:∀ (l:List D) (cs:List Value),fG w A l cs->D.fines l->fB w A l cs
 | [],_,h,_=>by unfold fG at h;unfold fB;exact h
 | o :: y,cs,h,k=>by
   unfold fG at h;unfold D.fines at k;unfold fB;obtain ⟨v,O,G,J,S⟩:=h;exact ⟨v,O,G,g0.toD o v J k.1,fG.toD y O S k.2⟩
end
theorem eU.toD {A:Nat->Prop} {w:World} {a:OA} {n:Nat} {ds:List D} (h:eU w A a n ds) (G:n<=ds.length) (J:ds.length<=17592186044416) (k:D.fines ds):eE w A a n ds:=by
 refine ⟨G,J,?_⟩
 rcases h with h | ⟨b,C,cs,ab,a2,F,a1,Q⟩
 . exact Or.inl h
 . exact Or.inr ⟨b,C,cs,ab,a2,F,a1,Q.toD _ _ k⟩
theorem D.fines_append:∀ {l m:List D},D.fines l->D.fines m->D.fines (l++m)
 | [],_,_,k=>k
 | o :: y,m,h,k=>by
   unfold D.fines at h;show D.fines (o :: (y++m));unfold D.fines;exact ⟨h.1,D.fines_append h.2 k⟩
inductive eH where
 | mk (op n m at_:Int) (args:List eH)
def eH.op:eH->Int | .mk p _ _ _ _=>p
def eH.n:eH->Int | .mk _ n _ _ _=>n
def eH.m:eH->Int | .mk _ _ m _ _=>m
def eH.at_:eH->Int | .mk _ _ _ a _=>a
def eH.args:eH->List eH | .mk _ _ _ _ l=>l
inductive eB where
 | mk (op n m at_:Int) (args:List eH) (body other:List eB)
def eB.op:eB->Int | .mk p _ _ _ _ _ _=>p
def eB.n:eB->Int | .mk _ n _ _ _ _ _=>n
def eB.m:eB->Int | .mk _ _ m _ _ _ _=>m
def eB.at_:eB->Int | .mk _ _ _ a _ _ _=>a
def eB.args:eB->List eH | .mk _ _ _ _ l _ _=>l
def eB.body:eB->List eB | .mk _ _ _ _ _ l _=>l
def eB.other:eB->List eB | .mk _ _ _ _ _ _ l=>l
mutual
def eH.ds:eH->List D
 | .mk p n m a d=>[.int p,.int n,.int m,.int a,.list d.length (fY d)]
def fY:List eH->List D
 | []=>[]
 | q :: O=>q.ds++fY O
end
mutual
def eB.ds:eB->List D
 | .mk p n m a d U N=>[.int p,.int n,.int m,.int a,.list d.length (fY d),.list U.length (f9 U),.list N.length (f9 N)]
def f9:List eB->List D
 | []=>[]
 | q :: O=>q.ds++f9 O
end
theorem eH.ds_len (x:eH):x.ds.length=5:=by cases x;unfold eH.ds;rfl
theorem eB.ds_len (x:eB):x.ds.length=7:=by cases x;unfold eB.ds;rfl
theorem AO:∀ (l m:List eH),fY (l++m)=fY l++fY m
 | [],m=>by simp [fY]
 | q :: O,m=>by simp [fY,AO O m]
theorem AP:∀ (l m:List eB),f9 (l++m)=f9 l++f9 m
 | [],m=>by simp [f9]
 | q :: O,m=>by simp [f9,AP O m]
theorem GO (x:eH):fY [x]=x.ds:=by simp [fY]
theorem GP (x:eB):f9 [x]=x.ds:=by simp [f9]
structure gO where
 params:Int
 locals:Int
 body:List eB
def gO.ds (p:gO):List D:=[.int p.params,.int p.locals,.list p.body.length (f9 p.body)]
def iI (l:List gO):List D:=l.flatMap gO.ds
structure ga where
 name:ByteArray
 uses:List ByteArray
 data:Int
 parts:List gO
 main:List eB
structure Mg where
 kind:Int
 n:Int
 m:Int
 at_:Int
def hf:Mg:=⟨0,0,0,0⟩
abbrev Kn:=ByteArray->ByteArray->Option Mg
abbrev Lc:=ByteArray->Option Int
def AQ (K:Kn) (L:Lc) (s u:ByteArray):Option Mg:=
 if s.size=0 then (match L u with | some a=>some ⟨0,0,0,a⟩ | none=>K s u) else K s u
def g6 (K:Kn) (L:Lc) (s u:ByteArray) (f:List Int):Mg × Int:=
 match AQ K L s u with
 | none=>(hf,5)
 | some q=>if f.contains q.kind then (q,0) else (hf,7)
def lN (K:Kn) (L:Lc) (s u:ByteArray) (a:Int):Mg × Int:=
 if (g6 K L s u [4]).2=0/\(g6 K L s u [4]).1.n≠a then (hf,8) else g6 K L s u [4]
structure Al where
 op:Int
 n:Int
 m:Int
 at_:Int
 err:Int
def rz (K:Kn) (L:Lc) (s u:ByteArray):Al:=
 if (g6 K L s u [0,1,2]).2≠0 then ⟨0,0,0,0,(g6 K L s u [0,1,2]).2⟩
 else if (g6 K L s u [0,1,2]).1.kind=1 then ⟨1,(g6 K L s u [0,1,2]).1.n,0,0,0⟩
 else if (g6 K L s u [0,1,2]).1.kind=2 then ⟨3,0,(g6 K L s u [0,1,2]).1.m,(g6 K L s u [0,1,2]).1.at_,0⟩
 else ⟨16,0,0,(g6 K L s u [0,1,2]).1.at_,0⟩
def ll (K:Kn) (L:Lc) (x:fg):Al:=
 if x.op=3 then rz K L x.mod x.name
 else if x.op=4 then ⟨4,(g6 K L x.mod x.name [3]).1.n,(g6 K L x.mod x.name [3]).1.m,(g6 K L x.mod x.name [3]).1.at_,(g6 K L x.mod x.name [3]).2⟩
 else if x.op=5 then ⟨5,0,(lN K L x.mod x.name x.args.length).1.m,(lN K L x.mod x.name x.args.length).1.at_,(lN K L x.mod x.name x.args.length).2⟩
 else ⟨x.op,x.n,0,0,0⟩
def jY (K:Kn) (L:Lc) (s:St):Al:=
 if s.op=1 then ⟨1,0,if (g6 K L s.mod s.name [0,2]).1.kind=0 then -1 else (g6 K L s.mod s.name [0,2]).1.m,(g6 K L s.mod s.name [0,2]).1.at_,(g6 K L s.mod s.name [0,2]).2⟩
 else if s.op=2 then ⟨2,(g6 K L s.mod s.name [3]).1.n,(g6 K L s.mod s.name [3]).1.m,(g6 K L s.mod s.name [3]).1.at_,(g6 K L s.mod s.name [3]).2⟩
 else if s.op=3 then ⟨3,0,(lN K L s.mod s.name s.args.length).1.m,(lN K L s.mod s.name s.args.length).1.at_,(lN K L s.mod s.name s.args.length).2⟩
 else ⟨s.op,0,0,0,0⟩
def hL {α l:Type}:Except Int α->(α->Except Int l)->Except Int l
 | .error e,_=>.error e
 | .ok a,f=>f a
def rA (a:Al):Except Int Al:=if a.err=0 then .ok a else .error a.err
mutual
def mV (K:Kn) (L:Lc):fg->Except Int eH
 | .mk p n s u d=>hL (rA (ll K L (.mk p n s u d))) fun h=>hL (g7 K L d) fun l=>.ok (.mk h.op h.n h.m h.at_ l)
def g7 (K:Kn) (L:Lc):List fg->Except Int (List eH)
 | []=>.ok []
 | q :: O=>hL (mV K L q) fun o=>hL (g7 K L O) fun l=>.ok (o :: l)
end
mutual
def kz (K:Kn) (L:Lc):St->Except Int eB
 | .mk p s u d U N=>hL (rA (jY K L (.mk p s u d U N))) fun h=>hL (g7 K L d) fun l=>hL (gN K L U) fun b=>hL (gN K L N) fun o=>.ok (.mk h.op h.n h.m h.at_ l b o)
def gN (K:Kn) (L:Lc):List St->Except Int (List eB)
 | []=>.ok []
 | q :: O=>hL (kz K L q) fun o=>hL (gN K L O) fun l=>.ok (o :: l)
end
variable {e:Int} {j k:Nat} {α:Type}
theorem xf (x:Except Int α):hL x .ok=x:=by cases x<;>rfl
theorem xg (K:Kn) (L:Lc):∀ (a b:List fg) (P:List eH),g7 K L a = .ok P->g7 K L (a++b)=hL (g7 K L b) fun l=>.ok (P++l)
 | [],b,P,h=>by
   rw [g7] at h;obtain rfl:=rr h;show g7 K L b=_;exact (xf _).symm
 | q :: a,b,P,h=>by
   rw [g7] at h;show g7 K L (q :: (a++b))=_;rw [g7]
   cases Q:mV K L q with
   | error e=>rw [Q] at h;cases h
   | ok o=>
     rw [Q] at h;simp only [hL] at h ⊢
     cases ab:g7 K L a with
     | error e=>rw [ab] at h;cases h
     | ok l=>
       rw [ab] at h;obtain rfl:=rr h;rw [xg K L a b l ab]
       cases g7 K L b<;>rfl
theorem xh (K:Kn) (L:Lc):∀ (a b:List St) (P:List eB),gN K L a = .ok P->gN K L (a++b)=hL (gN K L b) fun l=>.ok (P++l)
 | [],b,P,h=>by
   rw [gN] at h;obtain rfl:=rr h;show gN K L b=_;exact (xf _).symm
 | q :: a,b,P,h=>by
   rw [gN] at h;show gN K L (q :: (a++b))=_;rw [gN]
   cases Q:kz K L q with
   | error e=>rw [Q] at h;cases h
   | ok o=>
     rw [Q] at h;simp only [hL] at h ⊢
     cases ab:gN K L a with
     | error e=>rw [ab] at h;cases h
     | ok l=>
       rw [ab] at h;obtain rfl:=rr h;rw [xh K L a b l ab]
       cases gN K L b<;>rfl
theorem xi (l:List α) (j:Nat) (h:j<l.length):l=l.take j++l[j] :: l.drop (j+1):=by
 rw [List.getElem_cons_drop,rk]
theorem GQ {K:Kn} {L:Lc} {l:List fg} {P:List eH} (h:j<l.length) (ab:g7 K L (l.take j) = .ok P) (ah:mV K L l[j] = .error e):g7 K L l = .error e:=by
 rw [xi l j h,xg K L _ _ P ab,g7,ah];rfl
theorem GR {K:Kn} {L:Lc} {l:List fg} {P:List eH} {y:eH} (h:j<l.length) (ab:g7 K L (l.take j) = .ok P) (ah:mV K L l[j] = .ok y):g7 K L (l.take (j+1)) = .ok (P++[y]):=by
 rw [hI h,xg K L _ _ P ab,g7,ah];rfl
theorem GS {K:Kn} {L:Lc} {l:List St} {P:List eB} (h:j<l.length) (ab:gN K L (l.take j) = .ok P) (ah:kz K L l[j] = .error e):gN K L l = .error e:=by
 rw [xi l j h,xh K L _ _ P ab,gN,ah];rfl
theorem GT {K:Kn} {L:Lc} {l:List St} {P:List eB} {y:eB} (h:j<l.length) (ab:gN K L (l.take j) = .ok P) (ah:kz K L l[j] = .ok y):gN K L (l.take (j+1)) = .ok (P++[y]):=by
 rw [hI h,xh K L _ _ P ab,gN,ah];rfl
theorem xj (K:Kn) (L:Lc) (x:fg):mV K L x=hL (rA (ll K L x)) fun h=>hL (g7 K L x.args) fun l=>.ok (.mk h.op h.n h.m h.at_ l):=by
 obtain ⟨p,n,s,u,d⟩:=x;rw [mV];rfl
theorem sA (K:Kn) (L:Lc) (x:St):kz K L x=hL (rA (jY K L x)) fun h=>hL (g7 K L x.args) fun l=>hL (gN K L x.body) fun b=>hL (gN K L x.other) fun o=>.ok (.mk h.op h.n h.m h.at_ l b o):=by
 obtain ⟨p,s,u,d,U,N⟩:=x;rw [kz];rfl
structure Sh where
 named:Bool
 number:Bool
 least:Int
 most:Int
 body:Bool
 other:Bool
def Sh.val (s:Sh):Value:=.agg #[.bool s.named,.bool s.number,em s.least,em s.most,.bool s.body,.bool s.other]
def mW:Sh:=⟨false,false,0,0,false,false⟩
def hZ (p:Int):Option Sh:=
 if p=1 then some ⟨false,true,0,0,false,false⟩ else if p=2 then some mW else if p=3 then some ⟨true,false,0,0,false,false⟩
 else if p=4 then some ⟨true,false,1,1,false,false⟩ else if p=5 then some ⟨true,false,0,3,false,false⟩ else if p=6 then some ⟨false,false,1,1,false,false⟩
 else if 7<=p/\p<=15 then some ⟨false,false,2,2,false,false⟩ else none
def iT (p:Int):Option Sh:=
 if p=1 then some ⟨true,false,1,1,false,false⟩ else if p=2 then some ⟨true,false,2,2,false,false⟩ else if p=3 then some ⟨true,false,0,3,false,false⟩
 else if p=4 then some ⟨false,false,1,1,true,true⟩ else if p=5 then some ⟨false,false,1,1,true,false⟩ else if p=6 then some ⟨false,false,1,1,false,false⟩
 else if p=7 then some ⟨false,false,1,1,false,false⟩ else none
def mX (p:Int):Bool:=(hZ p).isSome
def my (p:Int):Bool:=(iT p).isSome
def hg (p:Int):Sh:=(hZ p).getD mW
def fA (p:Int):Sh:=(iT p).getD mW
def kept:List (L8):=[[109,111,100,117,108,101],[117,115,101],[112,117,98],[99,111,110,115,116],[118,97,114],[97,114,114,97,121],[112,114,111,99],[108,111,99,97,108],[109,97,105,110],
 [105,102],[101,108,115,101],[119,104,105,108,101],[114,101,116,117,114,110],[111,117,116],[105,110]]
def pq (s:ByteArray):Bool:=kept.contains s.data.toList
def nameOk (s:ByteArray):Bool:=!pq s&&Lx.zbw s.data.toList
def numOkB (n:Int):Bool:=decide (0<=n)&&decide (n<=1099511627775)
def hx (h:Sh) (s u:ByteArray):Bool:=if h.named then nameOk u&&(decide (s.size=0)||nameOk s) else decide (s.size=0)&&decide (u.size=0)
def kA (h:Sh) (n:Int):Bool:=if h.number then numOkB n else decide (n=0)
def h9 (h:Sh) (k:Nat):Bool:=decide (h.least<=(k:Int))&&decide ((k:Int)<=h.most)
def ia:Nat->List fg->Bool
 | 0,_=>true
 | k+1,l=>l.all (fun q=>mX q.op&&ia k q.args)
def gP:Nat->List St->Bool
 | 0,_=>true
 | k+1,l=>l.all (fun s=>my s.op&&(ia 6 s.args&&(gP k s.body&&gP k s.other)))
def gh:Nat->List fg->Bool
 | 0,l=>decide (0<l.length)
 | k+1,l=>decide (3<l.length)||l.any (fun q=>gh k q.args)
def fC:Nat->List St->Bool
 | 0,_=>true
 | k+1,l=>decide (10<l.length)||l.any (fun s=>gh 6 s.args||(((fA s.op).body||decide (0<s.body.length))&&fC k s.body||(decide (0<s.other.length)&&fC k s.other)))
def hh:Nat->List fg->Bool
 | 0,_=>true
 | k+1,l=>l.all (fun q=>hx (hg q.op) q.mod q.name&&(kA (hg q.op) q.n&&(h9 (hg q.op) q.args.length&&hh k q.args)))
def gp:Nat->List St->Bool
 | 0,_=>true
 | k+1,l=>l.all (fun s=>hx (fA s.op) s.mod s.name&&(h9 (fA s.op) s.args.length&&(hh 6 s.args&&(((fA s.op).body||decide (s.body.length=0))&&(((fA s.op).other||decide (s.other.length=0))&&(gp k s.body&&gp k s.other))))))
def kB (d:ge):Bool:=if d.kind=1 then numOkB d.n else if d.kind=3 then decide (1<=d.n)&&decide (d.n<=32) else decide (d.n=0)
def fh.bodies (m:fh):List (List St):=m.procs.map fH.body++[m.main]
def fh.kinds (m:fh):Bool:=m.decls.all (fun o=>decide (1<=o.kind)&&decide (o.kind<=3))&&m.bodies.all (gP 6)
def fh.many (m:fh):Bool:=decide (3<m.uses.length)||(decide (10<m.decls.length)||(decide (6<m.procs.length)||(m.procs.any (fun y=>decide (3<y.params.length)||decide (4<y.locals.length))||m.bodies.any (fC 6))))
def fh.form (m:fh):Bool:=nameOk m.name&&(m.uses.all nameOk&&(m.decls.all (fun o=>nameOk o.name&&kB o)&&(m.procs.all (fun y=>nameOk y.name&&(y.params.all nameOk&&y.locals.all nameOk))&&m.bodies.all (gp 6))))
def fh.err (m:fh):Int:=if m.kinds then (if m.many then 2 else (if m.form then 0 else 1)) else 4
theorem uq (d:List α) (p:α->Bool) (k:Nat) (h:k<d.length):(d.take (k+1)).any p=((d.take k).any p||p d[k]):=by
 rw [hI h,List.any_append];simp
theorem ur (d:List α) (p:α->Bool) (k:Nat) (h:k<d.length) (az:p d[k]=true):d.any p=true:=by
 rw [List.any_eq_true];exact ⟨d[k],fO _,az⟩
theorem kS {d:List α} {p:α->Bool} (h:(d.take k).all p=true) (N:¬ k<d.length):d.all p=true:=by
 rw [kw (by omega)] at h;exact h
theorem ut {d:List α} {p:α->Bool} (h:(d.take k).any p=false) (N:¬ k<d.length):d.any p=false:=by
 rw [kw (by omega)] at h;exact h
theorem GU (s:ByteArray):pq s=((s.toList == [109,111,100,117,108,101])||((s.toList == [117,115,101])||((s.toList == [112,117,98])||((s.toList == [99,111,110,115,116])||((s.toList == [118,97,114])||((s.toList == [97,114,114,97,121])||((s.toList == [112,114,111,99])||((s.toList == [108,111,99,97,108])||((s.toList == [109,97,105,110]) ||
 ((s.toList == [105,102])||((s.toList == [101,108,115,101])||((s.toList == [119,104,105,108,101])||((s.toList == [114,101,116,117,114,110])||((s.toList == [111,117,116])||((s.toList == [105,110])||false))))))))))))))):=by
 unfold pq kept;rw [iB];simp only [List.contains_cons,List.contains_nil]
theorem AR (s:ByteArray) (w:World) :
 ew 237 #[.string s] w fun e r=>e = .returned (.bool (pq s))/\r=w:=by
 go_enter func237,ntmps237;go_wp2_with fail
 all_goals go_ret
 all_goals refine ⟨ret_bool ?_,rfl⟩
 all_goals rw [GU]
 all_goals simp only [*,Bool.true_or,w9,Bool.or_true]
 all_goals simp_all only [sv]
theorem AU (w:World) (o:Obj):(w.alloc o).heap[w.heap.size]? = some o:=(MapKept.heap_alloc w o).1
theorem AV (t:Tk) (N:iz t=true):(jC [t] == 0)=t.okB:=by
 unfold jC;simp only [oz,uc,N,Bool.and_true,if_true,iH,qt]
 cases t.okB<;>rfl
theorem AW (t:Tk) (w:World) (Z:t.text.size<=maxLen):jD (w.alloc (.cells #[em t.kind,em t.n,.string t.text] 184)) (some (ep w.heap.size 0)) [t]:=by
 have h:∀ j u,#[Value.int .i64 t.kind,em t.n,.string t.text][j]? = some u->(w.alloc (.cells #[em t.kind,em t.n,.string t.text] 184)).cell? (ep w.heap.size j)=some u:=fun j u ac=>by
  rw [fU (AU w _)];exact ac
 refine Or.inr ⟨_,0,rfl,by simp,?_,?_,?_,?_⟩
 . intro i X
   obtain rfl:i=0:=by simpa using X
   exact h 0 _ rfl
 . intro i X
   obtain rfl:i=0:=by simpa using X
   exact h 1 _ rfl
 . intro i X
   obtain rfl:i=0:=by simpa using X
   exact h 2 _ rfl
 . intro i X
   obtain rfl:i=0:=by simpa using X
   exact Z
theorem AX (t:Tk) (w:World) (Z:t.text.size<=maxLen) (N:iz t=true) :
 ew 238 #[t.val] w fun e r=>e = .returned (.bool t.okB)/\et w r:=by
 have a6:Hid ((jC [t] == 0)=t.okB):=AV t N
 have ao:Hid (∀ (eq:World) (n:Nat),n=eq.heap.size->ew 116 #[.slice (some (ep n 0)) 1 1] (eq.alloc (.cells #[em t.kind,em t.n,.string t.text] 184)) fun e r=>e = .returned (em (jC [t]))/\et eq r):=
  fun eq n U=>by
   subst U;refine (Check_any _ 1 [t] _ (AW t eq Z) (by simp)).mono ?_;rintro e r ⟨rfl,F⟩;exact ⟨rfl,((Below.refl _ _).alloc (eD _) _).trans (F.mono (by simp))⟩
 obtain ⟨j,b,a⟩:=t;simp only [Tk.val] at *;go_enter func238,ntmps238
 go_wp2_with (go_at_call 116;refine (ao _ _ (by simp)).mono ?_;rintro e r ⟨rfl,F⟩)
 go_ret;exact ⟨ret_bool a6,((Below.refl _ _).alloc (eD _) _).trans (F.mono (by simp))⟩
theorem AY (s:ByteArray):Tk.okB ⟨1,0,s⟩=Lx.zbw s.data.toList:=by simp [Tk.okB]
theorem GV (n:Int):Tk.okB ⟨2,n,⟨#[]⟩⟩=numOkB n:=by simp [Tk.okB,numOkB,iB]
theorem pu (s:ByteArray) (w:World) (Z:s.size<=maxLen) :
 ew 186 #[.string s] w fun e r=>e = .returned (.bool (nameOk s))/\et w r:=by
 have ao:Hid (∀ eq:World,ew 238 #[.agg #[em 1,em 0,.string s]] eq fun e r=>e = .returned (.bool (Lx.zbw s.data.toList))/\et eq r):=fun eq=>by
  rw [← AY];exact AX ⟨1,0,s⟩ eq Z rfl
 by_cases N:pq s=true
 . have aF:Hid (nameOk s=false):=by show _=_;simp [nameOk,N]
   go_enter func186,ntmps186
   go_wp2_with (go_at_call 237;refine (AR s _).mono ?_;rintro e r ⟨rfl,rfl⟩)
   go_ret;exact ⟨ret_bool (by rw [aF.out]),Below.refl _ _⟩
 . have f:pq s=false:=by simpa using N
   clear N
   have aF:Hid (nameOk s=Lx.zbw s.data.toList):=by show _=_;simp [nameOk,f]
   go_enter func186,ntmps186
   go_wp2_with (first | (go_at_call 237;refine (AR s _).mono ?_;rintro e r ⟨rfl,rfl⟩) | (go_at_call 238;refine (ao _).mono ?_;rintro e r ⟨rfl,F⟩))
   go_ret;exact ⟨ret_bool (by rw [aF.out]),F⟩
theorem AZ (n:Int) (w:World) :
 ew 241 #[em n] w fun e r=>e = .returned (.bool (numOkB n))/\et w r:=by
 have ao:Hid (∀ eq:World,ew 238 #[.agg #[em 2,em n,.string ⟨#[]⟩]] eq fun e r=>e = .returned (.bool (numOkB n))/\et eq r):=fun eq=>by
  rw [← GV];exact AX ⟨2,n,⟨#[]⟩⟩ eq (eY _) rfl
 go_enter func241,ntmps241
 go_wp2_with (go_at_call 238;refine (ao _).mono ?_;rintro e r ⟨rfl,F⟩)
 go_ret;exact ⟨rfl,F⟩
theorem xk (s:ByteArray):s.toList.isEmpty=decide (s.size=0):=by
 rw [iB];have h:=Lx.za0 s
 cases a2:s.data.toList with
 | nil=>rw [a2] at h;have q:s.size=0:=h.symm;simp [q]
 | cons c O => rw [a2] at h;have q:s.size≠0:=by simp at h;omega
               simp [q]
theorem A0 (h:Sh) (s u:ByteArray) (w:World) (G:s.size<=maxLen) (J:u.size<=maxLen) :
 ew 242 #[h.val,.string s,.string u] w fun e r=>e = .returned (.bool (hx h s u))/\et w r:=by
 obtain ⟨a,b,c,o,e,f⟩:=h;simp only [Sh.val]
 cases a with
 | false=>
   have z:Hid (hx ⟨false,b,c,o,e,f⟩ s u=(s.toList.isEmpty&&u.toList.isEmpty)):=by show _=_;simp [hx,xk]
   cases a8:s.toList.isEmpty with
   | false=>
     go_enter func242,ntmps242;go_wp2_with fail;go_ret;exact ⟨ret_bool (by rw [z.out,a8];rfl),(Below.refl _ _).alloc (eD _) _⟩
   | true=>
     go_enter func242,ntmps242;go_wp2_with fail;go_ret;exact ⟨ret_bool (by rw [z.out,a8];rfl),(Below.refl _ _).alloc (eD _) _⟩
 | true=>
   have z:Hid (hx ⟨true,b,c,o,e,f⟩ s u=(nameOk u&&(s.toList.isEmpty||nameOk s))):=by show _=_;simp [hx,xk]
   cases U:nameOk u with
   | false=>
     go_enter func242,ntmps242
     go_wp2_with (go_at_call 186;refine (pu u _ J).mono ?_;rw [U];rintro e r ⟨rfl,F⟩)
     go_ret;exact ⟨ret_bool (by rw [z.out,U];rfl),((Below.refl _ _).alloc (eD _) _).trans (F.mono (by simp))⟩
   | true=>
     cases a8:s.toList.isEmpty with
     | true=>
       go_enter func242,ntmps242
       go_wp2_with (go_at_call 186;refine (pu u _ J).mono ?_;rw [U];rintro e r ⟨rfl,F⟩)
       go_ret;exact ⟨ret_bool (by rw [z.out,U,a8];rfl),((Below.refl _ _).alloc (eD _) _).trans (F.mono (by simp))⟩
     | false=>
       go_enter func242,ntmps242;go_wp2_with fail;refine (pu u _ J).mono ?_;rw [U];rintro e eq ⟨rfl,F⟩;go_wp2_with fail;refine (pu s _ G).mono ?_;rintro e w2 ⟨rfl,aB⟩;go_wp2_with fail;go_ret;exact ⟨ret_bool (by rw [z.out,U,a8];simp),(((Below.refl _ _).alloc (eD _) _).trans (F.mono (by simp))).trans (aB.mono (iC (by simp) F.size))⟩
theorem GW (h:Sh) (n:Int) (w:World) :
 ew 280 #[h.val,em n] w fun e r=>e = .returned (.bool (kA h n))/\et w r:=by
 obtain ⟨a,b,c,o,e,f⟩:=h;simp only [Sh.val]
 cases b with
 | false=>
   have z:Hid (kA ⟨a,false,c,o,e,f⟩ n=(n == 0)):=by show _=_;rw [ow];simp [kA]
   go_enter func280,ntmps280;go_wp2_with fail;go_ret;exact ⟨ret_bool z.symm,(Below.refl _ _).alloc (eD _) _⟩
 | true=>
   have z:Hid (kA ⟨a,true,c,o,e,f⟩ n=numOkB n):=by show _=_;simp [kA]
   go_enter func280,ntmps280
   go_wp2_with (go_at_call 241;refine (AZ n _).mono ?_;rintro e r ⟨rfl,F⟩)
   go_ret;exact ⟨ret_bool z.symm,((Below.refl _ _).alloc (eD _) _).trans (F.mono (by simp))⟩
theorem A1 (h:Sh) (t:OA) (k I:Nat) (w:World) :
 ew 243 #[h.val,.slice t k I] w fun e r=>e = .returned (.bool (h9 h k))/\et w r:=by
 obtain ⟨a,b,c,o,e,f⟩:=h;simp only [Sh.val];have z:Hid (h9 ⟨a,b,c,o,e,f⟩ k=(decide (c<=(k:Int))&&decide ((k:Int)<=o))):=rfl
 by_cases G:c<=(k:Int)
 . go_enter func243,ntmps243
   go_wp2_with fail
   all_goals go_ret
   all_goals exact ⟨ret_bool (by rw [z.out];simp [*]<;>omega),(Below.refl _ _).alloc (eD _) _⟩
 . go_enter func243,ntmps243
   go_wp2_with fail
   all_goals go_ret
   all_goals exact ⟨ret_bool (by rw [z.out];simp [*]<;>omega),(Below.refl _ _).alloc (eD _) _⟩
theorem GX (x:ge) (w:World) :
 ew 188 #[.agg #[em x.kind,.string x.name,.bool x.pub,em x.n]] w fun e r=>e = .returned (.bool (kB x))/\et w r:=by
 obtain ⟨j,a,c,b⟩:=x
 by_cases ak:j=1
 . have z:Hid (kB ⟨j,a,c,b⟩=numOkB b):=if_pos ak
   subst ak;go_enter func188,ntmps188
   go_wp2_with (go_at_call 241;refine (AZ b _).mono ?_;rintro e r ⟨rfl,F⟩)
   go_ret;exact ⟨ret_bool z.symm,((Below.refl _ _).alloc (eD _) _).trans (F.mono (by simp))⟩
 . have b7:(j == 1)=false:=beq_eq_false_iff_ne.2 ak
   by_cases aI:j=3
   . have z:Hid (kB ⟨j,a,c,b⟩=(decide (1<=b)&&decide (b<=32))):=(if_neg ak).trans (if_pos aI)
     subst aI;clear ak b7
     by_cases L:1<=b
     . go_enter func188,ntmps188
       go_wp2_with fail
       all_goals go_ret
       all_goals exact ⟨ret_bool (by rw [z.out];simp [*]<;>omega),(Below.refl _ _).alloc (eD _) _⟩
     . go_enter func188,ntmps188
       go_wp2_with fail
       all_goals go_ret
       all_goals exact ⟨ret_bool (by rw [z.out];simp [*]<;>omega),(Below.refl _ _).alloc (eD _) _⟩
   . have b9:(j == 3)=false:=beq_eq_false_iff_ne.2 aI
     have z:Hid (kB ⟨j,a,c,b⟩=(b == 0)):=by
      show _=_
      rw [ow];simp [kB,ak,aI]
     clear ak aI;go_enter func188,ntmps188;go_wp2_with fail
     all_goals go_ret
     all_goals exact ⟨ret_bool (by rw [z.out]),(Below.refl _ _).alloc (eD _) _⟩
end Go.Proofs.YtndkhgakfodldaaGreatDoor

namespace Go.Proofs.YtndkhgakfodldaaGreatDoor
open Go.RowKit Go.Maps
variable {T:Exit->Act->World->Prop} {a:OA} {c Y a5 a7 ay:Value} {b:Nat} {cs ae:List Value} {k:Int} {o:Oper} {I:Obj} {ops:Array Oper} {rest:List Oper} {w r eq eC:World}
def pv (v:Value):Option (DataW Value × List MemPlace):=some (.held v,[])
theorem xl:Keyed prog 3:=int_keyed Tryz.underlying3
theorem A2 (w:World):(zeroValue 270).run prog w = .ok mW.val w:=by kernel_rfl
def uu (D:DataW Value) (f:Int->Option Sh):Prop:=∀ a:Int,has D (.int .i64 a)=(f a).isSome/\D.atKey (.int .i64 a) (.held mW.val) = .held ((f a).getD mW).val
def iJ (f:Int->Option Sh) (k:Int) (s:Sh):Int->Option Sh:=fun a=>if a=k then some s else f a
theorem uu.put {D:DataW Value} {f:Int->Option Sh} (h:uu D f) (ax:IsMap D) (k:Int) (s:Sh):uu (D.put (.int .i64 k) (.held s.val)) (iJ f k s):=by
 intro a
 by_cases e:a=k
 . subst e
   simp only [iJ,if_true];exact ⟨has_put_same (k:=.int .i64 a) ax trivial _,atKey_put_same (k:=.int .i64 a) ax trivial _ _⟩
 . simp only [iJ,if_neg e]
   have aV:Lit.int .i64 a≠.int .i64 k:=fun h=>e (by injection h)
   rw [has_put_other aV,atKey_put_other aV];exact h a
def fS (w:World) (b n:Nat) (f:Int->Option Sh):Prop:=∃ D,w.ownsMap prog 3 pv b n D/\uu D f
theorem fS.later {n:Nat} {f:Int->Option Sh} (h:fS w b n f) (F:Below w.heap.size w r):fS r b n f:=by
 obtain ⟨D,G,J⟩:=h;have a0:=G.lt;obtain ⟨t,clock,aJ,O⟩:=G;exact ⟨D,⟨t,clock,(F.block b a0).trans aJ,O⟩,J⟩
theorem fS.lt {n:Nat} {f:Int->Option Sh} (h:fS w b n f):b<w.heap.size:=by obtain ⟨D,G,_⟩:=h;exact G.lt
theorem fS.made (w:World):fS (w.alloc (.map #[] 0)) w.heap.size 0 (fun _=>none):=
 ⟨.map [],r1 w _ _ _,fun _=>⟨rfl,rfl⟩⟩
theorem fS.look {n:Nat} {f:Int->Option Sh} (h:fS w b n f) (N:(Lit.int .i64 k).wf=true) :
 (Instr.lookup 232 (.map (some b)) (.int .i64 k) false).run prog w = .ok ((f k).getD mW).val w:=by
 obtain ⟨D,G,J⟩:=h;obtain ⟨v,H,hrun,a7⟩:=G.lookup xl Tryz.underlying232 (A2 w) (zd:=.held mW.val) (zp:=[]) rfl (keyOf_int_mk Tryz.underlying3 N);rw [(J k).2] at a7;simp only [pv,kR,rq,sw] at a7;rw [hrun,a7.1]
theorem fS.look_ok {n:Nat} {f:Int->Option Sh} (h:fS w b n f) (N:(Lit.int .i64 k).wf=true) :
 (Instr.lookup 232 (.map (some b)) (.int .i64 k) true).run prog w = .ok (.tuple #[((f k).getD mW).val,.bool (f k).isSome]) w:=by
 obtain ⟨D,G,J⟩:=h;obtain ⟨v,H,hrun,a7⟩:=G.look_ok xl Tryz.underlying232 (A2 w) (zd:=.held mW.val) (zp:=[]) rfl (keyOf_int_mk Tryz.underlying3 N);rw [(J k).2] at a7;simp only [pv,kR,rq,sw] at a7;rw [hrun,a7.1,(J k).1]
theorem fS.put {n:Nat} {f:Int->Option Sh} (h:fS w b n f) (U:n<maxLen) (N:(Lit.int .i64 k).wf=true) (s:Sh) :
 ∃ r,(Instr.mapUpdate 232 (.map (some b)) (.int .i64 k) s.val).run prog w = .ok () r/\fS r b (n+1) (iJ f k s)/\w.grownBy r (some b):=by
 obtain ⟨D,G,J⟩:=h;obtain ⟨r,b2,bi,bt⟩:=G.update xl Tryz.underlying232 U (keyOf_int_mk Tryz.underlying3 N) (val:=s.val) (d:=.held s.val) (ps:=[]) rfl;exact ⟨r,b2,⟨_,bi,J.put G.isMap k s⟩,bt⟩
theorem A3 {a:Act} (af:o.guard=none) (m x v:Operand) (M:o.op=Op.insert 232 m x v) {n:Nat} {f:Int->Option Sh} (g:fS w b n f)
 (a8:a.eval m = .map (some b)) (k:Int) (Q:a.eval x = .int .i64 k) (E ae:Bool) (H aj:Int) (al O:Bool) (a7:a.eval v = .agg #[.bool E,.bool ae,.int .i64 H,.int .i64 aj,.bool al,.bool O]) (N:(Lit.int .i64 k).wf=true) (U:n<maxLen)
 (aA:∀ r,fS r b (n+1) (iJ f k ⟨E,ae,H,aj,al,O⟩)->w.grownBy r (some b)->wpList prog ops T rest (a.put o.dst undef) r):wpList prog ops T (o :: rest) a w:=by
 refine wpList_plain af fun d c=>?_
 obtain ⟨r,hrun,b2,bi⟩:=g.put U N ⟨E,ae,H,aj,al,O⟩;simp only [Sh.val] at hrun;unfold Oper.wp;simp [execOp,M,a8,Q,a7,hrun,Result.andThen];exact c _ _ (aA r b2 bi)
theorem GY {a:Act} (af:o.guard=none) (m x v:Operand) (M:o.op=Op.mapUpdate 232 m x v) {n:Nat} {f:Int->Option Sh} (g:fS w b n f)
 (a8:a.eval m = .map (some b)) (k:Int) (Q:a.eval x = .int .i64 k) (E ae:Bool) (H aj:Int) (al O:Bool) (a7:a.eval v = .agg #[.bool E,.bool ae,.int .i64 H,.int .i64 aj,.bool al,.bool O]) (N:(Lit.int .i64 k).wf=true) (U:n<maxLen)
 (aA:∀ r,fS r b (n+1) (iJ f k ⟨E,ae,H,aj,al,O⟩)->w.grownBy r (some b)->wpList prog ops T rest (a.put o.dst undef) r):wpList prog ops T (o :: rest) a w:=by
 refine wpList_plain af fun d c=>?_
 obtain ⟨r,hrun,b2,bi⟩:=g.put U N ⟨E,ae,H,aj,al,O⟩;simp only [Sh.val] at hrun;unfold Oper.wp;simp [execOp,M,a8,Q,a7,hrun,Result.andThen];exact c _ _ (aA r b2 bi)
def A4:Int->Option Sh:=iJ (iJ (iJ (iJ (iJ (iJ (iJ (fun _=>none) 1 ⟨true,false,1,1,false,false⟩) 2 ⟨true,false,2,2,false,false⟩) 3 ⟨true,false,0,3,false,false⟩) 4 ⟨false,false,1,1,true,true⟩) 5 ⟨false,false,1,1,true,false⟩) 6 ⟨false,false,1,1,false,false⟩) 7 ⟨false,false,1,1,false,false⟩
theorem GZ:A4=iT:=by
 funext a
 unfold A4 iJ iT
 repeat' split
 all_goals first | rfl | omega
def xm:Int->Option Sh:=iJ (iJ (iJ (iJ (iJ (iJ (fun _=>none) 1 ⟨false,true,0,0,false,false⟩) 2 ⟨false,false,0,0,false,false⟩) 3 ⟨true,false,0,0,false,false⟩) 4 ⟨true,false,1,1,false,false⟩) 5 ⟨true,false,0,3,false,false⟩) 6 ⟨false,false,1,1,false,false⟩
def oA (k:Nat):Int->Option Sh:=fun a=>if 7<=a/\a<7+(k:Int) then some ⟨false,false,2,2,false,false⟩ else xm a
theorem G0:xm=oA 0:=by
 funext a
 unfold oA;rw [if_neg (by omega)]
theorem G1 (k:Nat):iJ (oA k) (7+(k:Int)) ⟨false,false,2,2,false,false⟩=oA (k+1):=by
 funext a
 simp only [iJ,oA]
 by_cases e:a=7+(k:Int)
 . rw [if_pos e,if_pos (by omega)]
 . rw [if_neg e]
   by_cases h:7<=a/\a<7+(k:Int)
   . rw [if_pos h,if_pos (by omega)]
   . rw [if_neg h,if_neg (by omega)]
theorem G2:oA 9=hZ:=by
 funext a
 unfold oA xm iJ hZ
 repeat' split
 all_goals first | rfl | omega
theorem G3 (w:World) :
 Calls prog 151 #[] w fun e r=>∃ b,e = .returned (.map (some b))/\fS r b 7 iT/\Below w.heap.size w r:=by
 have aP:=@run_makeMap prog;have g:=fS.made w;have ab:Below w.heap.size w (w.alloc (.map #[] 0)):=(Below.refl _ _).alloc (eD _) _;go_enter func151,ntmps151
 go_wp2_with (refine A3 rfl _ _ _ rfl g rfl _ rfl _ _ _ _ _ _ rfl (by decide) (by decide) ?_;clear g;intro eq g A;replace ab:=ab.grown A ab.size (fun j ac=>by cases ac;exact eD _);clear A)
 go_ret;refine ⟨_,rfl,?_,ab⟩;rw [← GZ];exact g
theorem G4 (w:World) :
 Calls prog 150 #[] w fun e r=>∃ b,e = .returned (.map (some b))/\fS r b 15 hZ/\Below w.heap.size w r:=by
 have aP:=@run_makeMap prog;have g:=fS.made w;have ab:Below w.heap.size w (w.alloc (.map #[] 0)):=(Below.refl _ _).alloc (eD _) _;go_enter func150,ntmps150
 go_wp2_with (refine A3 rfl _ _ _ rfl g rfl _ rfl _ _ _ _ _ _ rfl (by decide) (by decide) ?_;clear g;intro eq g A;replace ab:=ab.grown A ab.size (fun j ac=>by cases ac;exact eD _);clear A)
 have a:fS eq w.heap.size 6 (oA 0):=by rw [← G0];exact g
 clear g
 go_loopw [2] (fun i wr=>∃ k:Nat,k<=9/\i = .int .i64 (7+(k:Int))/\fS wr w.heap.size (6+k) (oA k)/\Below w.heap.size w wr) (fun i _=>16 - (intOf i).toNat)
 case atStart=>exact ⟨0,by omega,rfl,a,ab⟩
 case round=>
  clear a ab;obtain ⟨k,N,rfl,g,ab⟩:=hrel
  by_cases a0:k<9
  . go_wp2_with (refine GY rfl _ _ _ rfl g rfl _ rfl _ _ _ _ _ _ rfl (WalkArith.wf_i64 (by omega)) (by unfold maxLen;omega) ?_;clear g;intro w2 g A;replace ab:=ab.grown A ab.size (fun j ac=>by cases ac;exact eD _);clear A)
    rw [G1] at g;go_roundw
    case rel=>exact ⟨k+1,by omega,by go_num,g,ab⟩
    case measure=>simp [intOf];omega
  . obtain rfl:k=9:=by omega
    go_wp2_with fail;go_ret;refine ⟨_,rfl,?_,ab⟩;rw [← G2];exact g
theorem qx (F:et w eq) (S:Below (eq.alloc I).heap.size (eq.alloc I) eC):et w eC:=by
 have G:=F.alloc F.size I;exact G.trans (S.mono G.size)
theorem uw {K:Obj} (F:et w eq) (S:Below ((eq.alloc I).alloc K).heap.size ((eq.alloc I).alloc K) eC):et w eC:=
 qx (F.alloc F.size I) S
theorem es (F:et w eq) (S:et eq eC):et w eC:=F.trans (S.mono F.size)
theorem ey (w:World) (o:Obj):et w (w.alloc o):=(Below.refl _ _).alloc (eD _) _
theorem fq (w:World) (I K:Obj):et w ((w.alloc I).alloc K):=(ey w I).alloc (by simp) _
structure eR (w:World) (b:Nat) (cs:List Value):Prop where
 lt:b<w.heap.size
 cell:∀ j v,cs[j]? = some v->w.cell? (ep b j)=some v
theorem eR.later (h:eR w b cs) (F:et w r):eR r b cs:=
 ⟨gl h.lt F.size,fun j v ac=>(F.cell (p:=(ep b j)) h.lt).trans (h.cell j v ac)⟩
theorem eR.new (w:World) (cs:Array Value) (t:TypeId):eR (w.alloc (.cells cs t)) w.heap.size cs.toList:=
 ⟨by simp,fun j v ac=>by rw [fU (AU w _)];simpa using ac⟩
theorem eR.new1 (w:World) (cs:Array Value) (t:TypeId) (o:Obj):eR ((w.alloc (.cells cs t)).alloc o) w.heap.size cs.toList:=(eR.new w cs t).later (ey _ _)
theorem eR.new2 (w:World) (cs:Array Value) (t:TypeId) (o:Obj):eR ((w.alloc o).alloc (.cells cs t)) (w.heap.size+1) cs.toList:=by
 have:=eR.new (w.alloc o) cs t;simpa using this
theorem eR.c2 (h:eR w b [c,Y]):w.cell? (ep b 0)=some c/\w.cell? (ep b 1)=some Y/\b<w.heap.size:=⟨h.cell 0 _ rfl,h.cell 1 _ rfl,h.lt⟩
theorem eR.c5 (h:eR w b [c,Y,a5,a7,ay]):w.cell? (ep b 0)=some c/\w.cell? (ep b 1)=some Y/\w.cell? (ep b 2)=some a5/\w.cell? (ep b 3)=some a7/\w.cell? (ep b 4)=some ay/\b<w.heap.size:=
 ⟨h.cell 0 _ rfl,h.cell 1 _ rfl,h.cell 2 _ rfl,h.cell 3 _ rfl,h.cell 4 _ rfl,h.lt⟩
theorem eR.c6 {av:Value} (h:eR w b [c,Y,a5,a7,ay,av]):w.cell? (ep b 0)=some c/\w.cell? (ep b 1)=some Y/\w.cell? (ep b 2)=some a5/\w.cell? (ep b 3)=some a7/\w.cell? (ep b 4)=some ay/\w.cell? (ep b 5)=some av/\b<w.heap.size:=
 ⟨h.cell 0 _ rfl,h.cell 1 _ rfl,h.cell 2 _ rfl,h.cell 3 _ rfl,h.cell 4 _ rfl,h.cell 5 _ rfl,h.lt⟩
theorem A5 (f d:Nat) (A:Nat->Prop):∀ (k:Nat),k<=6->∀ (l:List fg) (a:OA) (I:Nat) (m:Int) (w:World),m=7 - (k:Int)->eE w A a l.length (ft l)->fS w f 15 hZ->
 ew 235 #[.agg #[.map (some f),.map (some d)],.slice a l.length I,em m] w fun e r=>e = .returned (.bool (ia k l))/\et w r
 | 0,_,l,a,I,m,w,ez,_,_=>by
   subst ez
   have z:Hid (ia 0 l=true):=by show _=_;simp [ia]
   go_enter func235,ntmps235;go_wp2_with fail;go_ret;exact ⟨ret_bool z.symm,(Below.refl _ _).alloc (eD _) _⟩
 | k + 1, N,l,a,I,m,w,ez,ax,g=>by
   have z:Hid (ia (k+1) l=l.all (fun q=>mX q.op&&ia k q.args)):=by show _=_;simp [ia]
   have bC:=ax.bound
   have au:1<=m:=by omega
   have V:m<=6:=by omega
   have az:Hid (∀ (l:List fg) (a:OA) (I:Nat) (w:World),eE w A a l.length (ft l)->fS w f 15 hZ->
    ew 235 #[.agg #[.map (some f),.map (some d)],.slice a l.length I,em (m+1)] w fun e r=>e = .returned (.bool (ia k l))/\et w r):=
    fun l a I w G J=>A5 f d A k (by omega) l a I (m+1) w (by omega) G J
   have aK:Hid (eE w A a l.length (ft l)):=ax;have aJ:Hid (fS w f 15 hZ):=g;clear ax g ez;have ad:Hid (eR (w.alloc (.cells #[.map (some f),.map (some d)] 235)) w.heap.size [.map (some f),.map (some d)]):=eR.new w _ _;go_enter func235,ntmps235;go_wp2_with fail
   go_loopw [15] (fun i wr=>∃ j:Nat,j<=l.length/\i=em j/\(l.take j).all (fun q=>mX q.op&&ia k q.args)=true/\et w wr/\eR wr w.heap.size [.map (some f),.map (some d)]) (fun i _=>l.length - (intOf i).toNat)
   case atStart=>exact ⟨0,eY _,rfl,rfl,ey _ _,ad⟩
   case round=>
    clear ad;obtain ⟨j,ac,rfl,aO,F,ab⟩:=hrel;have av:=ab.cell 0 _ rfl;have an:=ab.cell 1 _ rfl;have aV:=ab.lt;have ad:Hid (eR wr w.heap.size [.map (some f),.map (some d)]):=ab;have ar:Hid ((l.take j).all (fun q=>mX q.op&&ia k q.args)=true):=aO;clear aO ab
    by_cases a0:j<l.length
    . obtain ⟨b,C,t,bo,rfl,Q⟩:=(aK.later F).ex j a0
      have ao:=Q.c0;have aM:=Q.c1;have b1:=Q.c2;have R:=Q.c3;have aa:=Q.c4;have bz:=Q.lt;have aN:Hid (eE wr A t l[j].args.length (ft l[j].args)):=Q.args;have y:=((aJ.later F).later (ey _ (i1 l[j].op l[j].n l[j].mod l[j].name t l[j].args.length bo))).look_ok Q.wop;simp only [Sh.val] at y;clear Q
      cases M:(hZ l[j].op).isSome with
      | false=>
        rw [M] at y;have p:Hid (l.all (fun q=>mX q.op&&ia k q.args)=false):=all_not l _ j a0 (by simp [mX,M]);go_wp2_with fail;go_ret;exact ⟨ret_bool (by rw [z.out,p.out]),es F (fq _ _ _)⟩
      | true=>
        rw [M] at y;go_wp2_with fail;refine (az l[j].args t bo _ (aN.later (fq _ _ _)) ((aJ.later F).later (fq _ _ _))).mono ?_
        cases W:ia k l[j].args with
        | false=>
          have p:Hid (l.all (fun q=>mX q.op&&ia k q.args)=false):=all_not l _ j a0 (by simp [W]);rintro e eC ⟨rfl,a2⟩;go_wp2_with fail;go_ret;exact ⟨ret_bool (by rw [z.out,p.out]),uw F a2⟩
        | true=>
          have P:Hid ((l.take (j+1)).all (fun q=>mX q.op&&ia k q.args)=true):=by
           show _=_
           rw [all_snoc l _ j a0,ar.out];simp [mX,M,W]
          rintro e eC ⟨rfl,a2⟩;go_wp2_with fail;go_roundw
          case rel=>exact ⟨j+1,by omega,by go_num,P,uw F a2,ad.later (es (fq _ _ _) a2)⟩
          case measure=>simp [intOf];omega
    . have P:Hid (l.all (fun q=>mX q.op&&ia k q.args)=true):=kS ar a0
      go_wp2_with fail;go_ret;exact ⟨ret_bool (by rw [z.out,P.out]),F⟩
theorem A6 (a:OA) (I:Nat) (m:Int) (w:World) :
 ew 236 #[.slice a 0 I,em m] w fun e r=>e = .returned (.bool false)/\et w r:=by
 go_enter func236,ntmps236;go_wp2_with fail
 go_loopw [21] (fun i wr=>i=em 0/\wr=w) (fun _ _=>0)
 case atStart=>exact ⟨rfl,rfl⟩
 case round=>
  obtain ⟨rfl,rfl⟩:=hrel;go_wp2_with fail;go_ret;exact ⟨rfl,Below.refl _ _⟩
theorem A7 (k:Nat) {l:List fg} (h:l.length=0):gh k l=false:=by
 have:l=[]:=ii h;subst this
 cases k<;>simp [gh]
theorem A8 (A:Nat->Prop):∀ (k:Nat),k<=6->∀ (l:List fg) (a:OA) (I:Nat) (m:Int) (w:World),m=7 - (k:Int)->eE w A a l.length (ft l)->
 ew 236 #[.slice a l.length I,em m] w fun e r=>e = .returned (.bool (gh k l))/\et w r
 | 0,_,l,a,I,m,w,ez,ax=>by
   subst ez;have bC:=ax.bound;clear ax
   by_cases a3:l.length=0
   . rw [A7 0 a3,a3]
     exact A6 a I _ w
   . have z:Hid (gh 0 l=true):=by show _=_;simp [gh];omega
     by_cases S:3<l.length
     . go_enter func236,ntmps236
       go_wp2_with fail;go_ret;exact ⟨ret_bool z.symm,Below.refl _ _⟩
     . go_enter func236,ntmps236
       go_wp2_with fail;go_ret;exact ⟨ret_bool z.symm,Below.refl _ _⟩
 | k + 1, N,l,a,I,m,w,ez,ax=>by
   have z:Hid (gh (k+1) l=(decide (3<l.length)||l.any (fun q=>gh k q.args))):=by show _=_;simp [gh]
   have bC:=ax.bound
   have au:1<=m:=by omega
   have V:m<=6:=by omega
   have az:Hid (∀ (l:List fg) (a:OA) (I:Nat) (w:World),eE w A a l.length (ft l)->
    ew 236 #[.slice a l.length I,em (m+1)] w fun e r=>e = .returned (.bool (gh k l))/\et w r):=
    fun l a I w G=>A8 A k (by omega) l a I (m+1) w (by omega) G
   have aK:Hid (eE w A a l.length (ft l)):=ax;clear ax ez
   by_cases a3:l.length=0
   . rw [A7 (k+1) a3,a3]
     exact A6 a I _ w
   have d:0<l.length:=by omega
   clear a3
   by_cases S:3<l.length
   . have P:Hid (gh (k+1) l=true):=by show _=_;rw [z.out];simp [S]
     clear au;go_enter func236,ntmps236;go_wp2_with fail;go_ret;exact ⟨ret_bool P.symm,Below.refl _ _⟩
   . have aF : Hid (gh (k+1) l=l.any (fun q=>gh k q.args)):=by show _=_;rw [z.out];simp [S]
     clear z;go_enter func236,ntmps236;go_wp2_with fail
     . go_loopw [21] (fun i wr=>∃ j:Nat,j<=l.length/\i=em j/\(l.take j).any (fun q=>gh k q.args)=false/\et w wr) (fun i _=>l.length - (intOf i).toNat)
       case atStart=>exact ⟨0,eY _,rfl,rfl,Below.refl _ _⟩
       case round=>
        obtain ⟨j,ac,rfl,aO,F⟩:=hrel;have ar:Hid ((l.take j).any (fun q=>gh k q.args)=false):=aO;clear aO
        by_cases a0:j<l.length
        . obtain ⟨b,C,t,bo,rfl,Q⟩:=(aK.later F).ex j a0
          have ao:=Q.c0;have aM:=Q.c1;have b1:=Q.c2;have R:=Q.c3;have aa:=Q.c4;have bz:=Q.lt;have aN:Hid (eE wr A t l[j].args.length (ft l[j].args)):=Q.args;clear Q;go_wp2_with fail;refine (az l[j].args t bo _ (aN.later (ey _ _))).mono ?_
          cases W:gh k l[j].args with
          | true=>
            have p:Hid (l.any (fun q=>gh k q.args)=true):=ur l _ j a0 W;rintro e eC ⟨rfl,a2⟩;go_wp2_with fail;go_ret;exact ⟨ret_bool (by rw [aF.out,p.out]),qx F a2⟩
          | false=>
            have P:Hid ((l.take (j+1)).any (fun q=>gh k q.args)=false):=by
             show _=_
             rw [uq l _ j a0,ar.out];simp [W]
            rintro e eC ⟨rfl,a2⟩;go_wp2_with fail;go_roundw
            case rel=>exact ⟨j+1,by omega,by go_num,P,qx F a2⟩
            case measure=>simp [intOf];omega
        . have P:Hid (l.any (fun q=>gh k q.args)=false):=ut ar a0
          go_wp2_with fail;go_ret;exact ⟨ret_bool (by rw [aF.out,P.out]),F⟩
theorem G5 {k:Nat} {l:List fg} (h:gh (k+1) l=false) (j:Nat) (ac:j<l.length):gh k l[j].args=false:=by
 simp only [gh,jf,oq] at h;have:=h.2 l[j] (fO ac);simpa using this
theorem G6 (f d:Nat) (A:Nat->Prop):∀ (k:Nat) (l:List fg) (a:OA) (I:Nat) (w:World),eE w A a l.length (ft l)->fS w f 15 hZ->gh k l=false->
 ew 244 #[.agg #[.map (some f),.map (some d)],.slice a l.length I] w fun e r=>e = .returned (.bool (hh k l))/\et w r:=by
 intro k
 induction k with
 | zero=>
   intro l a I w ax g aS
   have a3:l.length=0:=by simp [gh] at aS;simp [aS]
   have z:Hid (hh 0 l=true):=by show _=_;simp [hh]
   rw [a3];go_enter func244,ntmps244;go_wp2_with fail
   go_loopw [10] (fun i wr=>i=em 0/\et w wr) (fun _ _=>0)
   case atStart=>exact ⟨rfl,ey _ _⟩
   case round=>
    obtain ⟨rfl,F⟩:=hrel;go_wp2_with fail;go_ret;exact ⟨ret_bool z.symm,F⟩
 | succ k aH=>
   intro l a I w ax g aS
   have z:Hid (hh (k+1) l=l.all (fun q=>hx (hg q.op) q.mod q.name&&(kA (hg q.op) q.n&&(h9 (hg q.op) q.args.length&&hh k q.args)))):=by show _=_;simp [hh]
   have bC:=ax.bound
   have az:Hid (∀ (l:List fg) (a:OA) (I:Nat) (w:World),eE w A a l.length (ft l)->fS w f 15 hZ->gh k l=false->
    ew 244 #[.agg #[.map (some f),.map (some d)],.slice a l.length I] w fun e r=>e = .returned (.bool (hh k l))/\et w r):=aH
   have aK:Hid (eE w A a l.length (ft l)):=ax;have aJ:Hid (fS w f 15 hZ):=g;have aq:Hid (∀ (j:Nat) (ac:j<l.length),gh k l[j].args=false):=G5 aS;clear ax g aH aS;have ad:Hid (eR (w.alloc (.cells #[.map (some f),.map (some d)] 235)) w.heap.size [.map (some f),.map (some d)]):=eR.new w _ _;go_enter func244,ntmps244;go_wp2_with fail
   go_loopw [10] (fun i wr=>∃ j:Nat,j<=l.length/\i=em j/\(l.take j).all (fun q=>hx (hg q.op) q.mod q.name&&(kA (hg q.op) q.n&&(h9 (hg q.op) q.args.length&&hh k q.args)))=true/\et w wr/\eR wr w.heap.size [.map (some f),.map (some d)]) (fun i _=>l.length - (intOf i).toNat)
   case atStart=>exact ⟨0,eY _,rfl,rfl,ey _ _,ad⟩
   case round =>
    clear ad;obtain ⟨j,ac,rfl,aO,F,ab⟩:=hrel;have av:=ab.cell 0 _ rfl;have an:=ab.cell 1 _ rfl;have aV:=ab.lt;have ad:Hid (eR wr w.heap.size [.map (some f),.map (some d)]):=ab;have ar:Hid ((l.take j).all (fun q=>hx (hg q.op) q.mod q.name&&(kA (hg q.op) q.n&&(h9 (hg q.op) q.args.length&&hh k q.args)))=true):=aO;clear aO ab
    by_cases a0:j<l.length
    . obtain ⟨b,C,t,bo,rfl,Q⟩:=(aK.later F).ex j a0
      have ao:=Q.c0;have aM:=Q.c1;have b1:=Q.c2;have R:=Q.c3;have aa:=Q.c4;have bz:=Q.lt;have aN:Hid (AK wr A b (C+j*5) l[j] t bo):=Q
      have p:Hid (∀ c:Bool,(hx (hg l[j].op) l[j].mod l[j].name&&(kA (hg l[j].op) l[j].n&&(h9 (hg l[j].op) l[j].args.length&&hh k l[j].args)))=false->hh (k+1) l=false):=fun _ h=>by rw [z.out];exact all_not l _ j a0 h
      have P:Hid ((hx (hg l[j].op) l[j].mod l[j].name&&(kA (hg l[j].op) l[j].n&&(h9 (hg l[j].op) l[j].args.length&&hh k l[j].args)))=true->(l.take (j+1)).all (fun q=>hx (hg q.op) q.mod q.name&&(kA (hg q.op) q.n&&(h9 (hg q.op) q.args.length&&hh k q.args)))=true):=fun h=>by
       rw [all_snoc l _ j a0,ar.out,h];rfl
      have y:=((aJ.later F).later (ey _ (i1 l[j].op l[j].n l[j].mod l[j].name t l[j].args.length bo))).look Q.wop;clear Q;have u:(Instr.lookup 232 (.map (some f)) (em l[j].op) false).run prog (wr.alloc (i1 l[j].op l[j].n l[j].mod l[j].name t l[j].args.length bo)) = .ok (hg l[j].op).val (wr.alloc (i1 l[j].op l[j].n l[j].mod l[j].name t l[j].args.length bo)):=y;clear y;generalize Z:hg l[j].op=s at u p P;clear Z;simp only [Sh.val] at u;go_wp2_with fail;refine (A0 s l[j].mod l[j].name _ aN.wm aN.wna).mono ?_
      cases G:hx s l[j].mod l[j].name with
      | false=>
        rintro e eC ⟨rfl,c3⟩;have a2:et wr eC:=es (fq _ _ _) c3;clear c3;go_wp2_with fail;go_ret;exact ⟨ret_bool (p true (by simp [G])).symm,es F a2⟩
      | true=>
        rintro e eC ⟨rfl,c3⟩;have n:=(ad.later (fq _ _ _)).later c3;have o:=(eR.new1 wr #[em l[j].op,em l[j].n,.string l[j].mod,.string l[j].name,.slice t l[j].args.length bo] 174 _).later c3;have m:=(eR.new2 wr #[.bool s.named,.bool s.number,em s.least,em s.most,.bool s.body,.bool s.other] 270 _).later c3;have a2:et wr eC:=es (fq _ _ _) c3;clear c3 av an aV;obtain ⟨av,an,aV⟩:=n.c2;obtain ⟨af,E,ae,H,aj,xz⟩:=o.c5;obtain ⟨aF,T,X,bc,b9,b7,yz⟩:=m.c6;have v:Hid (eR eC w.heap.size [.map (some f),.map (some d)]):=n;have D:Hid (eR eC wr.heap.size [em l[j].op,em l[j].n,.string l[j].mod,.string l[j].name,.slice t l[j].args.length bo]):=o;have aT:Hid (eR eC (wr.heap.size+1) [.bool s.named,.bool s.number,em s.least,em s.most,.bool s.body,.bool s.other]):=m;clear n o m;go_wp2_with fail;refine (GW s l[j].n _).mono ?_
        cases J:kA s l[j].n with
        | false=>
          rintro e eA ⟨rfl,am⟩;have aW:=es a2 am;clear am;go_wp2_with fail;go_ret;exact ⟨ret_bool (p true (by simp [J])).symm,es F aW⟩
        | true=>
          rintro e eA ⟨rfl,am⟩;have n:=v.later am;have o:=D.later am;have m:=aT.later am;have aW:=es a2 am;clear am v D aT;clear av an aV af E ae H aj xz aF T X bc b9 b7 yz;obtain ⟨av,an,aV⟩:=n.c2;obtain ⟨af,E,ae,H,aj,xz⟩:=o.c5;obtain ⟨aF,T,X,bc,b9,b7,yz⟩:=m.c6;have v:Hid (eR eA w.heap.size [.map (some f),.map (some d)]):=n;have D:Hid (eR eA wr.heap.size [em l[j].op,em l[j].n,.string l[j].mod,.string l[j].name,.slice t l[j].args.length bo]):=o;have aT:Hid (eR eA (wr.heap.size+1) [.bool s.named,.bool s.number,em s.least,em s.most,.bool s.body,.bool s.other]):=m;clear n o m;go_wp2_with fail;refine (A1 s t l[j].args.length bo _).mono ?_
          cases S:h9 s l[j].args.length with
          | false=>
            rintro e eJ ⟨rfl,aX⟩;have b5:=es aW aX;clear aX;go_wp2_with fail;go_ret;exact ⟨ret_bool (p true (by simp [S])).symm,es F b5⟩
          | true=>
            rintro e eJ ⟨rfl,aX⟩;have n:=v.later aX;have o:=D.later aX;have m:=aT.later aX;have b5:=es aW aX;clear aX v D aT;clear av an aV af E ae H aj xz aF T X bc b9 b7 yz;obtain ⟨av,an,aV⟩:=n.c2;obtain ⟨af,E,ae,H,aj,xz⟩:=o.c5;obtain ⟨aF,T,X,bc,b9,b7,yz⟩:=m.c6;have v:Hid (eR eJ w.heap.size [.map (some f),.map (some d)]):=n;have D:Hid (eR eJ wr.heap.size [em l[j].op,em l[j].n,.string l[j].mod,.string l[j].name,.slice t l[j].args.length bo]):=o;have aT:Hid (eR eJ (wr.heap.size+1) [.bool s.named,.bool s.number,em s.least,em s.most,.bool s.body,.bool s.other]):=m;clear n o m;go_wp2_with fail;refine (az l[j].args t bo _ (aN.args.later b5) ((aJ.later F).later b5) (aq j a0)).mono ?_
            cases a6:hh k l[j].args with
            | false=>
              rintro e eZ ⟨rfl,aR⟩;have x:=es b5 aR;clear aR;go_wp2_with fail;go_ret;exact ⟨ret_bool (p true (by simp [a6])).symm,es F x⟩
            | true=>
              rintro e eZ ⟨rfl,aR⟩;have x:=es b5 aR;have n:=v.later aR;clear aR;have a4:Hid ((l.take (j+1)).all (fun q=>hx (hg q.op) q.mod q.name&&(kA (hg q.op) q.n&&(h9 (hg q.op) q.args.length&&hh k q.args)))=true):=P (by simp [G,J,S,a6]);go_wp2_with fail;go_roundw
              case rel=>exact ⟨j+1,by omega,by go_num,a4,es F x,n⟩
              case measure=>simp [intOf];omega
    . have P:Hid (l.all (fun q=>hx (hg q.op) q.mod q.name&&(kA (hg q.op) q.n&&(h9 (hg q.op) q.args.length&&hh k q.args)))=true):=kS ar a0
      go_wp2_with fail;go_ret;exact ⟨ret_bool (by rw [z.out,P.out]),F⟩
theorem G7 (c Y:Bool) (a5 a7:Int) (ay av:Bool) (w:World):(Instr.field 270 (.agg #[.bool c,.bool Y,em a5,em a7,.bool ay,.bool av]) 4).run prog w = .ok (.bool ay) w:=by kernel_rfl
theorem A9 (f d:Nat) (A:Nat->Prop):∀ (k:Nat),k<=6->∀ (l:List St) (a:OA) (I:Nat) (m:Int) (w:World),m=7 - (k:Int)->eE w A a l.length (fw l)->fS w f 15 hZ->fS w d 7 iT->
 ew 184 #[.agg #[.map (some f),.map (some d)],.slice a l.length I,em m] w fun e r=>e = .returned (.bool (gP k l))/\et w r
 | 0,_,l,a,I,m,w,ez,_,_,_=>by
   subst ez
   have z:Hid (gP 0 l=true):=by show _=_;simp [gP]
   go_enter func184,ntmps184;go_wp2_with fail;go_ret;exact ⟨ret_bool z.symm,ey _ _⟩
 | k + 1, N, l,a,I,m,w,ez,ax,g,u=>by
   have z:Hid (gP (k+1) l=l.all (fun s=>my s.op&&(ia 6 s.args&&(gP k s.body&&gP k s.other)))):=by show _=_;simp [gP]
   have bC:=ax.bound
   have au:1<=m:=by omega
   have V:m<=6:=by omega
   have az:Hid (∀ (l:List St) (a:OA) (I:Nat) (w:World),eE w A a l.length (fw l)->fS w f 15 hZ->fS w d 7 iT->
    ew 184 #[.agg #[.map (some f),.map (some d)],.slice a l.length I,em (m+1)] w fun e r=>e = .returned (.bool (gP k l))/\et w r):=
    fun l a I w G J S=>A9 f d A k (by omega) l a I (m+1) w (by omega) G J S
   have aK:Hid (eE w A a l.length (fw l)):=ax;have aJ:Hid (fS w f 15 hZ):=g;have bl:Hid (fS w d 7 iT):=u;clear ax g u ez;have ad:Hid (eR (w.alloc (.cells #[.map (some f),.map (some d)] 235)) w.heap.size [.map (some f),.map (some d)]):=eR.new w _ _;go_enter func184,ntmps184;go_wp2_with fail
   go_loopw [15] (fun i wr=>∃ j:Nat,j<=l.length/\i=em j/\(l.take j).all (fun s=>my s.op&&(ia 6 s.args&&(gP k s.body&&gP k s.other)))=true/\et w wr/\eR wr w.heap.size [.map (some f),.map (some d)]) (fun i _=>l.length - (intOf i).toNat)
   case atStart=>exact ⟨0,eY _,rfl,rfl,ey _ _,ad⟩
   case round =>
    clear ad;obtain ⟨j,ac,rfl,aO,F,ab⟩:=hrel;have av:=ab.cell 0 _ rfl;have an:=ab.cell 1 _ rfl;have aV:=ab.lt;have ad:Hid (eR wr w.heap.size [.map (some f),.map (some d)]):=ab;have ar:Hid ((l.take j).all (fun s=>my s.op&&(ia 6 s.args&&(gP k s.body&&gP k s.other)))=true):=aO;clear aO ab
    by_cases a0:j<l.length
    . obtain ⟨b,C,Y,be,a5,fE,a7,gq,rfl,Q⟩:=(aK.later F).st j a0
      have ao:=Q.c0;have aM:=Q.c1;have b1:=Q.c2;have R:=Q.c3;have aa:=Q.c4;have W:=Q.c5;have bz:=Q.lt;have U:=Q.args.bound;have a8:=Q.body.bound;have K:=Q.other.bound;have aN:Hid (ul wr A b (C+j*6) l[j] Y be a5 fE a7 gq):=Q
      have p:Hid ((my l[j].op&&(ia 6 l[j].args&&(gP k l[j].body&&gP k l[j].other)))=false->gP (k+1) l=false):=fun h=>by rw [z.out];exact all_not l _ j a0 h
      have P:Hid ((my l[j].op&&(ia 6 l[j].args&&(gP k l[j].body&&gP k l[j].other)))=true->(l.take (j+1)).all (fun s=>my s.op&&(ia 6 s.args&&(gP k s.body&&gP k s.other)))=true):=fun h=>by rw [all_snoc l _ j a0,ar.out,h];rfl
      have y:=((bl.later F).later (ey _ (jA l[j].op l[j].mod l[j].name Y l[j].args.length be a5 l[j].body.length fE a7 l[j].other.length gq))).look_ok Q.wop;clear Q
      cases M:(iT l[j].op).isSome with
      | false=>
        rw [M] at y;simp only [Sh.val] at y;go_wp2_with fail;go_ret;exact ⟨ret_bool (p (by simp [my,M])).symm,es F (fq _ _ _)⟩
      | true=>
        rw [M] at y;generalize Z:(iT l[j].op).getD mW=s at y;simp only [Sh.val] at y;clear Z;go_wp2_with fail;refine (A5 f d A 6 (by omega) l[j].args Y be 1 _ (by omega) (aN.args.later (fq _ _ _)) ((aJ.later F).later (fq _ _ _))).mono ?_
        cases G:ia 6 l[j].args with
        | false=>
          rintro e eC ⟨rfl,c3⟩;go_wp2_with fail;go_ret;exact ⟨ret_bool (p (by simp [G])).symm,uw F c3⟩
        | true=>
          rintro e eC ⟨rfl,c3⟩;have n:=(ad.later (fq _ _ _)).later c3;have o:=(eR.new1 wr #[em l[j].op,.string l[j].mod,.string l[j].name,.slice Y l[j].args.length be,.slice a5 l[j].body.length fE,.slice a7 l[j].other.length gq] 176 _).later c3;have a2:et wr eC:=es (fq _ _ _) c3;clear c3 av an aV;obtain ⟨av,an,aV⟩:=n.c2;obtain ⟨af,E,ae,H,aj,al,xz⟩:=o.c6;have v:Hid (eR eC w.heap.size [.map (some f),.map (some d)]):=n;have D:Hid (eR eC wr.heap.size [em l[j].op,.string l[j].mod,.string l[j].name,.slice Y l[j].args.length be,.slice a5 l[j].body.length fE,.slice a7 l[j].other.length gq]):=o;clear n o;go_wp2_with fail;refine (az l[j].body a5 fE _ (aN.body.later a2) ((aJ.later F).later a2) ((bl.later F).later a2)).mono ?_
          cases J:gP k l[j].body with
          | false=>
            rintro e eA ⟨rfl,am⟩;have aW:=es a2 am;clear am;go_wp2_with fail;go_ret;exact ⟨ret_bool (p (by simp [J])).symm,es F aW⟩
          | true=>
            rintro e eA ⟨rfl,am⟩;have n:=v.later am;have o:=D.later am;have aW:=es a2 am;clear am v D;clear av an aV af E ae H aj al xz;obtain ⟨av,an,aV⟩:=n.c2;obtain ⟨af,E,ae,H,aj,al,xz⟩:=o.c6;have v:Hid (eR eA w.heap.size [.map (some f),.map (some d)]):=n;have D:Hid (eR eA wr.heap.size [em l[j].op,.string l[j].mod,.string l[j].name,.slice Y l[j].args.length be,.slice a5 l[j].body.length fE,.slice a7 l[j].other.length gq]):=o;clear n o;go_wp2_with fail;refine (az l[j].other a7 gq _ (aN.other.later aW) ((aJ.later F).later aW) ((bl.later F).later aW)).mono ?_
            cases S:gP k l[j].other with
            | false=>
              rintro e eJ ⟨rfl,aX⟩;have b5:=es aW aX;clear aX;go_wp2_with fail;go_ret;exact ⟨ret_bool (p (by simp [S])).symm,es F b5⟩
            | true=>
              rintro e eJ ⟨rfl,aX⟩;have c:=v.later aX;have b5:=es aW aX;clear aX;have a4:Hid ((l.take (j+1)).all (fun s=>my s.op&&(ia 6 s.args&&(gP k s.body&&gP k s.other)))=true):=P (by simp [my,M,G,J,S]);go_wp2_with fail;go_roundw
              case rel=>exact ⟨j+1,by omega,by go_num,a4,es F b5,c⟩
              case measure=>simp [intOf];omega
    . have P:Hid (l.all (fun s=>my s.op&&(ia 6 s.args&&(gP k s.body&&gP k s.other)))=true):=kS ar a0
      go_wp2_with fail;go_ret;exact ⟨ret_bool (by rw [z.out,P.out]),F⟩
theorem Ba (f d:Nat) (A:Nat->Prop):∀ (k:Nat),k<=6->∀ (l:List St) (a:OA) (I:Nat) (m:Int) (w:World),m=7 - (k:Int)->eE w A a l.length (fw l)->fS w f 15 hZ->fS w d 7 iT->
 ew 185 #[.agg #[.map (some f),.map (some d)],.slice a l.length I,em m] w fun e r=>e = .returned (.bool (fC k l))/\et w r
 | 0,_,l,a,I,m,w,ez,_,_,_=>by
   subst ez
   have z:Hid (fC 0 l=true):=by show _=_;simp [fC]
   go_enter func185,ntmps185;go_wp2_with fail;go_ret;exact ⟨ret_bool z.symm,ey _ _⟩
 | k + 1, N, l,a,I,m,w,ez,ax,g,u=>by
   have z:Hid (fC (k+1) l=(decide (10<l.length)||l.any (fun s=>gh 6 s.args||(((fA s.op).body||decide (0<s.body.length))&&fC k s.body||(decide (0<s.other.length)&&fC k s.other))))):=by show _=_;simp [fC]
   have bC:=ax.bound
   have au:1<=m:=by omega
   have V:m<=6:=by omega
   have az:Hid (∀ (l:List St) (a:OA) (I:Nat) (w:World),eE w A a l.length (fw l)->fS w f 15 hZ->fS w d 7 iT->
    ew 185 #[.agg #[.map (some f),.map (some d)],.slice a l.length I,em (m+1)] w fun e r=>e = .returned (.bool (fC k l))/\et w r):=
    fun l a I w G J S=>Ba f d A k (by omega) l a I (m+1) w (by omega) G J S
   have aK:Hid (eE w A a l.length (fw l)):=ax;have aJ:Hid (fS w f 15 hZ):=g;have bl:Hid (fS w d 7 iT):=u;clear ax g u ez;have ad:Hid (eR (w.alloc (.cells #[.map (some f),.map (some d)] 235)) w.heap.size [.map (some f),.map (some d)]):=eR.new w _ _
   by_cases B:10<l.length
   . have aF:Hid (fC (k+1) l=true):=by show _=_;rw [z.out];simp [B]
     go_enter func185,ntmps185;go_wp2_with fail;go_ret;exact ⟨ret_bool aF.symm,ey _ _⟩
   have aF:Hid (fC (k+1) l=l.any (fun s=>gh 6 s.args||(((fA s.op).body||decide (0<s.body.length))&&fC k s.body||(decide (0<s.other.length)&&fC k s.other)))):=by show _=_;rw [z.out];simp [B]
   clear z;go_enter func185,ntmps185;go_wp2_with fail
   go_loopw [18] (fun i wr=>∃ j:Nat,j<=l.length/\i=em j/\(l.take j).any (fun s=>gh 6 s.args||(((fA s.op).body||decide (0<s.body.length))&&fC k s.body||(decide (0<s.other.length)&&fC k s.other)))=false/\et w wr/\eR wr w.heap.size [.map (some f),.map (some d)]) (fun i _=>l.length - (intOf i).toNat)
   case atStart=>exact ⟨0,eY _,rfl,rfl,ey _ _,ad⟩
   case round =>
    clear ad;obtain ⟨j,ac,rfl,aO,F,ab⟩:=hrel;have av:=ab.cell 0 _ rfl;have an:=ab.cell 1 _ rfl;have aV:=ab.lt;have ad:Hid (eR wr w.heap.size [.map (some f),.map (some d)]):=ab;have ar:Hid ((l.take j).any (fun s=>gh 6 s.args||(((fA s.op).body||decide (0<s.body.length))&&fC k s.body||(decide (0<s.other.length)&&fC k s.other)))=false):=aO;clear aO ab
    by_cases a0:j<l.length
    . obtain ⟨b,C,Y,be,a5,fE,a7,gq,rfl,Q⟩:=(aK.later F).st j a0
      have ao:=Q.c0;have aM:=Q.c1;have b1:=Q.c2;have R:=Q.c3;have aa:=Q.c4;have W:=Q.c5;have bz:=Q.lt;have U:=Q.args.bound;have a8:=Q.body.bound;have K:=Q.other.bound;have aN:Hid (ul wr A b (C+j*6) l[j] Y be a5 fE a7 gq):=Q
      have p:Hid ((gh 6 l[j].args||(((fA l[j].op).body||decide (0<l[j].body.length))&&fC k l[j].body||(decide (0<l[j].other.length)&&fC k l[j].other)))=true->fC (k+1) l=true):=fun h=>by rw [aF.out];exact ur l _ j a0 h
      have P:Hid ((gh 6 l[j].args||(((fA l[j].op).body||decide (0<l[j].body.length))&&fC k l[j].body||(decide (0<l[j].other.length)&&fC k l[j].other)))=false->(l.take (j+1)).any (fun s=>gh 6 s.args||(((fA s.op).body||decide (0<s.body.length))&&fC k s.body||(decide (0<s.other.length)&&fC k s.other)))=false):=fun h=>by rw [uq l _ j a0,ar.out,h];rfl
      clear Q;go_wp2_with fail;refine (A8 A 6 (by omega) l[j].args Y be 1 _ (by omega) (aN.args.later (ey _ _))).mono ?_
      cases G:gh 6 l[j].args with
      | true=>
        rintro e eC ⟨rfl,c3⟩;go_wp2_with fail;go_ret;exact ⟨ret_bool (p (by simp [G])).symm,qx F c3⟩
      | false =>
        rintro e eC ⟨rfl,c3⟩;have n:=(ad.later (ey _ _)).later c3;have o:=(eR.new wr #[em l[j].op,.string l[j].mod,.string l[j].name,.slice Y l[j].args.length be,.slice a5 l[j].body.length fE,.slice a7 l[j].other.length gq] 176).later c3;have a2:et wr eC:=es (ey _ _) c3;clear c3 av an aV;obtain ⟨av,an,aV⟩:=n.c2;obtain ⟨af,E,ae,H,aj,al,xz⟩:=o.c6;have v:Hid (eR eC w.heap.size [.map (some f),.map (some d)]):=n;have D:Hid (eR eC wr.heap.size [em l[j].op,.string l[j].mod,.string l[j].name,.slice Y l[j].args.length be,.slice a5 l[j].body.length fE,.slice a7 l[j].other.length gq]):=o;clear n o;have y:(Instr.lookup 232 (.map (some d)) (em l[j].op) false).run prog eC = .ok (fA l[j].op).val eC:=((bl.later F).later a2).look aN.wop;simp only [Sh.val] at y;have t:=G7
        cases bw:(fA l[j].op).body with
        | true=>
          rw [bw] at y
          have aE:Hid (((fA l[j].op).body||decide (0<l[j].body.length))=true):=by show _=_;simp [bw]
          clear bw;go_wp2_with fail;refine (az l[j].body a5 fE _ (aN.body.later a2) ((aJ.later F).later a2) ((bl.later F).later a2)).mono ?_
          cases J:fC k l[j].body with
          | true=>
            rintro e eA ⟨rfl,am⟩;have aW:=es a2 am;clear am;go_wp2_with fail;go_ret;exact ⟨ret_bool (p (by simp [aE.out,J])).symm,es F aW⟩
          | false=>
            rintro e eA ⟨rfl,am⟩;have n:=v.later am;have o:=D.later am;have aW:=es a2 am;clear am v D;clear av an aV af E ae H aj al xz;obtain ⟨av,an,aV⟩:=n.c2;obtain ⟨af,E,ae,H,aj,al,xz⟩:=o.c6;have v:Hid (eR eA w.heap.size [.map (some f),.map (some d)]):=n;have D:Hid (eR eA wr.heap.size [em l[j].op,.string l[j].mod,.string l[j].name,.slice Y l[j].args.length be,.slice a5 l[j].body.length fE,.slice a7 l[j].other.length gq]):=o;clear n o
            have b2:Hid ((((fA l[j].op).body||decide (0<l[j].body.length))&&fC k l[j].body)=false):=by show _=_;simp [J]
            by_cases ap:0<l[j].other.length
            . go_wp2_with fail
              refine (az l[j].other a7 gq _ (aN.other.later aW) ((aJ.later F).later aW) ((bl.later F).later aW)).mono ?_
              cases aw:fC k l[j].other with
              | true=>
                rintro e bd ⟨rfl,L⟩;have bK:=es aW L;clear L;go_wp2_with fail;go_ret;exact ⟨ret_bool (p (by simp [ap,aw])).symm,es F bK⟩
              | false=>
                rintro e bd ⟨rfl,L⟩;have c:=v.later L;have bK:=es aW L;clear L;have a4:Hid ((l.take (j+1)).any (fun s=>gh 6 s.args||(((fA s.op).body||decide (0<s.body.length))&&fC k s.body||(decide (0<s.other.length)&&fC k s.other)))=false):=P (by simp [G,aw,b2.out]);go_wp2_with fail;go_roundw
                case rel=>exact ⟨j+1,by omega,by go_num,a4,es F bK,c⟩
                case measure=>simp [intOf];omega
            . have a4:Hid ((l.take (j+1)).any (fun s=>gh 6 s.args||(((fA s.op).body||decide (0<s.body.length))&&fC k s.body||(decide (0<s.other.length)&&fC k s.other)))=false):=P (by simp [G,ap,b2.out])
              have c:=v.out;go_wp2_with fail;go_roundw
              case rel=>exact ⟨j+1,by omega,by go_num,a4,es F aW,c⟩
              case measure=>simp [intOf];omega
        | false =>
          rw [bw] at y
          by_cases a6:0<l[j].body.length
          . have aE:Hid (((fA l[j].op).body||decide (0<l[j].body.length))=true):=by show _=_;simp [a6]
            clear bw;go_wp2_with fail;refine (az l[j].body a5 fE _ (aN.body.later a2) ((aJ.later F).later a2) ((bl.later F).later a2)).mono ?_
            cases J:fC k l[j].body with
            | true=>
              rintro e eA ⟨rfl,am⟩;have aW:=es a2 am;clear am;go_wp2_with fail;go_ret;exact ⟨ret_bool (p (by simp [aE.out,J])).symm,es F aW⟩
            | false=>
              rintro e eA ⟨rfl,am⟩;have n:=v.later am;have o:=D.later am;have aW:=es a2 am;clear am v D;clear av an aV af E ae H aj al xz;obtain ⟨av,an,aV⟩:=n.c2;obtain ⟨af,E,ae,H,aj,al,xz⟩:=o.c6;have v:Hid (eR eA w.heap.size [.map (some f),.map (some d)]):=n;have D:Hid (eR eA wr.heap.size [em l[j].op,.string l[j].mod,.string l[j].name,.slice Y l[j].args.length be,.slice a5 l[j].body.length fE,.slice a7 l[j].other.length gq]):=o;clear n o
              have b2:Hid ((((fA l[j].op).body||decide (0<l[j].body.length))&&fC k l[j].body)=false):=by show _=_;simp [J]
              by_cases ap:0<l[j].other.length
              . go_wp2_with fail
                refine (az l[j].other a7 gq _ (aN.other.later aW) ((aJ.later F).later aW) ((bl.later F).later aW)).mono ?_
                cases aw:fC k l[j].other with
                | true=>
                  rintro e bd ⟨rfl,L⟩;have bK:=es aW L;clear L;go_wp2_with fail;go_ret;exact ⟨ret_bool (p (by simp [ap,aw])).symm,es F bK⟩
                | false=>
                  rintro e bd ⟨rfl,L⟩;have c:=v.later L;have bK:=es aW L;clear L;have a4:Hid ((l.take (j+1)).any (fun s=>gh 6 s.args||(((fA s.op).body||decide (0<s.body.length))&&fC k s.body||(decide (0<s.other.length)&&fC k s.other)))=false):=P (by simp [G,aw,b2.out]);go_wp2_with fail;go_roundw
                  case rel=>exact ⟨j+1,by omega,by go_num,a4,es F bK,c⟩
                  case measure=>simp [intOf];omega
              . have a4:Hid ((l.take (j+1)).any (fun s=>gh 6 s.args||(((fA s.op).body||decide (0<s.body.length))&&fC k s.body||(decide (0<s.other.length)&&fC k s.other)))=false):=P (by simp [G,ap,b2.out])
                have c:=v.out;go_wp2_with fail;go_roundw
                case rel=>exact ⟨j+1,by omega,by go_num,a4,es F aW,c⟩
                case measure=>simp [intOf];omega
          . have b2:Hid ((((fA l[j].op).body||decide (0<l[j].body.length))&&fC k l[j].body)=false):=by show _=_;simp [bw,a6]
            clear bw
            by_cases ap:0<l[j].other.length
            . go_wp2_with fail
              refine (az l[j].other a7 gq _ (aN.other.later a2) ((aJ.later F).later a2) ((bl.later F).later a2)).mono ?_
              cases aw:fC k l[j].other with
              | true=>
                rintro e bd ⟨rfl,L⟩;have bK:=es a2 L;clear L;go_wp2_with fail;go_ret;exact ⟨ret_bool (p (by simp [ap,aw])).symm,es F bK⟩
              | false=>
                rintro e bd ⟨rfl,L⟩;have c:=v.later L;have bK:=es a2 L;clear L;have a4:Hid ((l.take (j+1)).any (fun s=>gh 6 s.args||(((fA s.op).body||decide (0<s.body.length))&&fC k s.body||(decide (0<s.other.length)&&fC k s.other)))=false):=P (by simp [G,aw,b2.out]);go_wp2_with fail;go_roundw
                case rel=>exact ⟨j+1,by omega,by go_num,a4,es F bK,c⟩
                case measure=>simp [intOf];omega
            . have a4:Hid ((l.take (j+1)).any (fun s=>gh 6 s.args||(((fA s.op).body||decide (0<s.body.length))&&fC k s.body||(decide (0<s.other.length)&&fC k s.other)))=false):=P (by simp [G,ap,b2.out])
              have c:=v.out;go_wp2_with fail;go_roundw
              case rel=>exact ⟨j+1,by omega,by go_num,a4,es F a2,c⟩
              case measure=>simp [intOf];omega
    . have P:Hid (l.any (fun s=>gh 6 s.args||(((fA s.op).body||decide (0<s.body.length))&&fC k s.body||(decide (0<s.other.length)&&fC k s.other)))=false):=ut ar a0
      go_wp2_with fail;go_ret;exact ⟨ret_bool (by rw [aF.out,P.out]),F⟩
theorem G8 {k:Nat} {l:List St} (h:l.length=0\/fC (k+1) l=false) (j:Nat) (ac:j<l.length):gh 6 l[j].args=false/\(l[j].body.length=0\/fC k l[j].body=false)/\(l[j].other.length=0\/fC k l[j].other=false):=by
 rcases h with h | h
 . omega
 . simp only [fC,jf,oq] at h
   have:=h.2 l[j] (fO ac);simp only [rp,jf,tU,decide_eq_false_iff_not] at this;refine ⟨this.1,?_,?_⟩
   . rcases this.2.1 with G | G
     . left;omega
     . exact Or.inr G
   . rcases this.2.2 with G | G
     . left;omega
     . exact Or.inr G
theorem G9 (f d:Nat) (A:Nat->Prop):∀ (k:Nat) (l:List St) (a:OA) (I:Nat) (w:World),eE w A a l.length (fw l)->fS w f 15 hZ->fS w d 7 iT->(l.length=0\/fC k l=false)->
 ew 189 #[.agg #[.map (some f),.map (some d)],.slice a l.length I] w fun e r=>e = .returned (.bool (gp k l))/\et w r:=by
 intro k
 induction k with
 | zero=>
   intro l a I w ax g u aS
   have a3 : l.length = 0 := by rcases aS with h | h
                                . exact h
                                . simp [fC] at h
   have z:Hid (gp 0 l=true):=by show _=_;simp [gp]
   rw [a3];go_enter func189,ntmps189;go_wp2_with fail
   go_loopw [10] (fun i wr=>i=em 0/\et w wr) (fun _ _=>0)
   case atStart=>exact ⟨rfl,ey _ _⟩
   case round=>
    obtain ⟨rfl,F⟩:=hrel;go_wp2_with fail;go_ret;exact ⟨ret_bool z.symm,F⟩
 | succ k aH=>
   intro l a I w ax g u aS
   have z:Hid (gp (k+1) l=l.all (fun s=>hx (fA s.op) s.mod s.name&&(h9 (fA s.op) s.args.length&&(hh 6 s.args&&(((fA s.op).body||decide (s.body.length=0))&&(((fA s.op).other||decide (s.other.length=0))&&(gp k s.body&&gp k s.other))))))):=by show _=_;simp [gp]
   have bC:=ax.bound
   have az:Hid (∀ (l:List St) (a:OA) (I:Nat) (w:World),eE w A a l.length (fw l)->fS w f 15 hZ->fS w d 7 iT->(l.length=0\/fC k l=false)->
    ew 189 #[.agg #[.map (some f),.map (some d)],.slice a l.length I] w fun e r=>e = .returned (.bool (gp k l))/\et w r):=aH
   have aK:Hid (eE w A a l.length (fw l)):=ax;have aJ:Hid (fS w f 15 hZ):=g;have bl:Hid (fS w d 7 iT):=u;have aq:Hid (∀ (j:Nat) (ac:j<l.length),gh 6 l[j].args=false/\(l[j].body.length=0\/fC k l[j].body=false)/\(l[j].other.length=0\/fC k l[j].other=false)):=G8 aS;clear ax g u aS aH;have ad:Hid (eR (w.alloc (.cells #[.map (some f),.map (some d)] 235)) w.heap.size [.map (some f),.map (some d)]):=eR.new w _ _;go_enter func189,ntmps189;go_wp2_with fail
   go_loopw [10] (fun i wr=>∃ j:Nat,j<=l.length/\i=em j/\(l.take j).all (fun s=>hx (fA s.op) s.mod s.name&&(h9 (fA s.op) s.args.length&&(hh 6 s.args&&(((fA s.op).body||decide (s.body.length=0))&&(((fA s.op).other||decide (s.other.length=0))&&(gp k s.body&&gp k s.other))))))=true/\et w wr/\eR wr w.heap.size [.map (some f),.map (some d)]) (fun i _=>l.length - (intOf i).toNat)
   case atStart=>exact ⟨0,eY _,rfl,rfl,ey _ _,ad⟩
   case round =>
    clear ad;obtain ⟨j,ac,rfl,aO,F,ab⟩:=hrel;have av:=ab.cell 0 _ rfl;have an:=ab.cell 1 _ rfl;have aV:=ab.lt;have ad:Hid (eR wr w.heap.size [.map (some f),.map (some d)]):=ab;have ar:Hid ((l.take j).all (fun s=>hx (fA s.op) s.mod s.name&&(h9 (fA s.op) s.args.length&&(hh 6 s.args&&(((fA s.op).body||decide (s.body.length=0))&&(((fA s.op).other||decide (s.other.length=0))&&(gp k s.body&&gp k s.other))))))=true):=aO;clear aO ab
    by_cases a0:j<l.length
    . obtain ⟨b, C, Y,be,a5,fE,a7,gq,rfl,Q⟩:=(aK.later F).st j a0
      have ao:=Q.c0;have aM:=Q.c1;have b1:=Q.c2;have R:=Q.c3;have aa:=Q.c4;have W:=Q.c5;have bz:=Q.lt;have U:=Q.args.bound;have a8:=Q.body.bound;have K:=Q.other.bound;have aN:Hid (ul wr A b (C+j*6) l[j] Y be a5 fE a7 gq):=Q
      have p:Hid ((hx (fA l[j].op) l[j].mod l[j].name&&(h9 (fA l[j].op) l[j].args.length&&(hh 6 l[j].args&&(((fA l[j].op).body||decide (l[j].body.length=0))&&(((fA l[j].op).other||decide (l[j].other.length=0))&&(gp k l[j].body&&gp k l[j].other))))))=false->gp (k+1) l=false):=fun h=>by rw [z.out];exact all_not l _ j a0 h
      have P:Hid ((hx (fA l[j].op) l[j].mod l[j].name&&(h9 (fA l[j].op) l[j].args.length&&(hh 6 l[j].args&&(((fA l[j].op).body||decide (l[j].body.length=0))&&(((fA l[j].op).other||decide (l[j].other.length=0))&&(gp k l[j].body&&gp k l[j].other))))))=true->(l.take (j+1)).all (fun s=>hx (fA s.op) s.mod s.name&&(h9 (fA s.op) s.args.length&&(hh 6 s.args&&(((fA s.op).body||decide (s.body.length=0))&&(((fA s.op).other||decide (s.other.length=0))&&(gp k s.body&&gp k s.other))))))=true):=fun h=>by rw [all_snoc l _ j a0,ar.out,h];rfl
      have y:(Instr.lookup 232 (.map (some d)) (em l[j].op) false).run prog (wr.alloc (jA l[j].op l[j].mod l[j].name Y l[j].args.length be a5 l[j].body.length fE a7 l[j].other.length gq)) = .ok (fA l[j].op).val (wr.alloc (jA l[j].op l[j].mod l[j].name Y l[j].args.length be a5 l[j].body.length fE a7 l[j].other.length gq)):=((bl.later F).later (ey _ (jA l[j].op l[j].mod l[j].name Y l[j].args.length be a5 l[j].body.length fE a7 l[j].other.length gq))).look Q.wop;clear Q;generalize Z:fA l[j].op=s at y p P;clear Z;simp only [Sh.val] at y;go_wp2_with fail;refine (A0 s l[j].mod l[j].name _ aN.wm aN.wna).mono ?_
      cases G:hx s l[j].mod l[j].name with
      | false=>
        rintro e eC ⟨rfl,c3⟩;go_wp2_with fail;go_ret;exact ⟨ret_bool (p (by simp [G])).symm,uw F c3⟩
      | true=>
        rintro e eC ⟨rfl,c3⟩;have n:=(ad.later (fq _ _ _)).later c3;have o:=(eR.new1 wr #[em l[j].op,.string l[j].mod,.string l[j].name,.slice Y l[j].args.length be,.slice a5 l[j].body.length fE,.slice a7 l[j].other.length gq] 176 _).later c3;have m:=(eR.new2 wr #[.bool s.named,.bool s.number,em s.least,em s.most,.bool s.body,.bool s.other] 270 _).later c3;have a2:et wr eC:=es (fq _ _ _) c3;clear c3 av an aV;obtain ⟨av,an,aV⟩:=n.c2;obtain ⟨af,E,ae,H,aj,al,xz⟩:=o.c6;obtain ⟨aF,T,X,bc,b9,b7,yz⟩:=m.c6;have v:Hid (eR eC w.heap.size [.map (some f),.map (some d)]):=n;have D:Hid (eR eC wr.heap.size [em l[j].op,.string l[j].mod,.string l[j].name,.slice Y l[j].args.length be,.slice a5 l[j].body.length fE,.slice a7 l[j].other.length gq]):=o;have aT:Hid (eR eC (wr.heap.size+1) [.bool s.named,.bool s.number,em s.least,em s.most,.bool s.body,.bool s.other]):=m
        clear n o m;go_wp2_with fail;refine (A1 s Y l[j].args.length be _).mono ?_
        cases J:h9 s l[j].args.length with
        | false=>
          rintro e eA ⟨rfl,am⟩;have aW:=es a2 am;clear am;go_wp2_with fail;go_ret;exact ⟨ret_bool (p (by simp [J])).symm,es F aW⟩
        | true=>
          rintro e eA ⟨rfl,am⟩;have n:=v.later am;have o:=D.later am;have m:=aT.later am;have aW:=es a2 am;clear am v D aT;clear av an aV af E ae H aj al xz aF T X bc b9 b7 yz;obtain ⟨av,an,aV⟩:=n.c2;obtain ⟨af,E,ae,H,aj,al,xz⟩:=o.c6;obtain ⟨aF,T,X,bc,b9,b7,yz⟩:=m.c6;have v:Hid (eR eA w.heap.size [.map (some f),.map (some d)]):=n;have D:Hid (eR eA wr.heap.size [em l[j].op,.string l[j].mod,.string l[j].name,.slice Y l[j].args.length be,.slice a5 l[j].body.length fE,.slice a7 l[j].other.length gq]):=o;have aT:Hid (eR eA (wr.heap.size+1) [.bool s.named,.bool s.number,em s.least,em s.most,.bool s.body,.bool s.other]):=m;clear n o m;go_wp2_with fail;refine (G6 f d A 6 l[j].args Y be _ (aN.args.later aW) ((aJ.later F).later aW) (aq j a0).1).mono ?_
          cases S:hh 6 l[j].args with
          | false=>
            rintro e eJ ⟨rfl,aX⟩;have b5:=es aW aX;clear aX;go_wp2_with fail;go_ret;exact ⟨ret_bool (p (by simp [S])).symm,es F b5⟩
          | true=>
            rintro e eJ ⟨rfl,aX⟩;have n:=v.later aX;have o:=D.later aX;have m:=aT.later aX;have b5:=es aW aX;clear aX v D aT;clear av an aV af E ae H aj al xz aF T X bc b9 b7 yz;obtain ⟨av,an,aV⟩:=n.c2;obtain ⟨af,E,ae,H,aj,al,xz⟩:=o.c6;obtain ⟨aF,T,X,bc,b9,b7,yz⟩:=m.c6;have v:Hid (eR eJ w.heap.size [.map (some f),.map (some d)]):=n;have D:Hid (eR eJ wr.heap.size [em l[j].op,.string l[j].mod,.string l[j].name,.slice Y l[j].args.length be,.slice a5 l[j].body.length fE,.slice a7 l[j].other.length gq]):=o;have aT:Hid (eR eJ (wr.heap.size+1) [.bool s.named,.bool s.number,em s.least,em s.most,.bool s.body,.bool s.other]):=m;clear n o m
            cases bw:s.body with
            | false =>
              rw [bw] at b9
              by_cases a6:0<l[j].body.length
              . go_wp2_with fail
                go_ret;exact ⟨ret_bool (p (by simp [bw,show ¬ l[j].body.length=0 from by omega])).symm,es F b5⟩
              . have aE : Hid ((s.body||decide (l[j].body.length=0))=true):=by show _=_;simp [show l[j].body.length=0 from by omega]
                cases t:s.other with
                | false =>
                  rw [t] at b7
                  by_cases ap:0<l[j].other.length
                  . go_wp2_with fail
                    go_ret;exact ⟨ret_bool (p (by simp [t,show ¬ l[j].other.length=0 from by omega])).symm,es F b5⟩
                  . have aG:Hid ((s.other||decide (l[j].other.length=0))=true):=by show _=_;simp [show l[j].other.length=0 from by omega]
                    go_wp2_with fail;refine (az l[j].body a5 fE _ (aN.body.later b5) ((aJ.later F).later b5) ((bl.later F).later b5) (aq j a0).2.1).mono ?_
                    cases ah:gp k l[j].body with
                    | false=>
                      rintro e eZ ⟨rfl,aR⟩;have x:=es b5 aR;clear aR;go_wp2_with fail;go_ret;exact ⟨ret_bool (p (by simp [ah])).symm,es F x⟩
                    | true=>
                      rintro e eZ ⟨rfl,aR⟩;have n:=v.later aR;have o:=D.later aR;have m:=aT.later aR;have x:=es b5 aR;clear aR v D aT;clear av an aV af E ae H aj al xz aF T X bc b9 b7 yz;obtain ⟨av,an,aV⟩:=n.c2;obtain ⟨af,E,ae,H,aj,al,xz⟩:=o.c6;obtain ⟨aF,T,X,bc,b9,b7,yz⟩:=m.c6;have v:Hid (eR eZ w.heap.size [.map (some f),.map (some d)]):=n;have D:Hid (eR eZ wr.heap.size [em l[j].op,.string l[j].mod,.string l[j].name,.slice Y l[j].args.length be,.slice a5 l[j].body.length fE,.slice a7 l[j].other.length gq]):=o;have aT:Hid (eR eZ (wr.heap.size+1) [.bool s.named,.bool s.number,em s.least,em s.most,.bool s.body,.bool s.other]):=m;clear n o m;go_wp2_with fail;refine (az l[j].other a7 gq _ (aN.other.later x) ((aJ.later F).later x) ((bl.later F).later x) (aq j a0).2.2).mono ?_
                      cases q:gp k l[j].other with
                      | false=>
                        rintro e eW ⟨rfl,c7⟩;have O:=es x c7;clear c7;go_wp2_with fail;go_ret;exact ⟨ret_bool (p (by simp [q])).symm,es F O⟩
                      | true=>
                        rintro e eW ⟨rfl,c7⟩;have c:=v.later c7;have O:=es x c7;clear c7;have a4:Hid ((l.take (j+1)).all (fun s=>hx (fA s.op) s.mod s.name&&(h9 (fA s.op) s.args.length&&(hh 6 s.args&&(((fA s.op).body||decide (s.body.length=0))&&(((fA s.op).other||decide (s.other.length=0))&&(gp k s.body&&gp k s.other))))))=true):=P (by rw [G,J,S,aE.out,aG.out,ah,q];rfl);go_wp2_with fail;go_roundw
                        case rel=>exact ⟨j+1,by omega,by go_num,a4,es F O,c⟩
                        case measure=>simp [intOf];omega
                | true=>
                  rw [t] at b7
                  have aG:Hid ((s.other||decide (l[j].other.length=0))=true):=by show _=_;simp [t]
                  go_wp2_with fail;refine (az l[j].body a5 fE _ (aN.body.later b5) ((aJ.later F).later b5) ((bl.later F).later b5) (aq j a0).2.1).mono ?_
                  cases ah:gp k l[j].body with
                  | false=>
                    rintro e eZ ⟨rfl,aR⟩;have x:=es b5 aR;clear aR;go_wp2_with fail;go_ret;exact ⟨ret_bool (p (by simp [ah])).symm,es F x⟩
                  | true=>
                    rintro e eZ ⟨rfl,aR⟩;have n:=v.later aR;have o:=D.later aR;have m:=aT.later aR;have x:=es b5 aR;clear aR v D aT;clear av an aV af E ae H aj al xz aF T X bc b9 b7 yz;obtain ⟨av,an,aV⟩:=n.c2;obtain ⟨af,E,ae,H,aj,al,xz⟩:=o.c6;obtain ⟨aF,T,X,bc,b9,b7,yz⟩:=m.c6;have v:Hid (eR eZ w.heap.size [.map (some f),.map (some d)]):=n;have D:Hid (eR eZ wr.heap.size [em l[j].op,.string l[j].mod,.string l[j].name,.slice Y l[j].args.length be,.slice a5 l[j].body.length fE,.slice a7 l[j].other.length gq]):=o;have aT:Hid (eR eZ (wr.heap.size+1) [.bool s.named,.bool s.number,em s.least,em s.most,.bool s.body,.bool s.other]):=m;clear n o m;go_wp2_with fail;refine (az l[j].other a7 gq _ (aN.other.later x) ((aJ.later F).later x) ((bl.later F).later x) (aq j a0).2.2).mono ?_
                    cases q:gp k l[j].other with
                    | false=>
                      rintro e eW ⟨rfl,c7⟩;have O:=es x c7;clear c7;go_wp2_with fail;go_ret;exact ⟨ret_bool (p (by simp [q])).symm,es F O⟩
                    | true=>
                      rintro e eW ⟨rfl,c7⟩;have c:=v.later c7;have O:=es x c7;clear c7;have a4:Hid ((l.take (j+1)).all (fun s=>hx (fA s.op) s.mod s.name&&(h9 (fA s.op) s.args.length&&(hh 6 s.args&&(((fA s.op).body||decide (s.body.length=0))&&(((fA s.op).other||decide (s.other.length=0))&&(gp k s.body&&gp k s.other))))))=true):=P (by rw [G,J,S,aE.out,aG.out,ah,q];rfl);go_wp2_with fail;go_roundw
                      case rel=>exact ⟨j+1,by omega,by go_num,a4,es F O,c⟩
                      case measure=>simp [intOf];omega
            | true=>
              rw [bw] at b9
              have aE:Hid ((s.body||decide (l[j].body.length=0))=true):=by show _=_;simp [bw]
              cases t:s.other with
              | false =>
                rw [t] at b7
                by_cases ap:0<l[j].other.length
                . go_wp2_with fail
                  go_ret;exact ⟨ret_bool (p (by simp [t,show ¬ l[j].other.length=0 from by omega])).symm,es F b5⟩
                . have aG:Hid ((s.other||decide (l[j].other.length=0))=true):=by show _=_;simp [show l[j].other.length=0 from by omega]
                  go_wp2_with fail;refine (az l[j].body a5 fE _ (aN.body.later b5) ((aJ.later F).later b5) ((bl.later F).later b5) (aq j a0).2.1).mono ?_
                  cases ah:gp k l[j].body with
                  | false=>
                    rintro e eZ ⟨rfl,aR⟩;have x:=es b5 aR;clear aR;go_wp2_with fail;go_ret;exact ⟨ret_bool (p (by simp [ah])).symm,es F x⟩
                  | true=>
                    rintro e eZ ⟨rfl,aR⟩;have n:=v.later aR;have o:=D.later aR;have m:=aT.later aR;have x:=es b5 aR;clear aR v D aT;clear av an aV af E ae H aj al xz aF T X bc b9 b7 yz;obtain ⟨av,an,aV⟩:=n.c2;obtain ⟨af,E,ae,H,aj,al,xz⟩:=o.c6;obtain ⟨aF,T,X,bc,b9,b7,yz⟩:=m.c6;have v:Hid (eR eZ w.heap.size [.map (some f),.map (some d)]):=n;have D:Hid (eR eZ wr.heap.size [em l[j].op,.string l[j].mod,.string l[j].name,.slice Y l[j].args.length be,.slice a5 l[j].body.length fE,.slice a7 l[j].other.length gq]):=o;have aT:Hid (eR eZ (wr.heap.size+1) [.bool s.named,.bool s.number,em s.least,em s.most,.bool s.body,.bool s.other]):=m;clear n o m;go_wp2_with fail;refine (az l[j].other a7 gq _ (aN.other.later x) ((aJ.later F).later x) ((bl.later F).later x) (aq j a0).2.2).mono ?_
                    cases q:gp k l[j].other with
                    | false=>
                      rintro e eW ⟨rfl,c7⟩;have O:=es x c7;clear c7;go_wp2_with fail;go_ret;exact ⟨ret_bool (p (by simp [q])).symm,es F O⟩
                    | true=>
                      rintro e eW ⟨rfl,c7⟩;have c:=v.later c7;have O:=es x c7;clear c7;have a4:Hid ((l.take (j+1)).all (fun s=>hx (fA s.op) s.mod s.name&&(h9 (fA s.op) s.args.length&&(hh 6 s.args&&(((fA s.op).body||decide (s.body.length=0))&&(((fA s.op).other||decide (s.other.length=0))&&(gp k s.body&&gp k s.other))))))=true):=P (by rw [G,J,S,aE.out,aG.out,ah,q];rfl);go_wp2_with fail;go_roundw
                      case rel=>exact ⟨j+1,by omega,by go_num,a4,es F O,c⟩
                      case measure=>simp [intOf];omega
              | true=>
                rw [t] at b7
                have aG:Hid ((s.other||decide (l[j].other.length=0))=true):=by show _=_;simp [t]
                go_wp2_with fail;refine (az l[j].body a5 fE _ (aN.body.later b5) ((aJ.later F).later b5) ((bl.later F).later b5) (aq j a0).2.1).mono ?_
                cases ah:gp k l[j].body with
                | false=>
                  rintro e eZ ⟨rfl,aR⟩;have x:=es b5 aR;clear aR;go_wp2_with fail;go_ret;exact ⟨ret_bool (p (by simp [ah])).symm,es F x⟩
                | true=>
                  rintro e eZ ⟨rfl,aR⟩;have n:=v.later aR;have o:=D.later aR;have m:=aT.later aR;have x:=es b5 aR;clear aR v D aT;clear av an aV af E ae H aj al xz aF T X bc b9 b7 yz;obtain ⟨av,an,aV⟩:=n.c2;obtain ⟨af,E,ae,H,aj,al,xz⟩:=o.c6;obtain ⟨aF,T,X,bc,b9,b7,yz⟩:=m.c6;have v:Hid (eR eZ w.heap.size [.map (some f),.map (some d)]):=n;have D:Hid (eR eZ wr.heap.size [em l[j].op,.string l[j].mod,.string l[j].name,.slice Y l[j].args.length be,.slice a5 l[j].body.length fE,.slice a7 l[j].other.length gq]):=o;have aT:Hid (eR eZ (wr.heap.size+1) [.bool s.named,.bool s.number,em s.least,em s.most,.bool s.body,.bool s.other]):=m;clear n o m;go_wp2_with fail;refine (az l[j].other a7 gq _ (aN.other.later x) ((aJ.later F).later x) ((bl.later F).later x) (aq j a0).2.2).mono ?_
                  cases q:gp k l[j].other with
                  | false=>
                    rintro e eW ⟨rfl,c7⟩;have O:=es x c7;clear c7;go_wp2_with fail;go_ret;exact ⟨ret_bool (p (by simp [q])).symm,es F O⟩
                  | true=>
                    rintro e eW ⟨rfl,c7⟩;have c:=v.later c7;have O:=es x c7;clear c7;have a4:Hid ((l.take (j+1)).all (fun s=>hx (fA s.op) s.mod s.name&&(h9 (fA s.op) s.args.length&&(hh 6 s.args&&(((fA s.op).body||decide (s.body.length=0))&&(((fA s.op).other||decide (s.other.length=0))&&(gp k s.body&&gp k s.other))))))=true):=P (by rw [G,J,S,aE.out,aG.out,ah,q];rfl);go_wp2_with fail;go_roundw
                    case rel=>exact ⟨j+1,by omega,by go_num,a4,es F O,c⟩
                    case measure=>simp [intOf];omega
    . have P:Hid (l.all (fun s=>hx (fA s.op) s.mod s.name&&(h9 (fA s.op) s.args.length&&(hh 6 s.args&&(((fA s.op).body||decide (s.body.length=0))&&(((fA s.op).other||decide (s.other.length=0))&&(gp k s.body&&gp k s.other))))))=true):=kS ar a0
      go_wp2_with fail;go_ret;exact ⟨ret_bool (by rw [z.out,P.out]),F⟩
abbrev eV:Nat->Prop:=fun _=>True
theorem Tryz.infoBody:(prog.info? 25).map (fun i=>(i.zero,i.size,i.bytes))=some (some (eu),1,24):=by kernel_rfl
def lP (w:World) (ae:List Value) (d:List (List St)):Prop:=ae.length=d.length/\∀ i (h:i<d.length),∃ a c,ae[i]? = some (.slice a d[i].length c)/\eE w eV a d[i].length (fw d[i])
theorem lP.later {d:List (List St)} (h:lP w ae d) (F:et w r):lP r ae d:=
 ⟨h.1,fun i X=>by obtain ⟨a,c,G,J⟩:=h.2 i X;exact ⟨a,c,G,J.later F⟩⟩
theorem lP.nil (w:World):lP w [] []:=⟨rfl,fun i h=>by simp at h⟩
theorem lP.snoc {d:List (List St)} (h:lP w ae d) {l:List St} {c:Nat} (ez:eE w eV a l.length (fw l)):lP w (ae++[.slice a l.length c]) (d++[l]):=by
 refine ⟨by simp [h.1],fun i X=>?_⟩
 rcases iS i d.length with a0 | L
 . obtain ⟨ad,f,G,J⟩:=h.2 i a0
   refine ⟨ad,f,?_,?_⟩
   . rw [mR (by rw [h.1];exact a0),su a0];exact G
   . rw [su a0];exact J
 . have:i=d.length:=by simp at X;omega
   subst this;refine ⟨a,c,?_,?_⟩
   . rw [om (by rw [h.1];exact eD _),h.1];simp
   . simpa using ez
def pw (w:World) (a:OA) (d:List (List St)):Prop:=∀ i (h:i<d.length),∃ b C ad f,a=some (ep b C)/\b<w.heap.size/\w.cell? ⟨b,C+i,none⟩=some (.slice ad d[i].length f)/\eE w eV ad d[i].length (fw d[i])
theorem pw.later {d:List (List St)} (h:pw w a d) (F:et w r):pw r a d:=fun i X=>by
 obtain ⟨b,C,ad,f,G,J,S,a6⟩:=h i X;exact ⟨b,C,ad,f,G,gl J F.size,(F.cell (p:=⟨b,C+i,none⟩) J).trans S,a6.later F⟩
theorem lP.at {Y g n I:Nat} {d:List (List St)} (h:lP w ae d) (aW:w.ownsRow Y 25 1 (.slice (some (ep g 0)) n I) n ae):pw w (some (ep g 0)) d:=by
 intro i X;obtain ⟨ad,f,G,J⟩:=h.2 i X;have a1:=aW.cells (g:=g) rfl i _ G;have a0:=(aW.lt g rfl).2
 have e:((ep g 0):Addr).add i=(ep g i):=by unfold Addr.add;split<;>simp_all
 rw [e] at a1;exact ⟨g,0,ad,f,rfl,a0,by rw [hv];exact a1,J⟩
theorem eR.grown {a:Option Nat} (h:eR w b cs) (af:w.grownBy r a) (aV:some b≠a):eR r b cs:=
 ⟨gl h.lt af.size,fun j v ac=>(md (w:=w) (af.block b h.lt aV)).trans (h.cell j v ac)⟩
theorem Bb (w:World) (v:Value) (t:TypeId) (n:Nat) (U:n=w.heap.size):∀ j u,[v][j]? = some u->(w.alloc (.cells #[v] t)).cell? (((ep n 0):Addr).add j)=some u:=by
 subst U;intro j u ac
 have e:((ep w.heap.size 0):Addr).add j=(ep w.heap.size j):=by unfold Addr.add;split<;>simp_all
 rw [e];exact (eR.new w #[v] t).cell j u ac
theorem xn (m:fh) (v:Value) (Y:OA) (a9:Nat) (a5:OA) (a4:Nat) (a7:OA) (c3:Nat) (ay:OA) (am:Nat) (w:World) (aS:hm w eV m v Y a9 a5 a4 a7 c3 ay am) :
 ew 183 #[v] w fun e r=>∃ a I,e = .returned (.slice a m.bodies.length I)/\pw r a m.bodies/\et w r:=by
 obtain ⟨rfl,E,d,hDe,bp,hMa⟩:=aS;obtain ⟨bx,X,al,b0,bl⟩:=info_parts Tryz.infoBody
 have bC:m.procs.length<=3518437208883:=by
  have G:=bp.2.1
  have J:(hK m.procs).length=m.procs.length*5:=by
   unfold hK;rw [List.length_flatMap]
   have:∀ l:List fH,(l.map (fun q=>q.ds.length)).sum=l.length*5:=by
    intro l
    induction l with
    | nil=>rfl
    | cons q O aH=>rw [oy,List.sum_cons,aH,iH];have:q.ds.length=5:=rfl;omega
   exact this _
  omega
 have A:Hid (eE w eV a7 m.procs.length (hK m.procs)):=bp;have aq:Hid (eE w eV ay m.main.length (fw m.main)):=hMa;clear d hDe bp hMa;go_enter func183,ntmps183;go_wp2_with fail;have ad:=eR.new w #[.string m.name,.slice Y m.uses.length a9,.slice a5 m.decls.length a4,.slice a7 m.procs.length c3,.slice ay m.main.length am] 27
 go_loopw [9,3] (fun i v wr=>∃ (j:Nat) (ae:List Value),j<=m.procs.length/\i=em j/\wr.ownsRow (w.heap.size+1) 25 1 v j ae/\lP w ae ((m.procs.take j).map fH.body)/\et w wr/\eR wr w.heap.size [.string m.name,.slice Y m.uses.length a9,.slice a5 m.decls.length a4,.slice a7 m.procs.length c3,.slice ay m.main.length am]) (fun i _ _=>m.procs.length - (intOf i).toNat)
 case atStart=>exact ⟨0,[],eY _,rfl,ko _ _ _ _,lP.nil _,ey _ _,ad⟩
 case round=>
  clear ad;obtain ⟨j,ae,ac,rfl,aW,hBo,F,ab⟩:=hrel;have aG:Hid (wr.ownsRow (w.heap.size+1) 25 1 u3 j ae):=aW;have b2:Hid (lP w ae ((m.procs.take j).map fH.body)):=hBo;have ad:Hid (eR wr w.heap.size [.string m.name,.slice Y m.uses.length a9,.slice a5 m.decls.length a4,.slice a7 m.procs.length c3,.slice ay m.main.length am]):=ab;have b8:Hid (∀ k,u3.ownBlock=some k->w.heap.size+1<=k/\k<wr.heap.size):=aW.lt;obtain ⟨av,an,aD,aR,b3,aV⟩:=ab.c5;clear aW hBo ab
  by_cases a0:j<m.procs.length
  . obtain ⟨b,C,b7,aL,V,aU,b9,bd,rfl,Q⟩:=(A.later F).pr j a0
    have ao:=Q.c0;have aM:=Q.c1;have b1:=Q.c2;have R:=Q.c3;have aa:=Q.c4;have bz:=Q.lt
    have aN:Hid (eE w eV b9 m.procs[j].body.length (fw m.procs[j].body)):=by
     obtain ⟨bA,cf,b1',d1',b2',d2',b3',d3',e,a3⟩:=A.pr j a0
     injection e with e
     injection e with aw aE
     subst aw;subst aE;have a6:=(F.cell (p:=⟨b,C+j*5+4,none⟩) a3.lt).trans a3.c4;rw [Q.c4] at a6
     injection a6 with a6
     injection a6 with a6 _ _
     subst a6;exact a3.body
    have aJ:Hid ((m.procs.take (j+1)).map fH.body=(m.procs.take j).map fH.body++[m.procs[j].body]):=by
     show _=_
     rw [hI a0,mq];rfl
    clear Q
    go_wp2_with (at_builtin;refine wpList_append_lies _ rfl _ _ 271 rfl (w.heap.size+1) 25 bx _ 1 24 Tryz.underlying271 X al b0 bl rfl (by decide) _ j ae rfl ((aG.alloc _).alloc _) _ 1 1 [.slice b9 m.procs[j].body.length bd] rfl rfl (Bb _ _ _ _ (by simp)) (by simp [Value.oneCell']) (by omega) (by unfold maxLen;omega) (by omega) (by simp;omega) _ rfl ?_;intro g bo w2 c f h a1)
    have af:wr.grownBy w2 u3.ownBlock:=((vO wr _ _).trans (vO _ _ _)).trans f;have aB:et w w2:=F.grown af F.size (fun k N=>by have:=(b8 k N).1;omega);have aT:=ad.grown af (fun e=>by have:=(b8 _ e.symm).1;omega);clear f h af;go_roundw
    case rel=>exact ⟨j+1,ae++[.slice b9 m.procs[j].body.length bd],by omega,by go_num,c,by rw [aJ.out];exact b2.snoc aN,aB,aT⟩
    case measure=>simp [intOf];omega
  . have n:j=m.procs.length:=by omega
    subst n
    have aJ:Hid (m.bodies=(m.procs.take m.procs.length).map fH.body++[m.main]):=by show _=_;rw [iA];rfl
    have aF:Hid (m.bodies.length=m.procs.length+1):=by show _=_;simp [fh.bodies]
    go_wp2_with (at_builtin;refine wpList_append_lies _ rfl _ _ 271 rfl (w.heap.size+1) 25 bx _ 1 24 Tryz.underlying271 X al b0 bl rfl (by decide) _ m.procs.length ae rfl (aG.alloc _) _ 1 1 [.slice ay m.main.length am] rfl rfl (Bb _ _ _ _ (by simp)) (by simp [Value.oneCell']) (by omega) (by unfold maxLen;omega) (by omega) (by simp;omega) _ rfl ?_;intro g bo w2 c f h a1)
    have af:wr.grownBy w2 u3.ownBlock:=(vO wr _ _).trans f;have aB:et w w2:=F.grown af F.size (fun k N=>by have:=(b8 k N).1;omega);clear f h af;go_ret;refine ⟨some (ep g 0),bo,?_,?_,aB⟩
    . rw [aF.out];rfl
    have:=(b2.snoc (c:=am) aq).later aB;rw [aJ.out];exact this.at c
theorem Ha (s:ByteArray) (w:World) (Z:s.size<=maxLen) :
 ew 240 #[.string s] w fun e r=>e = .returned (.bool (!nameOk s))/\et w r:=by
 go_enter func240,ntmps240
 go_wp2_with (go_at_call 186;refine (pu s _ Z).mono ?_;rintro e r ⟨rfl,F⟩)
 go_ret;exact ⟨rfl,F⟩
theorem Hb (l:List ByteArray) (a:OA) (I:Nat) (w:World) (ax:eE w eV a l.length (fj l)) :
 ew 279 #[.slice a l.length I,.func (.func 240) #[] #[]] w fun e r=>∃ n:Int,e = .returned (em n)/\decide (0<=n) = !l.all nameOk/\et w r:=by
 have bC:=ax.bound;have aK:Hid (eE w eV a l.length (fj l)):=ax;clear ax;go_enter func279,ntmps279;go_wp2_with fail
 go_loopw [8] (fun i wr=>∃ j:Nat,j<=l.length/\i=em j/\(l.take j).all nameOk=true/\et w wr) (fun i _=>l.length - (intOf i).toNat)
 case atStart=>exact ⟨0,eY _,rfl,rfl,Below.refl _ _⟩
 case round=>
  obtain ⟨j,ac,rfl,aO,F⟩:=hrel;have ar:Hid ((l.take j).all nameOk=true):=aO;clear aO
  by_cases a0:j<l.length
  . obtain ⟨b,C,rfl,bz,a1,O⟩:=(aK.later F).str j a0
    go_wp2_with fail;refine (Ha l[j] _ O).mono ?_
    cases U:nameOk l[j] with
    | false=>
      have p:Hid (l.all nameOk=false):=all_not l _ j a0 U;rintro e eC ⟨rfl,a2⟩;go_wp2_with fail;go_ret;exact ⟨j,rfl,by rw [p.out];simp,es F a2⟩
    | true=>
      have P:Hid ((l.take (j+1)).all nameOk=true):=by
       show _=_
       rw [all_snoc l _ j a0,ar.out,U];rfl
      rintro e eC ⟨rfl,a2⟩;go_wp2_with fail;go_roundw
      case rel=>exact ⟨j+1,by omega,by go_num,P,es F a2⟩
      case measure=>simp [intOf];omega
  . have P:Hid (l.all nameOk=true):=kS ar a0
    go_wp2_with fail;go_ret;exact ⟨-1,rfl,by rw [P.out];rfl,F⟩
theorem xo (l:List ByteArray) (a:OA) (I:Nat) (w:World) (ax:eE w eV a l.length (fj l)) :
 ew 187 #[.slice a l.length I] w fun e r=>e = .returned (.bool (l.all nameOk))/\et w r:=by
 have ao:Hid (ew 239 #[.slice a l.length I,.func (.func 240) #[] #[]] w fun e r=>e = .returned (.bool (!l.all nameOk))/\et w r):=by
  have az:Hid (ew 279 #[.slice a l.length I,.func (.func 240) #[] #[]] w fun e r=>∃ n:Int,e = .returned (em n)/\decide (0<=n) = !l.all nameOk/\et w r):=Hb l a I w ax;clear ax;show Calls _ _ _ _ _;go_enter func239,ntmps239
  go_wp2_with (go_at_call 279;refine az.mono ?_;rintro e r ⟨n,rfl,U,F⟩)
  go_ret;exact ⟨rfl,F⟩
 clear ax;go_enter func187,ntmps187
 go_wp2_with (go_at_call 239;refine ao.mono ?_;rintro e r ⟨rfl,F⟩)
 go_ret;exact ⟨ret_bool (by simp),F⟩
abbrev mC (m:fh) (a:OA) (b:Nat) (c:OA) (e:Nat) (f:OA) (g:Nat) (h:OA) (i:Nat):Obj:=jB m.name a m.uses.length b c m.decls.length e f m.procs.length g h m.main.length i
theorem hid {q:Prop} (h:q):Hid q:=h
theorem ux {l:List fH} (h:eE w eV a l.length (hK l)):l.length<=3518437208883:=by
 have G:=h.2.1
 have J:(hK l).length=l.length*5:=by
  unfold hK;rw [List.length_flatMap]
  have:∀ l:List fH,(l.map (fun q=>q.ds.length)).sum=l.length*5:=by
   intro l
   induction l with
   | nil=>rfl
   | cons q O aH=>rw [oy,List.sum_cons,aH,iH];have:q.ds.length=5:=rfl;omega
  exact this _
 omega
theorem Hc
 (f d:Nat) (m:fh) (v:Value) (Y:OA) (a9:Nat) (a5:OA) (a4:Nat) (a7:OA) (c3:Nat) (ay:OA) (am:Nat) (w:World) (aS:hm w eV m v Y a9 a5 a4 a7 c3 ay am) (g:fS w f 15 hZ) (u:fS w d 7 iT) :
 ew 152 #[.agg #[.map (some f),.map (some d)],v] w fun e r=>e = .returned (.bool m.kinds)/\et w r:=by
 have z:Hid (m.kinds=(m.decls.all (fun o:ge=>decide (1<=o.kind)&&decide (o.kind<=3))&&m.bodies.all (gP 6))):=rfl;obtain rfl:=aS.val;have U:=aS.uses.bound;have a8:=aS.decls.bound;have A:Hid (m.procs.length<=3518437208883):=ux aS.procs;have K:=A.out;have aq:Hid (hm w eV m (.agg #[.string m.name,.slice Y m.uses.length a9,.slice a5 m.decls.length a4,.slice a7 m.procs.length c3,.slice ay m.main.length am]) Y a9 a5 a4 a7 c3 ay am):=aS;have aJ:Hid (fS w f 15 hZ):=g;have bl:Hid (fS w d 7 iT):=u;clear aS g u;have c:Hid (eR ((w.alloc (.cells #[.map (some f),.map (some d)] 235)).alloc (mC m Y a9 a5 a4 a7 c3 ay am)) w.heap.size [.map (some f),.map (some d)]):=eR.new1 w _ _ _;have B:Hid (eR ((w.alloc (.cells #[.map (some f),.map (some d)] 235)).alloc (mC m Y a9 a5 a4 a7 c3 ay am)) (w.heap.size+1) [.string m.name,.slice Y m.uses.length a9,.slice a5 m.decls.length a4,.slice a7 m.procs.length c3,.slice ay m.main.length am]):=eR.new2 w _ _ _
 go_enter func152,ntmps152;go_wp2_with fail
 go_loopw [12] (fun i wr=>∃ j:Nat,j<=m.decls.length/\i=em j/\(m.decls.take j).all (fun o:ge=>decide (1<=o.kind)&&decide (o.kind<=3))=true/\et w wr/\eR wr w.heap.size [.map (some f),.map (some d)]/\eR wr (w.heap.size+1) [.string m.name,.slice Y m.uses.length a9,.slice a5 m.decls.length a4,.slice a7 m.procs.length c3,.slice ay m.main.length am]) (fun i _=>m.decls.length - (intOf i).toNat)
 case atStart=>exact ⟨0,eY _,rfl,rfl,fq _ _ _,c,B⟩
 case round=>
  clear c B;obtain ⟨j,ac,rfl,aO,F,hB0,hB1⟩:=hrel;have ar:Hid ((m.decls.take j).all (fun o:ge=>decide (1<=o.kind)&&decide (o.kind<=3))=true):=aO;obtain ⟨av,an,aV⟩:=hB0.c2;obtain ⟨bF,br,Z,m3,m4,mz⟩:=hB1.c5;have c:Hid (eR wr w.heap.size [.map (some f),.map (some d)]):=hB0;have B:=hid hB1;clear aO hB0 hB1
  by_cases a0:j<m.decls.length
  . obtain ⟨b,C,rfl,Q⟩:=(aq.decls.later F).de j a0
    have ao:=Q.c0;have aM:=Q.c1;have b1:=Q.c2;have R:=Q.c3;have bz:=Q.lt;clear Q
    by_cases N:1<=m.decls[j].kind/\m.decls[j].kind<=3
    . obtain ⟨D,l⟩:=N
      have P:Hid ((m.decls.take (j+1)).all (fun o:ge=>decide (1<=o.kind)&&decide (o.kind<=3))=true):=by
       show _=_
       rw [all_snoc m.decls _ j a0,ar.out];simp [D,l]
      go_wp2_with fail;go_roundw
      case rel=>exact ⟨j+1,by omega,by go_num,P,es F (ey _ _),c.later (ey _ _),B.later (ey _ _)⟩
      case measure=>simp [intOf];omega
    . have p:Hid (m.decls.all (fun o:ge=>decide (1<=o.kind)&&decide (o.kind<=3))=false):=all_not m.decls _ j a0 (by simp;omega)
      by_cases D:m.decls[j].kind<1
      . clear N
        go_wp2_with fail;go_ret;exact ⟨ret_bool (by rw [z.out,p.out];rfl),es F (ey _ _)⟩
      . have l:3<m.decls[j].kind:=by omega
        clear N;go_wp2_with fail;go_ret;exact ⟨ret_bool (by rw [z.out,p.out];rfl),es F (ey _ _)⟩
  . have a:Hid (m.decls.all (fun o:ge=>decide (1<=o.kind)&&decide (o.kind<=3))=true):=kS ar a0
    go_wp2_with fail;refine (xn m _ Y a9 a5 a4 a7 c3 ay am _ (aq.later F)).mono ?_;rintro e eJ ⟨k,bc,rfl,hBA,b5⟩;have M:Hid (pw eJ k m.bodies):=hBA
    have s:m.bodies.length<=4000000000000:=by have:=A.out;simp [fh.bodies];omega
    have ag:=c.later b5;have ak:=B.later b5;have x:=es F b5;clear b5 hBA c B;clear av an aV bF br Z m3 m4 mz;have c:Hid (eR eJ w.heap.size [.map (some f),.map (some d)]):=ag;have B:=hid ak;have Hb6:Hid (et w eJ):=x;clear ag ak x;go_wp2_with fail
    go_loopw [28] (fun i wr=>∃ j:Nat,j<=m.bodies.length/\i=em j/\(m.bodies.take j).all (gP 6)=true/\et eJ wr/\eR wr w.heap.size [.map (some f),.map (some d)]/\eR wr (w.heap.size+1) [.string m.name,.slice Y m.uses.length a9,.slice a5 m.decls.length a4,.slice a7 m.procs.length c3,.slice ay m.main.length am]) (fun i _=>m.bodies.length - (intOf i).toNat)
    case atStart=>exact ⟨0,eY _,rfl,rfl,Below.refl _ _,c,B⟩
    case round=>
     clear c B;obtain ⟨j,ac,rfl,aO,O,hB0,hB1⟩:=hrel;have ar:Hid ((m.bodies.take j).all (gP 6)=true):=aO;obtain ⟨av,an,aV⟩:=hB0.c2;obtain ⟨bF,br,Z,m3,m4,mz⟩:=hB1.c5;have c:Hid (eR wr w.heap.size [.map (some f),.map (some d)]):=hB0;have B:=hid hB1;clear aO hB0 hB1
     by_cases a0:j<m.bodies.length
     . obtain ⟨b,C,t,bo,rfl,bz,a1,Q⟩:=(M.later O) j a0
       have aN:Hid (eE wr eV t m.bodies[j].length (fw m.bodies[j])):=Q;clear Q;go_wp2_with fail;refine (A9 f d eV 6 (by omega) m.bodies[j] t bo 1 _ (by omega) aN ((aJ.later Hb6).later O) ((bl.later Hb6).later O)).mono ?_
       cases G:gP 6 m.bodies[j] with
       | false=>
         have p:Hid (m.bodies.all (gP 6)=false):=all_not m.bodies _ j a0 G;rintro e aY ⟨rfl,n⟩;go_wp2_with fail;go_ret;exact ⟨ret_bool (by rw [z.out,p.out];simp),es Hb6 (es O n)⟩
       | true=>
         have P:Hid ((m.bodies.take (j+1)).all (gP 6)=true):=by
          show _=_
          rw [all_snoc m.bodies _ j a0,ar.out,G];rfl
         rintro e aY ⟨rfl,n⟩;have ag:=c.later n;have ak:=B.later n;go_wp2_with fail;go_roundw
         case rel=>exact ⟨j+1,by omega,by go_num,P,es O n,ag,ak⟩
         case measure=>simp [intOf];omega
     . have P:Hid (m.bodies.all (gP 6)=true):=kS ar a0
       go_wp2_with fail;go_ret;exact ⟨ret_bool (by rw [z.out,P.out];simp [a.out]),es Hb6 O⟩
theorem Hd
 (f d:Nat) (m:fh) (v:Value) (Y:OA) (a9:Nat) (a5:OA) (a4:Nat) (a7:OA) (c3:Nat) (ay:OA) (am:Nat) (w:World) (aS:hm w eV m v Y a9 a5 a4 a7 c3 ay am) (g:fS w f 15 hZ) (u:fS w d 7 iT) :
 ew 153 #[.agg #[.map (some f),.map (some d)],v] w fun e r=>e = .returned (.bool m.many)/\et w r:=by
 by_cases aI:3<m.uses.length
 . have P:Hid (m.many=true):=by show _=_;simp [fh.many,aI]
   obtain rfl:=aS.val;have U:=aS.uses.bound;clear aS g u;go_enter func153,ntmps153;go_wp2_with fail;go_ret;exact ⟨ret_bool P.symm,fq _ _ _⟩
 by_cases ez:10<m.decls.length
 . have P:Hid (m.many=true):=by show _=_;simp [fh.many,ez]
   obtain rfl:=aS.val;have U:=aS.uses.bound;have a8:=aS.decls.bound;clear aS g u;go_enter func153,ntmps153;go_wp2_with fail;go_ret;exact ⟨ret_bool P.symm,fq _ _ _⟩
 by_cases az:6<m.procs.length
 . have P:Hid (m.many=true):=by show _=_;simp [fh.many,az]
   obtain rfl:=aS.val;have U:=aS.uses.bound;have a8:=aS.decls.bound;have K:=ux aS.procs;clear aS g u;go_enter func153,ntmps153;go_wp2_with fail;go_ret;exact ⟨ret_bool P.symm,fq _ _ _⟩
 have bb:m.many=(m.procs.any (fun y:fH=>decide (3<y.params.length)||decide (4<y.locals.length))||m.bodies.any (fC 6)):=by simp [fh.many,aI,ez,az]
 have z:Hid (m.many=(m.procs.any (fun y:fH=>decide (3<y.params.length)||decide (4<y.locals.length))||m.bodies.any (fC 6))):=bb;clear bb;obtain rfl:=aS.val;have U:=aS.uses.bound;have a8:=aS.decls.bound;have A:Hid (m.procs.length<=3518437208883):=ux aS.procs;have K:=A.out;have aq:Hid (hm w eV m (.agg #[.string m.name,.slice Y m.uses.length a9,.slice a5 m.decls.length a4,.slice a7 m.procs.length c3,.slice ay m.main.length am]) Y a9 a5 a4 a7 c3 ay am):=aS;have aJ:Hid (fS w f 15 hZ):=g;have bl:Hid (fS w d 7 iT):=u;clear aS g u;have c:Hid (eR ((w.alloc (.cells #[.map (some f),.map (some d)] 235)).alloc (mC m Y a9 a5 a4 a7 c3 ay am)) w.heap.size [.map (some f),.map (some d)]):=eR.new1 w _ _ _;have B:Hid (eR ((w.alloc (.cells #[.map (some f),.map (some d)] 235)).alloc (mC m Y a9 a5 a4 a7 c3 ay am)) (w.heap.size+1) [.string m.name,.slice Y m.uses.length a9,.slice a5 m.decls.length a4,.slice a7 m.procs.length c3,.slice ay m.main.length am]):=eR.new2 w _ _ _
 go_enter func153,ntmps153;go_wp2_with fail
 go_loopw [28] (fun i wr=>∃ j:Nat,j<=m.procs.length/\i=em j/\(m.procs.take j).any (fun y:fH=>decide (3<y.params.length)||decide (4<y.locals.length))=false/\et w wr/\eR wr w.heap.size [.map (some f),.map (some d)]/\eR wr (w.heap.size+1) [.string m.name,.slice Y m.uses.length a9,.slice a5 m.decls.length a4,.slice a7 m.procs.length c3,.slice ay m.main.length am]) (fun i _=>m.procs.length - (intOf i).toNat)
 case atStart=>exact ⟨0,eY _,rfl,rfl,fq _ _ _,c,B⟩
 case round=>
  clear c B;obtain ⟨j,ac,rfl,aO,F,hB0,hB1⟩:=hrel;have ar:Hid ((m.procs.take j).any (fun y:fH=>decide (3<y.params.length)||decide (4<y.locals.length))=false):=aO;obtain ⟨av,an,aV⟩:=hB0.c2;obtain ⟨bF,br,Z,m3,m4,mz⟩:=hB1.c5;have c:Hid (eR wr w.heap.size [.map (some f),.map (some d)]):=hB0;have B:=hid hB1;clear aO hB0 hB1
  by_cases a0:j<m.procs.length
  . obtain ⟨b,C,b7,aL,V,aU,b9,bd,rfl,Q⟩:=(aq.procs.later F).pr j a0
    have ao:=Q.c0;have aM:=Q.c1;have b1:=Q.c2;have R:=Q.c3;have aa:=Q.c4;have bz:=Q.lt;have aw:=Q.params.bound;have aE:=Q.locals.bound;clear Q
    by_cases N:m.procs[j].params.length<=3/\m.procs[j].locals.length<=4
    . obtain ⟨D,l⟩:=N
      have P:Hid ((m.procs.take (j+1)).any (fun y:fH=>decide (3<y.params.length)||decide (4<y.locals.length))=false):=by
       show _=_
       rw [uq m.procs _ j a0,ar.out];simp;omega
      go_wp2_with fail;go_roundw
      case rel=>exact ⟨j+1,by omega,by go_num,P,es F (ey _ _),c.later (ey _ _),B.later (ey _ _)⟩
      case measure=>simp [intOf];omega
    . have p:Hid (m.procs.any (fun y:fH=>decide (3<y.params.length)||decide (4<y.locals.length))=true):=ur m.procs _ j a0 (by simp;omega)
      by_cases D:3<m.procs[j].params.length
      . clear N
        go_wp2_with fail;go_ret;exact ⟨ret_bool (by rw [z.out,p.out];rfl),es F (ey _ _)⟩
      . have l:4<m.procs[j].locals.length:=by omega
        clear N;go_wp2_with fail;go_ret;exact ⟨ret_bool (by rw [z.out,p.out];rfl),es F (ey _ _)⟩
  . have a:Hid (m.procs.any (fun y:fH=>decide (3<y.params.length)||decide (4<y.locals.length))=false):=ut ar a0
    go_wp2_with fail;refine (xn m _ Y a9 a5 a4 a7 c3 ay am _ (aq.later F)).mono ?_;rintro e eJ ⟨k,bc,rfl,hBA,b5⟩;have M:Hid (pw eJ k m.bodies):=hBA
    have s:m.bodies.length<=4000000000000:=by have:=A.out;simp [fh.bodies];omega
    have ag:=c.later b5;have ak:=B.later b5;have x:=es F b5;clear b5 hBA c B;clear av an aV bF br Z m3 m4 mz;have c:Hid (eR eJ w.heap.size [.map (some f),.map (some d)]):=ag;have B:=hid ak;have Hb6:Hid (et w eJ):=x;clear ag ak x;go_wp2_with fail
    go_loopw [46] (fun i wr=>∃ j:Nat,j<=m.bodies.length/\i=em j/\(m.bodies.take j).any (fC 6)=false/\et eJ wr/\eR wr w.heap.size [.map (some f),.map (some d)]/\eR wr (w.heap.size+1) [.string m.name,.slice Y m.uses.length a9,.slice a5 m.decls.length a4,.slice a7 m.procs.length c3,.slice ay m.main.length am]) (fun i _=>m.bodies.length - (intOf i).toNat)
    case atStart=>exact ⟨0,eY _,rfl,rfl,Below.refl _ _,c,B⟩
    case round=>
     clear c B;obtain ⟨j,ac,rfl,aO,O,hB0,hB1⟩:=hrel;have ar:Hid ((m.bodies.take j).any (fC 6)=false):=aO;obtain ⟨av,an,aV⟩:=hB0.c2;obtain ⟨bF,br,Z,m3,m4,mz⟩:=hB1.c5;have c:Hid (eR wr w.heap.size [.map (some f),.map (some d)]):=hB0;have B:=hid hB1;clear aO hB0 hB1
     by_cases a0:j<m.bodies.length
     . obtain ⟨b,C,t,bo,rfl,bz,a1,Q⟩:=(M.later O) j a0
       have aN:Hid (eE wr eV t m.bodies[j].length (fw m.bodies[j])):=Q;clear Q;go_wp2_with fail;refine (Ba f d eV 6 (by omega) m.bodies[j] t bo 1 _ (by omega) aN ((aJ.later Hb6).later O) ((bl.later Hb6).later O)).mono ?_
       cases G:fC 6 m.bodies[j] with
       | true=>
         have p:Hid (m.bodies.any (fC 6)=true):=ur m.bodies _ j a0 G;rintro e aY ⟨rfl,n⟩;go_wp2_with fail;go_ret;exact ⟨ret_bool (by rw [z.out,p.out];simp),es Hb6 (es O n)⟩
       | false=>
         have P:Hid ((m.bodies.take (j+1)).any (fC 6)=false):=by
          show _=_
          rw [uq m.bodies _ j a0,ar.out,G];rfl
         rintro e aY ⟨rfl,n⟩;have ag:=c.later n;have ak:=B.later n;go_wp2_with fail;go_roundw
         case rel=>exact ⟨j+1,by omega,by go_num,P,es O n,ag,ak⟩
         case measure=>simp [intOf];omega
     . have P:Hid (m.bodies.any (fC 6)=false):=ut ar a0
       go_wp2_with fail;go_ret;exact ⟨ret_bool (by rw [z.out,P.out];simp [a.out]),es Hb6 O⟩
theorem He
 (f d:Nat) (m:fh) (v:Value) (Y:OA) (a9:Nat) (a5:OA) (a4:Nat) (a7:OA) (c3:Nat) (ay:OA) (am:Nat) (w:World) (aS:hm w eV m v Y a9 a5 a4 a7 c3 ay am) (g:fS w f 15 hZ) (u:fS w d 7 iT) (c1:m.many=false) :
 ew 154 #[.agg #[.map (some f),.map (some d)],v] w fun e r=>e = .returned (.bool m.form)/\et w r:=by
 have ab:Hid (∀ j (h:j<m.bodies.length),fC 6 m.bodies[j]=false):=fun j h=>by
  simp only [fh.many,jf,oq] at c1;simpa using c1.2.2.2.2 m.bodies[j] (fO h)
 clear c1;have z:Hid (m.form=(nameOk m.name&&(m.uses.all nameOk&&(m.decls.all (fun o:ge=>nameOk o.name&&kB o)&&(m.procs.all (fun y:fH=>nameOk y.name&&(y.params.all nameOk&&y.locals.all nameOk))&&m.bodies.all (gp 6)))))):=rfl;obtain rfl:=aS.val;have U:=aS.uses.bound;have a8:=aS.decls.bound;have A:Hid (m.procs.length<=3518437208883):=ux aS.procs;have K:=A.out;have aq:Hid (hm w eV m (.agg #[.string m.name,.slice Y m.uses.length a9,.slice a5 m.decls.length a4,.slice a7 m.procs.length c3,.slice ay m.main.length am]) Y a9 a5 a4 a7 c3 ay am):=aS;have aJ:Hid (fS w f 15 hZ):=g;have bl:Hid (fS w d 7 iT):=u;clear aS g u;have c:Hid (eR ((w.alloc (.cells #[.map (some f),.map (some d)] 235)).alloc (mC m Y a9 a5 a4 a7 c3 ay am)) w.heap.size [.map (some f),.map (some d)]):=eR.new1 w _ _ _
 have B:Hid (eR ((w.alloc (.cells #[.map (some f),.map (some d)] 235)).alloc (mC m Y a9 a5 a4 a7 c3 ay am)) (w.heap.size+1) [.string m.name,.slice Y m.uses.length a9,.slice a5 m.decls.length a4,.slice a7 m.procs.length c3,.slice ay m.main.length am]):=eR.new2 w _ _ _;go_enter func154,ntmps154;go_wp2_with fail;refine (pu m.name _ aq.wna).mono ?_
 cases bu:nameOk m.name with
 | false=>
   rintro e eq ⟨rfl,ax⟩;go_wp2_with fail;go_ret;exact ⟨ret_bool (by rw [z.out,bu];rfl),es (fq _ _ _) ax⟩
 | true=>
 rintro e eq ⟨rfl,ax⟩;have ag:=c.later ax;have ak:=B.later ax;have bf:et w eq:=es (fq _ _ _) ax;clear c B ax;obtain ⟨bF,br,Z,m3,m4,mz⟩:=ak.c5;have c:Hid (eR eq w.heap.size [.map (some f),.map (some d)]):=ag;have B:=hid ak;clear ag ak;go_wp2_with fail;refine (xo m.uses Y a9 _ (aq.uses.later bf)).mono ?_
 cases aP:m.uses.all nameOk with
 | false=>
   rintro e w2 ⟨rfl,ax⟩;go_wp2_with fail;go_ret;exact ⟨ret_bool (by rw [z.out,bu,aP];rfl),es bf ax⟩
 | true=>
 rintro e w2 ⟨rfl,ax⟩;have ag:=c.later ax;have ak:=B.later ax;have aQ:=es bf ax;clear c B ax bf bF br Z m3 m4 mz;obtain ⟨bF,br,Z,m3,m4,mz⟩:=ak.c5;have c:Hid (eR w2 w.heap.size [.map (some f),.map (some d)]):=ag;have B:=hid ak;clear ag ak;go_wp2_with fail;clear bF br Z m3 m4 mz
 go_loopw [24] (fun i wr=>∃ j:Nat,j<=m.decls.length/\i=em j/\(m.decls.take j).all (fun o:ge=>nameOk o.name&&kB o)=true/\et w wr/\eR wr w.heap.size [.map (some f),.map (some d)]/\eR wr (w.heap.size+1) [.string m.name,.slice Y m.uses.length a9,.slice a5 m.decls.length a4,.slice a7 m.procs.length c3,.slice ay m.main.length am]) (fun i _=>m.decls.length - (intOf i).toNat)
 case atStart=>exact ⟨0,eY _,rfl,rfl,aQ,c,B⟩
 case round =>
  clear aQ;clear c B;obtain ⟨j,ac,rfl,aO,F,hB0,hB1⟩:=hrel;have ar:Hid ((m.decls.take j).all (fun o:ge=>nameOk o.name&&kB o)=true):=aO;obtain ⟨av,an,aV⟩:=hB0.c2;obtain ⟨bF,br,Z,m3,m4,mz⟩:=hB1.c5;have c:Hid (eR wr w.heap.size [.map (some f),.map (some d)]):=hB0;have B:=hid hB1;clear aO hB0 hB1
  by_cases a0:j<m.decls.length
  . obtain ⟨b,C,rfl,Q⟩:=(aq.decls.later F).de j a0
    have ao:=Q.c0;have aM:=Q.c1;have b1:=Q.c2;have R:=Q.c3;have bz:=Q.lt
    have p:Hid ((nameOk m.decls[j].name&&kB m.decls[j])=false->m.form=false):=fun h=>by rw [z.out,all_not m.decls (fun o:ge=>nameOk o.name&&kB o) j a0 h];simp
    have E:=Q.wna;clear Q;go_wp2_with fail;refine (pu m.decls[j].name _ E).mono ?_
    cases G:nameOk m.decls[j].name with
    | false=>
      rintro e eC ⟨rfl,ax⟩;go_wp2_with fail;go_ret;exact ⟨ret_bool (p (by simp [G])).symm,qx F ax⟩
    | true=>
      rintro e eC ⟨rfl,ax⟩;have l:=(eR.new wr #[em m.decls[j].kind,.string m.decls[j].name,.bool m.decls[j].pub,em m.decls[j].n] 170).later ax;have D:=l.cell 0 _ rfl;have aZ:=l.cell 1 _ rfl;have b6:=l.cell 2 _ rfl;have bk:=l.cell 3 _ rfl;have q:=l.lt;have ag:=(c.later (ey _ _)).later ax;have ak:=(B.later (ey _ _)).later ax;have bf:=qx F ax;clear ax l c B av an aV bF br Z m3 m4 mz;have c:Hid (eR eC w.heap.size [.map (some f),.map (some d)]):=ag;have B:=hid ak;clear ag ak;go_wp2_with fail;refine (GX m.decls[j] _).mono ?_
      cases J:kB m.decls[j] with
      | false=>
        rintro e eA ⟨rfl,ax⟩;go_wp2_with fail;go_ret;exact ⟨ret_bool (p (by simp [J])).symm,es bf ax⟩
      | true=>
        have P:Hid ((m.decls.take (j+1)).all (fun o:ge=>nameOk o.name&&kB o)=true):=by
         show _=_
         rw [all_snoc m.decls _ j a0,ar.out];simp [G,J]
        rintro e eA ⟨rfl,ax⟩;have ag:=c.later ax;have ak:=B.later ax;have aQ:=es bf ax;clear ax bf;go_wp2_with fail;go_roundw
        case rel=>exact ⟨j+1,by omega,by go_num,P,aQ,ag,ak⟩
        case measure=>simp [intOf];omega
  . have a : Hid (m.decls.all (fun o:ge=>nameOk o.name&&kB o)=true):=kS ar a0
    go_wp2_with fail;clear a0 ac ar;clear av an aV bF br Z m3 m4 mz
    go_loopw [41] (fun i wr=>∃ j:Nat,j<=m.procs.length/\i=em j/\(m.procs.take j).all (fun y:fH=>nameOk y.name&&(y.params.all nameOk&&y.locals.all nameOk))=true/\et w wr/\eR wr w.heap.size [.map (some f),.map (some d)]/\eR wr (w.heap.size+1) [.string m.name,.slice Y m.uses.length a9,.slice a5 m.decls.length a4,.slice a7 m.procs.length c3,.slice ay m.main.length am]) (fun i _=>m.procs.length - (intOf i).toNat)
    case atStart=>exact ⟨0,eY _,rfl,rfl,F,c,B⟩
    case round=>
     clear F;clear c B;obtain ⟨j,ac,rfl,aO,F,hB0,hB1⟩:=hrel;have ar:Hid ((m.procs.take j).all (fun y:fH=>nameOk y.name&&(y.params.all nameOk&&y.locals.all nameOk))=true):=aO;obtain ⟨av,an,aV⟩:=hB0.c2;obtain ⟨bF,br,Z,m3,m4,mz⟩:=hB1.c5;have c:Hid (eR wr w.heap.size [.map (some f),.map (some d)]):=hB0;have B:=hid hB1;clear aO hB0 hB1
     by_cases a0:j<m.procs.length
     . obtain ⟨b,C,b7,aL,V,aU,b9,bd,rfl,Q⟩:=(aq.procs.later F).pr j a0
       have ao:=Q.c0;have aM:=Q.c1;have b1:=Q.c2;have R:=Q.c3;have aa:=Q.c4;have bz:=Q.lt;have aN:Hid (AL wr eV b (C+j*5) m.procs[j] b7 aL V aU b9 bd):=Q
       have p:Hid ((nameOk m.procs[j].name&&(m.procs[j].params.all nameOk&&m.procs[j].locals.all nameOk))=false->m.form=false):=fun h=>by rw [z.out,all_not m.procs (fun y:fH=>nameOk y.name&&(y.params.all nameOk&&y.locals.all nameOk)) j a0 h];simp
       clear Q;go_wp2_with fail;refine (pu m.procs[j].name _ aN.wna).mono ?_
       cases G:nameOk m.procs[j].name with
       | false=>
         rintro e eC ⟨rfl,ax⟩;go_wp2_with fail;go_ret;exact ⟨ret_bool (p (by simp [G])).symm,qx F ax⟩
       | true =>
         rintro e eC ⟨rfl,ax⟩;have l:=(eR.new wr #[.string m.procs[j].name,.bool m.procs[j].pub,.slice b7 m.procs[j].params.length aL,.slice V m.procs[j].locals.length aU,.slice b9 m.procs[j].body.length bd] 118).later ax;obtain ⟨D,aZ,b6,bk,bm,q⟩:=l.c5;have a6:Hid (eR eC wr.heap.size [.string m.procs[j].name,.bool m.procs[j].pub,.slice b7 m.procs[j].params.length aL,.slice V m.procs[j].locals.length aU,.slice b9 m.procs[j].body.length bd]):=l;have ag:=(c.later (ey _ _)).later ax;have ak:=(B.later (ey _ _)).later ax;have bf:=es (ey _ _) ax;clear ax l c B av an aV bF br Z m3 m4 mz;have c:Hid (eR eC w.heap.size [.map (some f),.map (some d)]):=ag;have B:=hid ak;clear ag ak;go_wp2_with fail;refine (xo m.procs[j].params b7 aL _ (aN.params.later bf)).mono ?_
         cases J:m.procs[j].params.all nameOk with
         | false=>
           rintro e eA ⟨rfl,ax⟩;go_wp2_with fail;go_ret;exact ⟨ret_bool (p (by simp [J])).symm,es F (es bf ax)⟩
         | true=>
           rintro e eA ⟨rfl,ax⟩;have l:=a6.later ax;clear D aZ b6 bk bm q a6;obtain ⟨D,aZ,b6,bk,bm,q⟩:=l.c5;have ag:=c.later ax;have ak:=B.later ax;have aQ:=es bf ax;clear ax bf l c B;have c:Hid (eR eA w.heap.size [.map (some f),.map (some d)]):=ag;have B:=hid ak;clear ag ak;go_wp2_with fail;refine (xo m.procs[j].locals V aU _ (aN.locals.later aQ)).mono ?_
           cases S:m.procs[j].locals.all nameOk with
           | false=>
             rintro e eJ ⟨rfl,ax⟩;go_wp2_with fail;go_ret;exact ⟨ret_bool (p (by simp [S])).symm,es F (es aQ ax)⟩
           | true=>
             have P:Hid ((m.procs.take (j+1)).all (fun y:fH=>nameOk y.name&&(y.params.all nameOk&&y.locals.all nameOk))=true):=by
              show _=_
              rw [all_snoc m.procs _ j a0,ar.out];simp only [G,J,S];rfl
             rintro e eJ ⟨rfl,ax⟩;have ag:=c.later ax;have ak:=B.later ax;have bn:=es F (es aQ ax);clear ax aQ;go_wp2_with fail;go_roundw
             case rel=>exact ⟨j+1,by omega,by go_num,P,bn,ag,ak⟩
             case measure=>simp [intOf];omega
     . have H:Hid (m.procs.all (fun y:fH=>nameOk y.name&&(y.params.all nameOk&&y.locals.all nameOk))=true):=kS ar a0
       go_wp2_with fail;refine (xn m _ Y a9 a5 a4 a7 c3 ay am _ (aq.later F)).mono ?_;rintro e eJ ⟨k,bc,rfl,hBA,b5⟩;have M:Hid (pw eJ k m.bodies):=hBA
       have s:m.bodies.length<=4000000000000:=by have:=A.out;simp [fh.bodies];omega
       have ag:=c.later b5;have ak:=B.later b5;have x:=es F b5;clear b5 hBA c B;clear av an aV bF br Z m3 m4 mz;have c:Hid (eR eJ w.heap.size [.map (some f),.map (some d)]):=ag;have B:=hid ak;have Hb6:Hid (et w eJ):=x;clear ag ak x;go_wp2_with fail
       go_loopw [65] (fun i wr=>∃ j:Nat,j<=m.bodies.length/\i=em j/\(m.bodies.take j).all (gp 6)=true/\et eJ wr/\eR wr w.heap.size [.map (some f),.map (some d)]/\eR wr (w.heap.size+1) [.string m.name,.slice Y m.uses.length a9,.slice a5 m.decls.length a4,.slice a7 m.procs.length c3,.slice ay m.main.length am]) (fun i _=>m.bodies.length - (intOf i).toNat)
       case atStart=>exact ⟨0,eY _,rfl,rfl,Below.refl _ _,c,B⟩
       case round=>
        clear c B;obtain ⟨j,ac,rfl,aO,O,hB0,hB1⟩:=hrel;have ar:Hid ((m.bodies.take j).all (gp 6)=true):=aO;obtain ⟨av,an,aV⟩:=hB0.c2;obtain ⟨bF,br,Z,m3,m4,mz⟩:=hB1.c5;have c:Hid (eR wr w.heap.size [.map (some f),.map (some d)]):=hB0;have B:=hid hB1;clear aO hB0 hB1
        by_cases a0:j<m.bodies.length
        . obtain ⟨b,C,t,bo,rfl,bz,a1,Q⟩:=(M.later O) j a0
          have aN:Hid (eE wr eV t m.bodies[j].length (fw m.bodies[j])):=Q;clear Q;go_wp2_with fail;refine (G9 f d eV 6 m.bodies[j] t bo _ aN ((aJ.later Hb6).later O) ((bl.later Hb6).later O) (Or.inr (ab j a0))).mono ?_
          cases G:gp 6 m.bodies[j] with
          | false=>
            have p:Hid (m.bodies.all (gp 6)=false):=all_not m.bodies _ j a0 G;rintro e aY ⟨rfl,n⟩;go_wp2_with fail;go_ret;exact ⟨ret_bool (by rw [z.out,p.out];simp),es Hb6 (es O n)⟩
          | true=>
            have P:Hid ((m.bodies.take (j+1)).all (gp 6)=true):=by
             show _=_
             rw [all_snoc m.bodies _ j a0,ar.out,G];rfl
            rintro e aY ⟨rfl,n⟩;have ag:=c.later n;have ak:=B.later n;go_wp2_with fail;go_roundw
            case rel=>exact ⟨j+1,by omega,by go_num,P,es O n,ag,ak⟩
            case measure=>simp [intOf];omega
        . have P:Hid (m.bodies.all (gp 6)=true):=kS ar a0
          go_wp2_with fail;go_ret;exact ⟨ret_bool (by rw [z.out,P.out];simp [bu,aP,a.out,H.out]),es Hb6 O⟩
theorem Hf {m:fh} (h:m.kinds=false):m.err=4:=by unfold fh.err;rw [h];rfl
theorem Hg {m:fh} (h:m.kinds=true) (G:m.many=true):m.err=2:=by unfold fh.err;rw [h,G];rfl
theorem Hh {m:fh} (h:m.kinds=true) (G:m.many=false) (J:m.form=false):m.err=1:=by unfold fh.err;rw [h,G,J];rfl
theorem Hi {m:fh} (h:m.kinds=true) (G:m.many=false) (J:m.form=true):m.err=0:=by unfold fh.err;rw [h,G,J];rfl
theorem Bc (m:fh) (v:Value) (Y:OA) (a9:Nat) (a5:OA) (a4:Nat) (a7:OA) (c3:Nat) (ay:OA) (am:Nat) (w:World) (aS:hm w eV m v Y a9 a5 a4 a7 c3 ay am) :
 ew 112 #[v] w fun e r=>e = .returned (em m.err)/\et w r:=by
 obtain rfl:=aS.val;have aq:Hid (hm w eV m (.agg #[.string m.name,.slice Y m.uses.length a9,.slice a5 m.decls.length a4,.slice a7 m.procs.length c3,.slice ay m.main.length am]) Y a9 a5 a4 a7 c3 ay am):=aS;clear aS;have ad:Hid (eR (w.alloc (mC m Y a9 a5 a4 a7 c3 ay am)) w.heap.size [.string m.name,.slice Y m.uses.length a9,.slice a5 m.decls.length a4,.slice a7 m.procs.length c3,.slice ay m.main.length am]):=eR.new w _ _;go_enter func112,ntmps112;go_wp2_with fail;refine (G4 _).mono ?_;rintro e eq ⟨f,rfl,g,ai⟩;have aJ:=hid g;have k:=ad.later ai;have ax:=es (ey _ _) ai;clear ad ai g;have ad:=hid k;obtain ⟨bF,br,Z,m3,m4,mz⟩:=k.c5;clear k;go_wp2_with fail;refine (G3 _).mono ?_;rintro e w2 ⟨d,rfl,u,aB⟩;have i:=hid ((aJ.later aB).later (ey _ (.cells #[.map (some f),.map (some d)] 235)))
 have P:=hid (u.later (ey _ (.cells #[.map (some f),.map (some d)] 235)));have k:=(ad.later aB).later (ey _ (.cells #[.map (some f),.map (some d)] 235));have ag:=eR.new w2 #[.map (some f),.map (some d)] 235;have bf:=es ax aB;have aQ:=es bf (ey _ (.cells #[.map (some f),.map (some d)] 235))
 have b:=(ad.later aB)
 clear ad aB u aJ ax bF br Z m3 m4 mz;obtain ⟨bF,br,Z,m3,m4,mz⟩:=b.c5;have ad:=hid k;have c:=hid ag;clear k ag b;go_wp2_with fail;refine (Hc f d m _ Y a9 a5 a4 a7 c3 ay am _ (aq.later aQ) i P).mono ?_
 cases G:m.kinds with
 | false=>
   rintro e eC ⟨rfl,a2⟩;go_wp2_with fail;go_ret;exact ⟨ret_int (Hf G).symm,es aQ a2⟩
 | true=>
 rintro e eC ⟨rfl,a2⟩;have k:=ad.later a2;have ag:=c.later a2;have D:=i.later a2;have b6:=P.later a2;have bn:=es aQ a2;clear ad c i P bf aQ a2 bF br Z m3 m4 mz;obtain ⟨bF,br,Z,m3,m4,mz⟩:=k.c5;obtain ⟨av,an,aV⟩:=ag.c2;have ad:=hid k;have c:=hid ag;have i:=hid D;have P:=hid b6;clear k ag D b6;go_wp2_with fail;refine (Hd f d m _ Y a9 a5 a4 a7 c3 ay am _ (aq.later bn) i P).mono ?_
 cases J:m.many with
 | true=>
   rintro e eA ⟨rfl,aW⟩;go_wp2_with fail;go_ret;exact ⟨ret_int (Hg G J).symm,es bn aW⟩
 | false=>
 rintro e eA ⟨rfl,aW⟩;have k:=ad.later aW;have ag:=c.later aW;have D:=i.later aW;have b6:=P.later aW;have bs:=es bn aW;clear ad c i P bn aW bF br Z m3 m4 mz av an aV;obtain ⟨bF,br,Z,m3,m4,mz⟩:=k.c5;obtain ⟨av,an,aV⟩:=ag.c2;have i:=hid D;have P:=hid b6;clear k ag D b6;go_wp2_with fail;refine (He f d m _ Y a9 a5 a4 a7 c3 ay am _ (aq.later bs) i P J).mono ?_
 cases S:m.form with
 | false=>
   rintro e eJ ⟨rfl,b5⟩;go_wp2_with fail;go_ret;exact ⟨ret_int (Hh G J S).symm,es bs b5⟩
 | true=>
 rintro e eJ ⟨rfl,b5⟩;go_wp2_with fail;go_ret;exact ⟨ret_int (Hi G J S).symm,es bs b5⟩
end Go.Proofs.YtndkhgakfodldaaGreatDoor

namespace Go.Proofs.YtndkhgakfodldaaGreatDoor
open Go.RowKit
abbrev uy:ByteArray:=⟨#[109,111,100,117,108,101]⟩
abbrev lm:ByteArray:=⟨#[117,115,101]⟩
abbrev fQ:ByteArray:=⟨#[112,117,98]⟩
abbrev sB:ByteArray:=⟨#[99,111,110,115,116]⟩
abbrev sC:ByteArray:=⟨#[118,97,114]⟩
abbrev sD:ByteArray:=⟨#[97,114,114,97,121]⟩
abbrev xq:ByteArray:=⟨#[112,114,111,99]⟩
abbrev kC:ByteArray:=⟨#[108,111,99,97,108]⟩
abbrev qy:ByteArray:=⟨#[109,97,105,110]⟩
abbrev mY:ByteArray:=⟨#[105,102]⟩
abbrev qz:ByteArray:=⟨#[101,108,115,101]⟩
abbrev nO:ByteArray:=⟨#[119,104,105,108,101]⟩
abbrev oC:ByteArray:=⟨#[114,101,116,117,114,110]⟩
abbrev pz:ByteArray:=⟨#[111,117,116]⟩
abbrev sE:ByteArray:=⟨#[105,110]⟩
abbrev pA:ByteArray:=⟨#[123]⟩
abbrev lQ:ByteArray:=⟨#[125]⟩
abbrev iU:ByteArray:=⟨#[40]⟩
abbrev ib:ByteArray:=⟨#[41]⟩
abbrev kT:ByteArray:=⟨#[91]⟩
abbrev kD:ByteArray:=⟨#[93]⟩
abbrev oE:ByteArray:=⟨#[44]⟩
abbrev hM:ByteArray:=⟨#[59]⟩
abbrev ln:ByteArray:=⟨#[61]⟩
abbrev qA:ByteArray:=⟨#[46]⟩
abbrev sF:ByteArray:=⟨#[33]⟩
def xr:List (L8):=[[109,111,100,117,108,101],[117,115,101],[112,117,98],[99,111,110,115,116],[118,97,114],[97,114,114,97,121],[112,114,111,99],[108,111,99,97,108],[109,97,105,110],[105,102],[101,108,115,101],[119,104,105,108,101],[114,101,116,117,114,110],[111,117,116],[105,110]]
def jH:List ByteArray:=[⟨#[38]⟩,⟨#[124]⟩,⟨#[43]⟩,⟨#[45]⟩,⟨#[42]⟩,⟨#[47]⟩,⟨#[37]⟩,⟨#[61]⟩,⟨#[60]⟩]
def oF (s:ByteArray):Bool:=xr.any (fun k=>s.toList == k)
def kg:Tk:=⟨0,0,⟨#[]⟩⟩
def ez (l:List Tk):Tk:=l.getD 0 kg
def eF (l:List Tk) (t:ByteArray):Bool:=(ez l).text.toList == t.toList
def mA (l:List Tk) (d:List ByteArray):Option ByteArray:=d.find? (fun t=>eF l t)
def hS (l:List Tk):Option (ByteArray × List Tk):=if ((ez l).kind == 1 && !oF (ez l).text)=true then some ((ez l).text,l.tail) else none
def pNum (l:List Tk):Option (Int × List Tk):=if (ez l).kind=2 then some ((ez l).n,l.tail) else none
def mB (l:List Tk):Option ((ByteArray × ByteArray) × List Tk):=
 match hS l with
 | none=>none
 | some (a,j)=>if eF j qA then (match hS j.tail with | none=>none | some (b,t)=>some ((a,b),t)) else some ((⟨#[]⟩,a),j)
def mZ (l:List Tk):Option Nat:=jH.findIdx? (fun t=>eF l t)
mutual
def gz:Nat->List Tk->Option (fg × List Tk)
 | 0,_=>none
 | f+1,l=>
   if (ez l).kind=2 then some (.mk 1 (ez l).n ⟨#[]⟩ ⟨#[]⟩ [],l.tail)
   else if eF l sE then some (.mk 2 0 ⟨#[]⟩ ⟨#[]⟩ [],l.tail)
   else if eF l sF then (match gz f l.tail with | none=>none | some (q,j)=>some (.mk 6 0 ⟨#[]⟩ ⟨#[]⟩ [q],j))
   else if eF l iU then kh f l.tail
   else match mB l with
    | none=>none
    | some ((m,n),j)=>
      if eF j kT then (match gz f j.tail with | none=>none | some (q,t)=>if eF t kD then some (.mk 4 0 m n [q],t.tail) else none)
      else if eF j iU then (match iK f j.tail with | none=>none | some (ae,t)=>some (.mk 5 0 m n ae,t))
      else some (.mk 3 0 m n [],j)
def kh:Nat->List Tk->Option (fg × List Tk)
 | 0,_=>none
 | f + 1,l=>
   match gz f l with
   | none=>none
   | some (a,j)=>match mZ j with
     | none=>none
     | some k=>match gz f j.tail with
       | none=>none
       | some (b,t)=>if eF t ib then some (.mk (7+k) 0 ⟨#[]⟩ ⟨#[]⟩ [a,b],t.tail) else none
def iK:Nat->List Tk->Option (List fg × List Tk)
 | 0,_=>none
 | f+1,l=>
   if eF l ib then some ([],l.tail)
   else match gz f l with
    | none=>none
    | some (q,j)=>kE f [q] j
def kE:Nat->List fg->List Tk->Option (List fg × List Tk)
 | 0,_,_=>none
 | f+1,P,l=>
   if eF l oE then (match gz f l.tail with | none=>none | some (q,j)=>kE f (P++[q]) j)
   else if eF l ib then some (P,l.tail) else none
end
variable {l c:List Tk} {t:ByteArray}
theorem xt (aj:0<t.size) (h:eF l t=true):l≠[]:=by
 rintro rfl;unfold eF at h
 have e:(ez ([]:List Tk)).text.toList=[]:=by rw [iB];rfl
 rw [e,iB] at h;have G:t.data.toList=[]:=(beq_iff_eq.1 h).symm;have J:=Lx.za0 t;rw [G] at J;simp at J;omega
theorem rB (h:l≠[]):l.tail.length<l.length:=by cases l with | nil=>exact absurd rfl h | cons q O=>simp
theorem fN (aj:0<t.size) (h:eF l t=true):l.tail.length<l.length:=rB (xt aj h)
theorem sG (h:(ez l).kind≠0):l≠[]:=by rintro rfl;exact h rfl
theorem jZ {a:ByteArray} (h:hS l=some (a,c)):c.length<l.length:=by
 unfold hS at h
 split at h
 . rename_i N
   have f:(ez l).kind=1:=by
    simp only [fs,beq_iff_eq] at N;exact N.1
   obtain ⟨_,rfl⟩:=fD (fe h);exact rB (sG (by rw [f];decide))
 . cases h
theorem Bd {a:Int} (h:pNum l=some (a,c)):c.length<l.length:=by
 unfold pNum at h
 split at h
 . rename_i N
   obtain ⟨_,rfl⟩:=fD (fe h);exact rB (sG (by rw [N];decide))
 . cases h
theorem xu {a:ByteArray × ByteArray} (h:mB l=some (a,c)):c.length<l.length:=by
 unfold mB at h
 split at h
 . cases h
 . rename_i Y j G
   have:=jZ G
   split at h
   . rename_i Z
     have:=fN (by decide) Z
     split at h
     . cases h
     . rename_i b t J
       have:=jZ J;obtain ⟨_,rfl⟩:=fD (fe h);omega
   . obtain ⟨_,rfl⟩:=fD (fe h)
     omega
theorem Be {k:Nat} (h:mZ l=some k):l≠[]:=by
 unfold mZ at h;obtain ⟨N,J,_⟩:=rc.1 h
 have:0<(jH[k]).size:=by
  have:∀ q ∈ jH,0<q.size:=by decide
  exact this _ (fO N)
 exact xt this J
mutual
theorem mD:∀ (f:Nat) (l c:List Tk) (q:fg),gz f l=some (q,c)->c.length<l.length
 | 0,_,_,_,h=>by simp [gz] at h
 | f + 1,l,c,q,h=>by
   unfold gz at h
   split at h
   . rename_i N
     obtain ⟨_,rfl⟩:=fD (fe h);exact rB (sG (by rw [N];decide))
   split at h
   . rename_i Z
     obtain ⟨_,rfl⟩:=fD (fe h);exact fN (by decide) Z
   split at h
   . rename_i Z
     have:=fN (by decide) Z
     split at h
     . cases h
     . rename_i o j G
       have:=mD f _ _ _ G;obtain ⟨_,rfl⟩:=fD (fe h);omega
   split at h
   . rename_i Z
     have:=fN (by decide) Z;have:=Hj f _ _ _ h;omega
   split at h
   . cases h
   . rename_i m n j G
     have:=xu G
     split at h
     . rename_i Z
       have:=fN (by decide) Z
       split at h
       . cases h
       . rename_i o t J
         have:=mD f _ _ _ J
         split at h
         . rename_i E
           have:=fN (by decide) E;obtain ⟨_,rfl⟩:=fD (fe h);omega
         . cases h
     split at h
     . rename_i Z
       have:=fN (by decide) Z
       split at h
       . cases h
       . rename_i o t J
         have:=Bf f _ _ _ J;obtain ⟨_,rfl⟩:=fD (fe h);omega
     . obtain ⟨_,rfl⟩:=fD (fe h)
       omega
theorem Hj:∀ (f:Nat) (l c:List Tk) (q:fg),kh f l=some (q,c)->c.length<l.length
 | 0,_,_,_,h=>by simp [kh] at h
 | f + 1,l,c,q,h=>by
   unfold kh at h
   split at h
   . cases h
   . rename_i a j G
     have:=mD f _ _ _ G
     split at h
     . cases h
     . rename_i k N
       have:=rB (Be N)
       split at h
       . cases h
       . rename_i b t J
         have:=mD f _ _ _ J
         split at h
         . rename_i E
           have:=fN (by decide) E;obtain ⟨_,rfl⟩:=fD (fe h);omega
         . cases h
theorem Bf:∀ (f:Nat) (l c:List Tk) (q:List fg),iK f l=some (q,c)->c.length<l.length
 | 0,_,_,_,h=>by simp [iK] at h
 | f + 1,l,c,q,h=>by
   unfold iK at h
   split at h
   . rename_i Z
     obtain ⟨_,rfl⟩:=fD (fe h);exact fN (by decide) Z
   split at h
   . cases h
   . rename_i o j G
     have:=mD f _ _ _ G;have:=Bg f _ _ _ _ h;omega
theorem Bg:∀ (f:Nat) (P:List fg) (l c:List Tk) (q:List fg),kE f P l=some (q,c)->c.length<l.length
 | 0,_,_,_,_,h=>by simp [kE] at h
 | f + 1,P,l,c,q,h=>by
   unfold kE at h
   split at h
   . rename_i Z
     have:=fN (by decide) Z
     split at h
     . cases h
     . rename_i o j G
       have:=mD f _ _ _ G;have:=Bg f _ _ _ _ h;omega
   split at h
   . rename_i Z
     obtain ⟨_,rfl⟩:=fD (fe h);exact fN (by decide) Z
   . cases h
end
variable {l c:List Tk}
def pX (l:List Tk):Option (fg × List Tk):=gz (3*l.length+8) l
def sH (l:List Tk):Option (List fg × List Tk):=iK (3*l.length+8) l
theorem oG {x:fg} (h:pX l=some (x,c)):c.length<l.length:=mD _ _ _ _ h
theorem Hk {x:List fg} (h:sH l=some (x,c)):c.length<l.length:=Bf _ _ _ _ h
def ic (l:List Tk):Option (St × List Tk):=
 match mB l with
 | none=>none
 | some ((m,n),j)=>
   if eF j ln then (match pX j.tail with | none=>none | some (q,t)=>some (.mk 1 m n [q] [] [],t))
   else if eF j kT then (match pX j.tail with
    | none=>none
    | some (q,t)=>if eF t kD then (if eF t.tail ln then (match pX t.tail.tail with | none=>none | some (o,a2)=>some (.mk 2 m n [q,o] [] [],a2)) else none) else none)
   else if eF j iU then (match sH j.tail with | none=>none | some (ae,t)=>some (.mk 3 m n ae [] [],t))
   else none
def ki (O:Option (St × List Tk)):Option (St × List Tk):=match O with | none=>none | some (s,l)=>if eF l hM then some (s,l.tail) else none
mutual
def hi:Nat->List Tk->Option (St × List Tk)
 | 0,_=>none
 | f+1,l=>
   if eF l mY then (match pX l.tail with
    | none=>none
    | some (q,j)=>match ij f j with
      | none=>none
      | some (b,t)=>if eF t qz then (match ij f t.tail with | none=>none | some (o,a2)=>if o.length=0 then none else some (.mk 4 ⟨#[]⟩ ⟨#[]⟩ [q] b o,a2))
        else some (.mk 4 ⟨#[]⟩ ⟨#[]⟩ [q] b [],t))
   else if eF l nO then (match pX l.tail with
    | none=>none
    | some (q,j)=>match ij f j with | none=>none | some (b,t)=>some (.mk 5 ⟨#[]⟩ ⟨#[]⟩ [q] b [],t))
   else if eF l oC then ki (match pX l.tail with | none=>none | some (q,j)=>some (.mk 6 ⟨#[]⟩ ⟨#[]⟩ [q] [] [],j))
   else if eF l pz then ki (match pX l.tail with | none=>none | some (q,j)=>some (.mk 7 ⟨#[]⟩ ⟨#[]⟩ [q] [] [],j))
   else ki (ic l)
def ij:Nat->List Tk->Option (List St × List Tk)
 | 0,_=>none
 | f+1,l=>if eF l pA then kU f [] l.tail else none
def kU:Nat->List St->List Tk->Option (List St × List Tk)
 | 0,_,_=>none
 | f+1,P,l=>
   if eF l lQ then some (P,l.tail)
   else match hi f l with | none=>none | some (s,j)=>kU f (P++[s]) j
end
end Go.Proofs.YtndkhgakfodldaaGreatDoor
