import Derived.RowKit
namespace Go.Proofs.YtndkhgakfodldaaGreatDoor
namespace Mx
namespace Mc
open Go.RowKit
variable {α l:Type}
structure St where
 pc:Int
 stack:List Int
 gs:List (List Int × Int)
 lo:List Int
 bk:Int
 data:List Int
 inp:List Int
 out:List Int
 ticks:Int
 steps:Int
 en:Int
inductive Res (α:Type) where
 | ok:α->St->Res α
 | stop:St->Res α
def Res.bind:Res α->(α->St->Res l)->Res l
 | .ok a s,f=>f a s
 | .stop s,_=>.stop s
structure Ins where
 op:Int
 a:Int
 b:Int
structure Cfg where
 code:List Ins
 mt:Int
 ms:Int
def halt (e:Int) (s:St):Res α:=.stop { s with en:=e }
def push (n:Int) (s:St):Res Unit:=if s.stack.length<2048 then .ok () { s with stack:=s.stack++[n] } else halt 6 s
def pop (s:St):Res Int:=if 0<s.stack.length then .ok (s.stack.getD (s.stack.length - 1) 0) { s with stack:=s.stack.take (s.stack.length - 1) } else halt 6 s
def inB (l:List Int) (a:Int):Bool:=decide (0<=a)&&decide (a<l.length)
def getL (l:List Int) (a:Int) (s:St):Res Int:=if inB l a then .ok (l.getD a.toNat 0) s else halt 6 s
def putLo (a n:Int) (s:St):Res Unit:=if inB s.lo a then .ok () { s with lo:=s.lo.set a.toNat n } else halt 6 s
def putDa (a n:Int) (s:St):Res Unit:=if inB s.data a then .ok () { s with data:=s.data.set a.toNat n } else halt 6 s
def index (a b:Int) (s:St):Res Unit:=(pop s).bind fun i s=>if i<0\/b<=i then halt 2 s else push (wrap64 (a+i)) s
def truth (b:Bool):Int:=if b then 1 else 0
def isOp (p:Int):Bool:=decide (9<=p)&&decide (p<=15)
def reck (p a b:Int):Option Int:=
 if p=9 then some (wrap64 (a+b)) else if p=10 then some (wrap64 (a - b)) else if p=11 then some (wrap64 (a*b))
 else if p=14 then some (truth (a == b)) else if p=15 then some (truth (decide (a<b)))
 else if b=0 then none else if p=12 then some (wrap64 (a.tdiv b)) else if p=13 then some (a.tmod b) else none
def math (p:Int) (s:St):Res Unit:=
 if isOp p then (pop s).bind fun V s=>(pop s).bind fun a s=>match reck p a V with
  | some n=>push n s
  | none=>halt 1 s
 else halt 6 s
def tick (b:Int) (s:St):Res Unit:=if s.ticks=b then halt 3 s else .ok () { s with ticks:=s.ticks+1 }
def call (b to:Int) (s:St):Res Unit:=
 (tick b s).bind fun _ s=>if 24<s.gs.length+1 then halt 4 s else .ok () { s with gs:=s.gs++[(s.lo,s.bk)],lo:=[],bk:=s.pc,pc:=to }
def enter (a b:Int) (s:St):Res Unit:=
 if 0<=a/\0<=b/\b<=2048 - a then
  if a<=s.stack.length then .ok () { s with lo:=s.stack.drop (s.stack.length - a.toNat)++List.replicate b.toNat 0,stack:=s.stack.take (s.stack.length - a.toNat) }
  else halt 6 s
 else halt 6 s
def ret (s:St):Res Unit:=
 match s.gs.getLast? with
 | none=>halt 6 s
 | some f=>.ok () { s with gs:=s.gs.dropLast,lo:=f.1,bk:=f.2,pc:=s.bk }
def next (s:St):Res Int:=.ok (s.inp.headD 0) { s with inp:=s.inp.tail }
def tell (n:Int) (s:St):Res Unit:=if s.out.length=200 then halt 5 s else .ok () { s with out:=s.out++[n] }
def doI (b:Int) (i:Ins) (s:St):Res Unit:=
 if i.op=1 then push i.a s
 else if i.op=2 then (getL s.lo i.a s).bind push
 else if i.op=3 then (pop s).bind fun n s=>putLo i.a n s
 else if i.op=4 then (getL s.data i.a s).bind push
 else if i.op=5 then (pop s).bind fun n s=>putDa i.a n s
 else if i.op=6 then index i.a i.b s
 else if i.op=7 then (pop s).bind fun a s=>(getL s.data a s).bind push
 else if i.op=8 then (pop s).bind fun n s=>(pop s).bind fun a s=>putDa a n s
 else if i.op=9 then (pop s).bind fun n s=>push (truth (n == 0)) s
 else if i.op=22 then (pop s).bind fun n s=>push (truth (n != 0)) s
 else if i.op=10 then math i.a s
 else if i.op=11 then .ok () { s with pc:=i.a }
 else if i.op=12 then (pop s).bind fun n s=>.ok () (if n=0 then { s with pc:=i.a } else s)
 else if i.op=13 then call b i.a s
 else if i.op=14 then enter i.a i.b s
 else if i.op=15 then ret s
 else if i.op=16 then tick b s
 else if i.op=17 then (pop s).bind fun _ s=>.ok () s
 else if i.op=18 then (next s).bind push
 else if i.op=19 then (pop s).bind tell
 else if i.op=20 then halt 0 s
 else .ok () s
def sk (c:List Ins) (b:Int) (s:St):Res Unit:=
 if 0<=s.pc/\s.pc<c.length then doI b (c.getD s.pc.toNat ⟨0,0,0⟩) { s with steps:=s.steps+1,pc:=s.pc+1 }
 else halt 6 { s with steps:=s.steps+1 }
def step (c:Cfg) (s:St):Res Unit:=if s.steps=c.ms then halt 7 s else sk c.code c.mt s
def run (c:Cfg):Nat->St->St
 | 0,s=>s
 | f+1,s=>match step c s with
   | .stop s=>s
   | .ok _ s=>run c f s
def hj (s s':St):Prop:=s'.steps=s.steps/\s.out <+: s'.out
theorem hj.refl (s:St):hj s s:=⟨rfl,List.prefix_refl _⟩
theorem hj.trans {a b c:St} (h:hj a b) (k:hj b c):hj a c:=⟨k.1.trans h.1,h.2.trans k.2⟩
def Res.fin:Res α->St
 | .ok _ s=>s
 | .stop s=>s
theorem jQ {s:St} {O:Res α} {f:α->St->Res l} (h:hj s O.fin) (ag:∀ a u,hj u (f a u).fin):hj s (O.bind f).fin:=by
 cases O with
 | ok a u=>exact h.trans (ag a u)
 | stop u=>exact h
theorem kM (e:Int) (s:St):hj s (halt e s:Res α).fin:=⟨rfl,List.prefix_refl _⟩
theorem oc (n:Int) (s:St):hj s (push n s).fin:=by
 unfold push;split
 . exact ⟨rfl,List.prefix_refl _⟩
 . exact kM _ _
theorem lF (s:St):hj s (pop s).fin:=by
 unfold pop;split
 . exact ⟨rfl,List.prefix_refl _⟩
 . exact kM _ _
theorem wt (l:List Int) (a:Int) (s:St):hj s (getL l a s).fin:=by
 unfold getL;split
 . exact ⟨rfl,List.prefix_refl _⟩
 . exact kM _ _
theorem Fm (a n:Int) (s:St):hj s (putLo a n s).fin:=by
 unfold putLo;split
 . exact ⟨rfl,List.prefix_refl _⟩
 . exact kM _ _
theorem Aa (a n:Int) (s:St):hj s (putDa a n s).fin:=by
 unfold putDa;split
 . exact ⟨rfl,List.prefix_refl _⟩
 . exact kM _ _
theorem Fo (a b:Int) (s:St):hj s (index a b s).fin:=by
 unfold index;refine jQ (lF s) (fun i u=>?_);split
 . exact kM _ _
 . exact oc _ _
theorem Fp (p:Int) (s:St):hj s (math p s).fin:=by
 unfold math;split
 . refine jQ (lF s) (fun V D=>jQ (lF D) (fun a b6=>?_))
   split
   . exact oc _ _
   . exact kM _ _
 . exact kM _ _
theorem Ab (b:Int) (s:St):hj s (tick b s).fin:=by
 unfold tick;split
 . exact kM _ _
 . exact ⟨rfl,List.prefix_refl _⟩
theorem Fq (b to:Int) (s:St):hj s (call b to s).fin:=by
 unfold call;refine jQ (Ab b s) (fun _ D=>?_);split
 . exact kM _ _
 . exact ⟨rfl,List.prefix_refl _⟩
theorem Fs (a b:Int) (s:St):hj s (enter a b s).fin:=by
 unfold enter;split
 . split
   . exact ⟨rfl,List.prefix_refl _⟩
   . exact kM _ _
 . exact kM _ _
theorem Ft (s:St):hj s (ret s).fin:=by
 unfold ret;split
 . exact kM _ _
 . exact ⟨rfl,List.prefix_refl _⟩
theorem Fu (s:St):hj s (next s).fin:=⟨rfl,List.prefix_refl _⟩
theorem Fv (n:Int) (s:St):hj s (tell n s).fin:=by
 unfold tell;split
 . exact kM _ _
 . exact ⟨rfl,List.prefix_append _ _⟩
theorem jd {p:Prop} [Decidable p] {s:St} {x y:Res Unit} (Q:hj s x.fin) (z:hj s y.fin):hj s (if p then x else y).fin:=by split<;>assumption
theorem Fw (b:Int) (i:Ins) (s:St):hj s (doI b i s).fin:=by
 unfold doI;refine jd (oc _ _) (jd (jQ (wt _ _ _) oc) (jd (jQ (lF s) (fun n s=>Fm _ _ _)) (jd (jQ (wt _ _ _) oc) (jd (jQ (lF s) (fun n s=>Aa _ _ _)) (jd (Fo _ _ _) (jd (jQ (lF s) (fun a s=>jQ (wt _ _ _) oc)) (jd (jQ (lF s) (fun n s=>jQ (lF s) (fun a s=>Aa _ _ _))) (jd (jQ (lF s) (fun n s=>oc _ _)) (jd (jQ (lF s) (fun n s=>oc _ _)) (jd (Fp _ _) (jd ⟨rfl,List.prefix_refl _⟩ (jd (jQ (lF s) (fun n s=>?_)) (jd (Fq _ _ _) (jd (Fs _ _ _) (jd (Ft _) (jd (Ab _ _) (jd (jQ (lF s) (fun n s=>hj.refl s)) (jd (jQ (Fu s) oc) (jd (jQ (lF s) Fv) (jd (kM _ _) (hj.refl s)))))))))))))))))))))
 show hj s (if n=0 then { s with pc:=i.a } else s);split
 . exact ⟨rfl,List.prefix_refl _⟩
 . exact hj.refl s
theorem Fy (c:List Ins) (b:Int) (s:St):(sk c b s).fin.steps=s.steps+1/\s.out <+: (sk c b s).fin.out:=by
 unfold sk;split
 . exact Fw b _ _
 . exact ⟨rfl,List.prefix_refl _⟩
theorem step_ok {c:Cfg} {s s':St} {u:Unit} (h:step c s = .ok u s'):s'.steps=s.steps+1/\s.out <+: s'.out/\s.steps≠c.ms/\sk c.code c.mt s = .ok u s':=by
 unfold step at h
 split at h
 . cases h
 . have:=Fy c.code c.mt s
   rw [h] at this;exact ⟨this.1,this.2,by assumption,h⟩
theorem run_succ (c:Cfg) (f:Nat) (s:St):run c (f+1) s=match step c s with
 | .stop s=>s
 | .ok _ s=>run c f s:=rfl
end Mc
end Mx
end Go.Proofs.YtndkhgakfodldaaGreatDoor
