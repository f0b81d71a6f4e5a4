import Derived.RowKit
namespace Go.Proofs.YtndkhgakfodldaaGreatDoor
namespace Mx
namespace Mc
open Go.RowKit
structure St where
 pc:Int
 stack:List Int
 gs:List (List Int × Int)
 lo:List Int
 bk:Int
 data:List Int
 inp:List Int
 out:List Int
 ticks:Int
 steps:Int
 en:Int
inductive Res (α:Type) where
 | ok:α->St->Res α
 | stop:St->Res α
def Res.bind {α β:Type}:Res α->(α->St->Res β)->Res β
 | .ok a s,f=>f a s
 | .stop s,_=>.stop s
structure Ins where
 op:Int
 a:Int
 b:Int
structure Cfg where
 code:List Ins
 mt:Int
 ms:Int
def halt {α:Type} (e:Int) (s:St):Res α:=.stop { s with en:=e }
def push (n:Int) (s:St):Res Unit:=if s.stack.length<2048 then .ok () { s with stack:=s.stack++[n] } else halt 6 s
def pop (s:St):Res Int:=if 0<s.stack.length then .ok (s.stack.getD (s.stack.length - 1) 0) { s with stack:=s.stack.take (s.stack.length - 1) } else halt 6 s
def inB (l:List Int) (a:Int):Bool:=decide (0<=a)&&decide (a<l.length)
def getL (l:List Int) (a:Int) (s:St):Res Int:=if inB l a then .ok (l.getD a.toNat 0) s else halt 6 s
def putLo (a n:Int) (s:St):Res Unit:=if inB s.lo a then .ok () { s with lo:=s.lo.set a.toNat n } else halt 6 s
def putDa (a n:Int) (s:St):Res Unit:=if inB s.data a then .ok () { s with data:=s.data.set a.toNat n } else halt 6 s
def index (a b:Int) (s:St):Res Unit:=(pop s).bind fun i s=>if i<0\/b<=i then halt 2 s else push (wrap64 (a+i)) s
def truth (b:Bool):Int:=if b then 1 else 0
def isOp (op:Int):Bool:=decide (9<=op)&&decide (op<=15)
def reck (op a b:Int):Option Int:=
 if op=9 then some (wrap64 (a+b)) else if op=10 then some (wrap64 (a - b)) else if op=11 then some (wrap64 (a*b))
 else if op=14 then some (truth (a == b)) else if op=15 then some (truth (decide (a<b)))
 else if b=0 then none else if op=12 then some (wrap64 (a.tdiv b)) else if op=13 then some (a.tmod b) else none
def math (op:Int) (s:St):Res Unit:=
 if isOp op then (pop s).bind fun b s=>(pop s).bind fun a s=>match reck op a b with
  | some n=>push n s
  | none=>halt 1 s
 else halt 6 s
def tick (mt:Int) (s:St):Res Unit:=if s.ticks=mt then halt 3 s else .ok () { s with ticks:=s.ticks+1 }
def call (mt to:Int) (s:St):Res Unit:=
 (tick mt s).bind fun _ s=>if 24<s.gs.length+1 then halt 4 s else .ok () { s with gs:=s.gs++[(s.lo,s.bk)],lo:=[],bk:=s.pc,pc:=to }
def enter (a b:Int) (s:St):Res Unit:=
 if 0<=a/\0<=b/\b<=2048 - a then
  if a<=s.stack.length then .ok () { s with lo:=s.stack.drop (s.stack.length - a.toNat)++List.replicate b.toNat 0,stack:=s.stack.take (s.stack.length - a.toNat) }
  else halt 6 s
 else halt 6 s
def ret (s:St):Res Unit:=
 match s.gs.getLast? with
 | none=>halt 6 s
 | some f=>.ok () { s with gs:=s.gs.dropLast,lo:=f.1,bk:=f.2,pc:=s.bk }
def next (s:St):Res Int:=.ok (s.inp.headD 0) { s with inp:=s.inp.tail }
def tell (n:Int) (s:St):Res Unit:=if s.out.length=200 then halt 5 s else .ok () { s with out:=s.out++[n] }
def doI (mt:Int) (i:Ins) (s:St):Res Unit:=
 if i.op=1 then push i.a s
 else if i.op=2 then (getL s.lo i.a s).bind push
 else if i.op=3 then (pop s).bind fun n s=>putLo i.a n s
 else if i.op=4 then (getL s.data i.a s).bind push
 else if i.op=5 then (pop s).bind fun n s=>putDa i.a n s
 else if i.op=6 then index i.a i.b s
 else if i.op=7 then (pop s).bind fun a s=>(getL s.data a s).bind push
 else if i.op=8 then (pop s).bind fun n s=>(pop s).bind fun a s=>putDa a n s
 else if i.op=9 then (pop s).bind fun n s=>push (truth (n == 0)) s
 else if i.op=22 then (pop s).bind fun n s=>push (truth (n != 0)) s
 else if i.op=10 then math i.a s
 else if i.op=11 then .ok () { s with pc:=i.a }
 else if i.op=12 then (pop s).bind fun n s=>.ok () (if n=0 then { s with pc:=i.a } else s)
 else if i.op=13 then call mt i.a s
 else if i.op=14 then enter i.a i.b s
 else if i.op=15 then ret s
 else if i.op=16 then tick mt s
 else if i.op=17 then (pop s).bind fun _ s=>.ok () s
 else if i.op=18 then (next s).bind push
 else if i.op=19 then (pop s).bind tell
 else if i.op=20 then halt 0 s
 else .ok () s
def z5w (c:List Ins) (mt:Int) (s:St):Res Unit:=
 if 0<=s.pc/\s.pc<c.length then doI mt (c.getD s.pc.toNat ⟨0,0,0⟩) { s with steps:=s.steps+1,pc:=s.pc+1 }
 else halt 6 { s with steps:=s.steps+1 }
def step (c:Cfg) (s:St):Res Unit:=if s.steps=c.ms then halt 7 s else z5w c.code c.mt s
def run (c:Cfg):Nat->St->St
 | 0,s=>s
 | f+1,s=>match step c s with
   | .stop s=>s
   | .ok _ s=>run c f s
end Mc
end Mx
namespace Mx
namespace Mc
def zgt (s s':St):Prop:=s'.steps=s.steps/\s.out <+: s'.out
theorem zgt.refl (s:St):zgt s s:=⟨rfl,List.prefix_refl _⟩
theorem zgt.trans {a b c:St} (h:zgt a b) (k:zgt b c):zgt a c:=⟨k.1.trans h.1,h.2.trans k.2⟩
def Res.fin {α:Type}:Res α->St
 | .ok _ s=>s
 | .stop s=>s
theorem za7 {α β:Type} {s:St} {r:Res α} {f:α->St->Res β} (h:zgt s r.fin) (hf:∀ a s',zgt s' (f a s').fin):zgt s (r.bind f).fin:=by
 cases r with
 | ok a s'=>exact h.trans (hf a s')
 | stop s'=>exact h
theorem zbi {α:Type} (e:Int) (s:St):zgt s (halt e s:Res α).fin:=⟨rfl,List.prefix_refl _⟩
theorem zct (n:Int) (s:St):zgt s (push n s).fin:=by
 unfold push;split
 . exact ⟨rfl,List.prefix_refl _⟩
 . exact zbi _ _
theorem zb4 (s:St):zgt s (pop s).fin:=by
 unfold pop;split
 . exact ⟨rfl,List.prefix_refl _⟩
 . exact zbi _ _
theorem zjz (l:List Int) (a:Int) (s:St):zgt s (getL l a s).fin:=by
 unfold getL;split
 . exact ⟨rfl,List.prefix_refl _⟩
 . exact zbi _ _
theorem zuo (a n:Int) (s:St):zgt s (putLo a n s).fin:=by
 unfold putLo;split
 . exact ⟨rfl,List.prefix_refl _⟩
 . exact zbi _ _
theorem zl9 (a n:Int) (s:St):zgt s (putDa a n s).fin:=by
 unfold putDa;split
 . exact ⟨rfl,List.prefix_refl _⟩
 . exact zbi _ _
theorem zup (a b:Int) (s:St):zgt s (index a b s).fin:=by
 unfold index;refine za7 (zb4 s) (fun i s'=>?_);split
 . exact zbi _ _
 . exact zct _ _
theorem zw3 (op:Int) (s:St):zgt s (math op s).fin:=by
 unfold math;split
 . refine za7 (zb4 s) (fun b s1=>za7 (zb4 s1) (fun a s2=>?_))
   split
   . exact zct _ _
   . exact zbi _ _
 . exact zbi _ _
theorem zpk (mt:Int) (s:St):zgt s (tick mt s).fin:=by
 unfold tick;split
 . exact zbi _ _
 . exact ⟨rfl,List.prefix_refl _⟩
theorem zw4 (mt to:Int) (s:St):zgt s (call mt to s).fin:=by
 unfold call;refine za7 (zpk mt s) (fun _ s1=>?_);split
 . exact zbi _ _
 . exact ⟨rfl,List.prefix_refl _⟩
theorem zuq (a b:Int) (s:St):zgt s (enter a b s).fin:=by
 unfold enter;split
 . split
   . exact ⟨rfl,List.prefix_refl _⟩
   . exact zbi _ _
 . exact zbi _ _
theorem z0d (s:St):zgt s (ret s).fin:=by
 unfold ret;split
 . exact zbi _ _
 . exact ⟨rfl,List.prefix_refl _⟩
theorem zw5 (s:St):zgt s (next s).fin:=⟨rfl,List.prefix_refl _⟩
theorem zw6 (n:Int) (s:St):zgt s (tell n s).fin:=by
 unfold tell;split
 . exact zbi _ _
 . exact ⟨rfl,List.prefix_append _ _⟩
theorem zbc {p:Prop} [Decidable p] {s:St} {x y:Res Unit} (hx:zgt s x.fin) (hy:zgt s y.fin):zgt s (if p then x else y).fin:=by split<;>assumption
theorem z3q (mt:Int) (i:Ins) (s:St):zgt s (doI mt i s).fin:=by
 unfold doI;refine zbc (zct _ _) (zbc (za7 (zjz _ _ _) zct) (zbc (za7 (zb4 s) (fun n s=>zuo _ _ _)) (zbc (za7 (zjz _ _ _) zct) (zbc (za7 (zb4 s) (fun n s=>zl9 _ _ _)) (zbc (zup _ _ _) (zbc (za7 (zb4 s) (fun a s=>za7 (zjz _ _ _) zct)) (zbc (za7 (zb4 s) (fun n s=>za7 (zb4 s) (fun a s=>zl9 _ _ _))) (zbc (za7 (zb4 s) (fun n s=>zct _ _)) (zbc (za7 (zb4 s) (fun n s=>zct _ _)) (zbc (zw3 _ _) (zbc ⟨rfl,List.prefix_refl _⟩ (zbc (za7 (zb4 s) (fun n s=>?_)) (zbc (zw4 _ _ _) (zbc (zuq _ _ _) (zbc (z0d _) (zbc (zpk _ _) (zbc (za7 (zb4 s) (fun n s=>zgt.refl s)) (zbc (za7 (zw5 s) zct) (zbc (za7 (zb4 s) zw6) (zbc (zbi _ _) (zgt.refl s)))))))))))))))))))))
 show zgt s (if n=0 then { s with pc:=i.a } else s);split
 . exact ⟨rfl,List.prefix_refl _⟩
 . exact zgt.refl s
theorem zur (c:List Ins) (mt:Int) (s:St):(z5w c mt s).fin.steps=s.steps+1/\s.out <+: (z5w c mt s).fin.out:=by
 unfold z5w;split
 . exact z3q mt _ _
 . exact ⟨rfl,List.prefix_refl _⟩
theorem step_ok {c:Cfg} {s s':St} {u:Unit} (h:step c s = .ok u s'):s'.steps=s.steps+1/\s.out <+: s'.out/\s.steps≠c.ms/\z5w c.code c.mt s = .ok u s':=by
 unfold step at h
 split at h
 . cases h
 . have:=zur c.code c.mt s
   rw [h] at this;exact ⟨this.1,this.2,by assumption,h⟩
theorem run_succ (c:Cfg) (f:Nat) (s:St):run c (f+1) s=match step c s with
 | .stop s=>s
 | .ok _ s=>run c f s:=rfl
end Mc
end Mx
end Go.Proofs.YtndkhgakfodldaaGreatDoor
