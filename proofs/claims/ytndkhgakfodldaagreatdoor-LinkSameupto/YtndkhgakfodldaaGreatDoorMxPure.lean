import Derived.RowKit
namespace Go.Proofs.YtndkhgakfodldaaGreatDoor
theorem N8{P:Prop}(h:P:=by omega):P:=h
theorem Oa{P:Prop}(h:P:=by decide):P:=h
theorem Oc{P:Prop}(h:P:=by simp):P:=h
theorem Og{P:Prop}(h:P:=by (simp;omega)):P:=h
theorem Oi{P:Prop}(h:P:=by (unfold maxLen;omega)):P:=h
theorem Ol{P:Prop}(h:P:=by (first | (simp;done) | (simp;omega))):P:=h
theorem Ot{P:Prop}(h:P:=by rfl):P:=h
theorem Oy{P:Prop}(h:P:=by (obtain ⟨eU,z,rfl,Hm⟩:=h.pan;exact ⟨rfl,dM.of_stop (A.trans ((bind_ok _ aY.out).trans z)) Hm.out⟩)):P:=h
theorem OK{P:Prop}(h:P:=by (rw [Lib.cell_of_heap aZ.out];rfl)):P:=h
theorem OM{P:Prop}(h:P:=by (obtain ⟨b1,z,rfl,Hm⟩:=h.1.pan;exact ⟨rfl,dM.of_stop (A.trans (jB _ z)) Hm.out⟩)):P:=h
theorem OS{P:Prop}(h:P:=by (simp [Region.wanted,l])):P:=h
theorem Pa{P:Prop}(h:P:=by (obtain ⟨b1,z,rfl,Hm⟩:=h.pan;exact ⟨rfl,dM.of_stop (A.trans (jB _ z)) Hm.out⟩)):P:=h
theorem Pc{P:Prop}(h:P:=by (rw [← bh.out,← a7];exact H.out.cell.2.2.2.2.2.1)):P:=h
theorem Pf{P:Prop}(h:P:=by (rw [af];rfl)):P:=h
theorem Ph{P:Prop}(h:P:=by (rw [← af];exact h.cell.2.2.2.2.2.1)):P:=h
theorem Pm{P:Prop}(h:P:=by (rw [heap_set (H.trans h.blk)];rfl)):P:=h
theorem PG{P:Prop}(h:P:=by (rw [A.out];rfl)):P:=h
theorem PH{P:Prop}(h:P:=by (subst a0;exact a1 (e.symm.trans h.tR))):P:=h
theorem PM{P:Prop}(h:P:=by (obtain ⟨_,_,h,_⟩:=h;cases h)):P:=h
theorem PV{P:Prop}(h:P:=by (rw [List.length_append];omega)):P:=h
theorem P5{P:Prop}(h:P:=by (simp [Mc.inB];omega)):P:=h
theorem Qd{P:Prop}(h:P:=by (simp [startS])):P:=h
theorem QH{P:Prop}(h:P:=by
 have Z:k≠w.heap.size+1:=by omega
 show (((((dC.setCell ⟨w.heap.size+1,0,none⟩ (.int .i64 l.en)).setCell ⟨w.heap.size+1,1,none⟩ (.slice s l.out.length J)).setCell ⟨w.heap.size+1,2,none⟩ (.slice ai l.data.length K)).setCell ⟨w.heap.size+1,3,none⟩ (.int .i64 l.ticks)).heap)[k]? = _;rw [Below.heap_setCell _ _ _ k Z,Below.heap_setCell _ _ _ k Z,Below.heap_setCell _ _ _ k Z,Below.heap_setCell _ _ _ k Z]):P:=h
theorem QX{P:Prop}(h:P:=by
 exact ⟨rfl,List.prefix_refl _⟩):P:=h
theorem Sc{P:Prop}(h:P:=by
 cases r with
 | ok a s=>exact Or.inl ⟨a,s,rfl,h.1,h.2⟩
 | stop s=>exact Or.inr ⟨s,rfl,h.1,h.2⟩):P:=h
theorem SA{P:Prop}(h:P:=by
 cases r with
 | ok a s=>exact ⟨a,s,rfl,by cases h.1;rfl,h.2⟩
 | stop s=>cases h.1):P:=h
theorem SD{P:Prop}(h:P:=by
 cases r with
 | ok a s=>cases h.1
 | stop s=>exact ⟨s,rfl,by cases h.1;rfl,h.2⟩):P:=h
theorem SI{P:Prop}(h:P:=by
 rw [Q] at this;exact this):P:=h
theorem SP{P:Prop}(h:P:=by
 have e:w.heap.size=k:=by simpa [Value.ownBlock] using N
 omega):P:=h
theorem S1{P:Prop}(h:P:=by
 rintro e G ⟨rfl,rfl⟩;exact dM.stop A rfl ⟨_,_,h.setEn 6⟩):P:=h
theorem S6{P:Prop}(h:P:=by
 intro h;cases r with
 | ok a s=>cases h.1
 | stop s=>cases h.1):P:=h
namespace Mx
namespace Mc
open Go.RowKit
variable {α β:Type}
structure St where
 pc:Int
 stack:List Int
 gs:List (List Int × Int)
 lo:List Int
 bk:Int
 data:List Int
 inp:List Int
 out:List Int
 ticks:Int
 steps:Int
 en:Int
inductive Res (α:Type) where
 | ok:α->St->Res α
 | stop:St->Res α
def Res.bind:Res α->(α->St->Res β)->Res β
 | .ok a o,f=>f a o
 | .stop o,_=>.stop o
structure Ins where
 op:Int
 a:Int
 b:Int
structure Cfg where
 code:List Ins
 mt:Int
 ms:Int
def halt (e:Int) (s:St):Res α:=.stop { s with en:=e }
def push (n:Int) (s:St):Res Unit:=if s.stack.length<2048 then .ok () { s with stack:=s.stack++[n] } else halt 6 s
def pop (s:St):Res Int:=if 0<s.stack.length then .ok (s.stack.getD (s.stack.length - 1) 0) { s with stack:=s.stack.take (s.stack.length - 1) } else halt 6 s
def inB (l:List Int) (a:Int):Bool:=decide (0<=a)&&decide (a<l.length)
def getL (l:List Int) (a:Int) (s:St):Res Int:=if inB l a then .ok (l.getD a.toNat 0) s else halt 6 s
def putLo (a n:Int) (s:St):Res Unit:=if inB s.lo a then .ok () { s with lo:=s.lo.set a.toNat n } else halt 6 s
def putDa (a n:Int) (s:St):Res Unit:=if inB s.data a then .ok () { s with data:=s.data.set a.toNat n } else halt 6 s
def index (a b:Int) (s:St):Res Unit:=(pop s).bind fun i s=>if i<0\/b<=i then halt 2 s else push (wrap64 (a+i)) s
def truth (b:Bool):Int:=if b then 1 else 0
def isOp (T:Int):Bool:=decide (9<=T)&&decide (T<=15)
def reck (T a b:Int):Option Int:=
 if T=9 then some (wrap64 (a+b)) else if T=10 then some (wrap64 (a - b)) else if T=11 then some (wrap64 (a*b))
 else if T=14 then some (truth (a == b)) else if T=15 then some (truth (decide (a<b)))
 else if b=0 then none else if T=12 then some (wrap64 (a.tdiv b)) else if T=13 then some (a.tmod b) else none
def math (T:Int) (s:St):Res Unit:=
 if isOp T then (pop s).bind fun p s=>(pop s).bind fun a s=>match reck T a p with
  | some n=>push n s
  | none=>halt 1 s
 else halt 6 s
def tick (mt:Int) (s:St):Res Unit:=if s.ticks=mt then halt 3 s else .ok () { s with ticks:=s.ticks+1 }
def call (mt to:Int) (s:St):Res Unit:=
 (tick mt s).bind fun _ s=>if 24<s.gs.length+1 then halt 4 s else .ok () { s with gs:=s.gs++[(s.lo,s.bk)],lo:=[],bk:=s.pc,pc:=to }
def enter (a b:Int) (s:St):Res Unit:=
 if 0<=a/\0<=b/\b<=2048 - a then
  if a<=s.stack.length then .ok () { s with lo:=s.stack.drop (s.stack.length - a.toNat)++List.replicate b.toNat 0,stack:=s.stack.take (s.stack.length - a.toNat) }
  else halt 6 s
 else halt 6 s
def ret (s:St):Res Unit:=
 match s.gs.getLast? with
 | none=>halt 6 s
 | some f=>.ok () { s with gs:=s.gs.dropLast,lo:=f.1,bk:=f.2,pc:=s.bk }
def next (s:St):Res Int:=.ok (s.inp.headD 0) { s with inp:=s.inp.tail }
def tell (n:Int) (s:St):Res Unit:=if s.out.length=200 then halt 5 s else .ok () { s with out:=s.out++[n] }
def doI (mt:Int) (i:Ins) (s:St):Res Unit:=
 if i.op=1 then push i.a s
 else if i.op=2 then (getL s.lo i.a s).bind push
 else if i.op=3 then (pop s).bind fun n s=>putLo i.a n s
 else if i.op=4 then (getL s.data i.a s).bind push
 else if i.op=5 then (pop s).bind fun n s=>putDa i.a n s
 else if i.op=6 then index i.a i.b s
 else if i.op=7 then (pop s).bind fun a s=>(getL s.data a s).bind push
 else if i.op=8 then (pop s).bind fun n s=>(pop s).bind fun a s=>putDa a n s
 else if i.op=9 then (pop s).bind fun n s=>push (truth (n == 0)) s
 else if i.op=22 then (pop s).bind fun n s=>push (truth (n != 0)) s
 else if i.op=10 then math i.a s
 else if i.op=11 then .ok () { s with pc:=i.a }
 else if i.op=12 then (pop s).bind fun n s=>.ok () (if n=0 then { s with pc:=i.a } else s)
 else if i.op=13 then call mt i.a s
 else if i.op=14 then enter i.a i.b s
 else if i.op=15 then ret s
 else if i.op=16 then tick mt s
 else if i.op=17 then (pop s).bind fun _ s=>.ok () s
 else if i.op=18 then (next s).bind push
 else if i.op=19 then (pop s).bind tell
 else if i.op=20 then halt 0 s
 else .ok () s
def core (c:List Ins) (mt:Int) (s:St):Res Unit:=
 if 0<=s.pc/\s.pc<c.length then doI mt (c.getD s.pc.toNat ⟨0,0,0⟩) { s with steps:=s.steps+1,pc:=s.pc+1 }
 else halt 6 { s with steps:=s.steps+1 }
def step (c:Cfg) (s:St):Res Unit:=if s.steps=c.ms then halt 7 s else core c.code c.mt s
def run (c:Cfg):Nat->St->St
 | 0,o=>o
 | f+1,o=>match step c o with
   | .stop o=>o
   | .ok _ o=>run c f o
def gP (s s':St):Prop:=s'.steps=s.steps/\s.out <+: s'.out
theorem gP.refl (s:St):gP s s:=⟨rfl,List.prefix_refl _⟩
theorem gP.trans {a b c:St} (h:gP a b) (k:gP b c):gP a c:=⟨k.1.trans h.1,h.2.trans k.2⟩
def Res.fin:Res α->St
 | .ok _ o=>o
 | .stop o=>o
theorem jC {s:St} {r:Res α} {f:α->St->Res β} (h:gP s r.fin) (Y:∀ a c,gP c (f a c).fin):gP s (r.bind f).fin:=by
 cases r with
 | ok a c=>exact h.trans (Y a c)
 | stop c=>exact h
theorem kD (e:Int) (s:St):gP s (halt e s:Res α).fin:=⟨rfl,List.prefix_refl _⟩
theorem ot (n:Int) (s:St):gP s (push n s).fin:=by
 unfold push;split
 . exact QX
 . exact kD _ _
theorem lw (s:St):gP s (pop s).fin:=by
 unfold pop;split
 . exact QX
 . exact kD _ _
theorem w4 (l:List Int) (a:Int) (s:St):gP s (getL l a s).fin:=by
 unfold getL;split
 . exact QX
 . exact kD _ _
theorem HO (a n:Int) (s:St):gP s (putLo a n s).fin:=by
 unfold putLo;split
 . exact QX
 . exact kD _ _
theorem Bq (a n:Int) (s:St):gP s (putDa a n s).fin:=by
 unfold putDa;split
 . exact QX
 . exact kD _ _
theorem HP (a b:Int) (s:St):gP s (index a b s).fin:=by
 unfold index;refine jC (lw s) (fun i c=>?_);split
 . exact kD _ _
 . exact ot _ _
theorem HQ (T:Int) (s:St):gP s (math T s).fin:=by
 unfold math;split
 . refine jC (lw s) (fun p ay=>jC (lw ay) (fun a b1=>?_))
   split
   . exact ot _ _
   . exact kD _ _
 . exact kD _ _
theorem Br (mt:Int) (s:St):gP s (tick mt s).fin:=by
 unfold tick;split
 . exact kD _ _
 . exact QX
theorem HR (mt to:Int) (s:St):gP s (call mt to s).fin:=by
 unfold call;refine jC (Br mt s) (fun _ ay=>?_);split
 . exact kD _ _
 . exact QX
theorem HS (a b:Int) (s:St):gP s (enter a b s).fin:=by
 unfold enter;split
 . split
   . exact QX
   . exact kD _ _
 . exact kD _ _
theorem HT (s:St):gP s (ret s).fin:=by
 unfold ret;split
 . exact kD _ _
 . exact QX
theorem HU (s:St):gP s (next s).fin:=⟨rfl,List.prefix_refl _⟩
theorem HV (n:Int) (s:St):gP s (tell n s).fin:=by
 unfold tell;split
 . exact kD _ _
 . exact ⟨rfl,List.prefix_append _ _⟩
theorem iV {p:Prop} [Decidable p] {s:St} {x y:Res Unit} (S:gP s x.fin) (a4:gP s y.fin):gP s (if p then x else y).fin:=by split<;>assumption
theorem HW (mt:Int) (i:Ins) (s:St):gP s (doI mt i s).fin:=by
 unfold doI;refine iV (ot _ _) (iV (jC (w4 _ _ _) ot) (iV (jC (lw s) (fun n s=>HO _ _ _)) (iV (jC (w4 _ _ _) ot) (iV (jC (lw s) (fun n s=>Bq _ _ _)) (iV (HP _ _ _) (iV (jC (lw s) (fun a s=>jC (w4 _ _ _) ot)) (iV (jC (lw s) (fun n s=>jC (lw s) (fun a s=>Bq _ _ _))) (iV (jC (lw s) (fun n s=>ot _ _)) (iV (jC (lw s) (fun n s=>ot _ _)) (iV (HQ _ _) (iV ⟨rfl,List.prefix_refl _⟩ (iV (jC (lw s) (fun n s=>?_)) (iV (HR _ _ _) (iV (HS _ _ _) (iV (HT _) (iV (Br _ _) (iV (jC (lw s) (fun n s=>gP.refl s)) (iV (jC (HU s) ot) (iV (jC (lw s) HV) (iV (kD _ _) (gP.refl s)))))))))))))))))))))
 show gP s (if n=0 then { s with pc:=i.a } else s);split
 . exact QX
 . exact gP.refl s
theorem core_steps (c:List Ins) (mt:Int) (s:St):(core c mt s).fin.steps=s.steps+1/\s.out <+: (core c mt s).fin.out:=by
 unfold core;split
 . exact HW mt _ _
 . exact QX
theorem step_ok {c:Cfg} {s s':St} {u:Unit} (h:step c s = .ok u s'):s'.steps=s.steps+1/\s.out <+: s'.out/\s.steps≠c.ms/\core c.code c.mt s = .ok u s':=by
 unfold step at h
 split at h
 . cases h
 . have:=core_steps c.code c.mt s
   rw [h] at this;exact ⟨this.1,this.2,by assumption,h⟩
theorem run_succ (c:Cfg) (f:Nat) (s:St):run c (f+1) s=match step c s with
 | .stop s=>s
 | .ok _ s=>run c f s:=rfl
end Mc
end Mx
end Go.Proofs.YtndkhgakfodldaaGreatDoor
