import Derived.RowKit
namespace Go.Proofs.YtndkhgakfodldaaGreatDoor
theorem ag{P:Prop}(h:P:=by omega):P:=h
theorem aw{P:Prop}(h:P:=by decide):P:=h
theorem aB{P:Prop}(h:P:=by simp):P:=h
theorem aG{P:Prop}(h:P:=by (simp;omega)):P:=h
theorem aI{P:Prop}(h:P:=by rfl):P:=h
theorem aO{P:Prop}(h:P:=by (first | (simp;done) | (simp;omega))):P:=h
theorem aQ{P:Prop}(h:P:=by (unfold maxLen;omega)):P:=h
theorem aV{P:Prop}(h:P:=by (obtain ⟨s3,HR,rfl,Hm⟩:=h.pan;exact ⟨rfl,zas.of_stop (HP.out.trans ((bind_ok _ An.out).trans HR.out)) Hm.out⟩)):P:=h
theorem bv{P:Prop}(h:P:=by (obtain ⟨s2,HR,rfl,Hm⟩:=h.1.pan;exact ⟨rfl,zas.of_stop (HP.out.trans (zba _ HR.out)) Hm.out⟩)):P:=h
theorem bA{P:Prop}(h:P:=by (rw [Lib.cell_of_heap HX.out];rfl)):P:=h
theorem bL{P:Prop}(h:P:=by (simp [Region.wanted,BK])):P:=h
theorem bX{P:Prop}(h:P:=by (obtain ⟨s2,HR,rfl,Hm⟩:=h.pan;exact ⟨rfl,zas.of_stop (HP.out.trans (zba _ HR.out)) Hm.out⟩)):P:=h
theorem cG{P:Prop}(h:P:=by (rw [← HV.out,← hda];exact Cb.out.cell.2.2.2.2.2.1)):P:=h
theorem cL{P:Prop}(h:P:=by (rw [hv];rfl)):P:=h
theorem cW{P:Prop}(h:P:=by (rw [heap_set (hR.trans h.blk)];rfl)):P:=h
theorem cX{P:Prop}(h:P:=by (rw [← hv];exact h.cell.2.2.2.2.2.1)):P:=h
theorem dS{P:Prop}(h:P:=by (subst e';exact hm (e.symm.trans h.tR))):P:=h
theorem dZ{P:Prop}(h:P:=by (obtain ⟨_,_,h,_⟩:=h;cases h)):P:=h
theorem eI{P:Prop}(h:P:=by (rw [List.length_append];omega)):P:=h
theorem eU{P:Prop}(h:P:=by (simp [Mc.inB];omega)):P:=h
theorem fq{P:Prop}(h:P:=by (simp [zck])):P:=h
theorem fX{P:Prop}(h:P:=by
 have hn:k≠w.heap.size+1:=by omega
 show (((((w3.setCell ⟨w.heap.size+1,0,none⟩ (.int .i64 F.en)).setCell ⟨w.heap.size+1,1,none⟩ (.slice oa F.out.length oc)).setCell ⟨w.heap.size+1,2,none⟩ (.slice da F.data.length dc)).setCell ⟨w.heap.size+1,3,none⟩ (.int .i64 F.ticks)).heap)[k]? = _;rw [Below.heap_setCell _ _ _ k hn,Below.heap_setCell _ _ _ k hn,Below.heap_setCell _ _ _ k hn,Below.heap_setCell _ _ _ k hn]):P:=h
theorem gw{P:Prop}(h:P:=by
 split
 . exact ⟨rfl,List.prefix_refl _⟩
 . exact zbl _ _):P:=h
theorem iP{P:Prop}(h:P:=by
 exact ⟨rfl,List.prefix_refl _⟩):P:=h
theorem iV{P:Prop}(h:P:=by
 cases r with
 | ok a s=>exact Or.inl ⟨a,s,rfl,h.1,h.2⟩
 | stop s=>exact Or.inr ⟨s,rfl,h.1,h.2⟩):P:=h
theorem jm{P:Prop}(h:P:=by
 cases r with
 | ok a s=>exact ⟨a,s,rfl,by cases h.1;rfl,h.2⟩
 | stop s=>cases h.1):P:=h
theorem jo{P:Prop}(h:P:=by
 cases r with
 | ok a s=>cases h.1
 | stop s=>exact ⟨s,rfl,by cases h.1;rfl,h.2⟩):P:=h
theorem jH{P:Prop}(h:P:=by
 have e:w.heap.size=k:=by simpa [Value.ownBlock] using hk
 omega):P:=h
theorem jM{P:Prop}(h:P:=by
 simp only [Value.slice.injEq] at h1
 exact Or.inr ⟨g,h1.1⟩):P:=h
theorem jP{P:Prop}(h:P:=by
 rintro e w' ⟨rfl,rfl⟩;exact zas.stop HP rfl ⟨_,_,h.setEn 6⟩):P:=h
theorem jU{P:Prop}(h:P:=by
 intro h;cases r with
 | ok a s=>cases h.1
 | stop s=>cases h.1):P:=h
namespace Mx
namespace Mc
open Go.RowKit
structure St where
 pc:Int
 stack:List Int
 gs:List (List Int × Int)
 lo:List Int
 bk:Int
 data:List Int
 inp:List Int
 out:List Int
 ticks:Int
 steps:Int
 en:Int
inductive Res (α:Type) where
 | ok:α->St->Res α
 | stop:St->Res α
def Res.bind {α β:Type}:Res α->(α->St->Res β)->Res β
 | .ok a s,f=>f a s
 | .stop s,_=>.stop s
structure Ins where
 op:Int
 a:Int
 b:Int
structure Cfg where
 code:List Ins
 mt:Int
 ms:Int
def halt {α:Type} (e:Int) (s:St):Res α:=.stop { s with en:=e }
def push (n:Int) (s:St):Res Unit:=if s.stack.length<2048 then .ok () { s with stack:=s.stack++[n] } else halt 6 s
def pop (s:St):Res Int:=if 0<s.stack.length then .ok (s.stack.getD (s.stack.length - 1) 0) { s with stack:=s.stack.take (s.stack.length - 1) } else halt 6 s
def inB (l:List Int) (a:Int):Bool:=decide (0<=a)&&decide (a<l.length)
def getL (l:List Int) (a:Int) (s:St):Res Int:=if inB l a then .ok (l.getD a.toNat 0) s else halt 6 s
def putLo (a n:Int) (s:St):Res Unit:=if inB s.lo a then .ok () { s with lo:=s.lo.set a.toNat n } else halt 6 s
def putDa (a n:Int) (s:St):Res Unit:=if inB s.data a then .ok () { s with data:=s.data.set a.toNat n } else halt 6 s
def index (a b:Int) (s:St):Res Unit:=(pop s).bind fun i s=>if i<0\/b<=i then halt 2 s else push (wrap64 (a+i)) s
def truth (b:Bool):Int:=if b then 1 else 0
def isOp (op:Int):Bool:=decide (9<=op)&&decide (op<=15)
def reck (op a b:Int):Option Int:=
 if op=9 then some (wrap64 (a+b)) else if op=10 then some (wrap64 (a - b)) else if op=11 then some (wrap64 (a*b))
 else if op=14 then some (truth (a == b)) else if op=15 then some (truth (decide (a<b)))
 else if b=0 then none else if op=12 then some (wrap64 (a.tdiv b)) else if op=13 then some (a.tmod b) else none
def math (op:Int) (s:St):Res Unit:=
 if isOp op then (pop s).bind fun b s=>(pop s).bind fun a s=>match reck op a b with
  | some n=>push n s
  | none=>halt 1 s
 else halt 6 s
def tick (mt:Int) (s:St):Res Unit:=if s.ticks=mt then halt 3 s else .ok () { s with ticks:=s.ticks+1 }
def call (mt to:Int) (s:St):Res Unit:=
 (tick mt s).bind fun _ s=>if 24<s.gs.length+1 then halt 4 s else .ok () { s with gs:=s.gs++[(s.lo,s.bk)],lo:=[],bk:=s.pc,pc:=to }
def enter (a b:Int) (s:St):Res Unit:=
 if 0<=a/\0<=b/\b<=2048 - a then
  if a<=s.stack.length then .ok () { s with lo:=s.stack.drop (s.stack.length - a.toNat)++List.replicate b.toNat 0,stack:=s.stack.take (s.stack.length - a.toNat) }
  else halt 6 s
 else halt 6 s
def ret (s:St):Res Unit:=
 match s.gs.getLast? with
 | none=>halt 6 s
 | some f=>.ok () { s with gs:=s.gs.dropLast,lo:=f.1,bk:=f.2,pc:=s.bk }
def next (s:St):Res Int:=.ok (s.inp.headD 0) { s with inp:=s.inp.tail }
def tell (n:Int) (s:St):Res Unit:=if s.out.length=200 then halt 5 s else .ok () { s with out:=s.out++[n] }
def doI (mt:Int) (i:Ins) (s:St):Res Unit:=
 if i.op=1 then push i.a s
 else if i.op=2 then (getL s.lo i.a s).bind push
 else if i.op=3 then (pop s).bind fun n s=>putLo i.a n s
 else if i.op=4 then (getL s.data i.a s).bind push
 else if i.op=5 then (pop s).bind fun n s=>putDa i.a n s
 else if i.op=6 then index i.a i.b s
 else if i.op=7 then (pop s).bind fun a s=>(getL s.data a s).bind push
 else if i.op=8 then (pop s).bind fun n s=>(pop s).bind fun a s=>putDa a n s
 else if i.op=9 then (pop s).bind fun n s=>push (truth (n == 0)) s
 else if i.op=22 then (pop s).bind fun n s=>push (truth (n != 0)) s
 else if i.op=10 then math i.a s
 else if i.op=11 then .ok () { s with pc:=i.a }
 else if i.op=12 then (pop s).bind fun n s=>.ok () (if n=0 then { s with pc:=i.a } else s)
 else if i.op=13 then call mt i.a s
 else if i.op=14 then enter i.a i.b s
 else if i.op=15 then ret s
 else if i.op=16 then tick mt s
 else if i.op=17 then (pop s).bind fun _ s=>.ok () s
 else if i.op=18 then (next s).bind push
 else if i.op=19 then (pop s).bind tell
 else if i.op=20 then halt 0 s
 else .ok () s
def z8c (c:List Ins) (mt:Int) (s:St):Res Unit:=
 if 0<=s.pc/\s.pc<c.length then doI mt (c.getD s.pc.toNat ⟨0,0,0⟩) { s with steps:=s.steps+1,pc:=s.pc+1 }
 else halt 6 { s with steps:=s.steps+1 }
def step (c:Cfg) (s:St):Res Unit:=if s.steps=c.ms then halt 7 s else z8c c.code c.mt s
def run (c:Cfg):Nat->St->St
 | 0,s=>s
 | f+1,s=>match step c s with
   | .stop s=>s
   | .ok _ s=>run c f s
end Mc
end Mx
namespace Mx
namespace Mc
def zhv (s s':St):Prop:=s'.steps=s.steps/\s.out <+: s'.out
theorem zhv.refl (s:St):zhv s s:=⟨rfl,List.prefix_refl _⟩
theorem zhv.trans {a b c:St} (h:zhv a b) (k:zhv b c):zhv a c:=⟨k.1.trans h.1,h.2.trans k.2⟩
def Res.fin {α:Type}:Res α->St
 | .ok _ s=>s
 | .stop s=>s
theorem zbb {α β:Type} {s:St} {r:Res α} {f:α->St->Res β} (h:zhv s r.fin) (hf:∀ a s',zhv s' (f a s').fin):zhv s (r.bind f).fin:=by
 cases r with
 | ok a s'=>exact h.trans (hf a s')
 | stop s'=>exact h
theorem zbl {α:Type} (e:Int) (s:St):zhv s (halt e s:Res α).fin:=⟨rfl,List.prefix_refl _⟩
theorem zdd (n:Int) (s:St):zhv s (push n s).fin:=by
 unfold push;exact gw
theorem zcd (s:St):zhv s (pop s).fin:=by
 unfold pop;exact gw
theorem zli (l:List Int) (a:Int) (s:St):zhv s (getL l a s).fin:=by
 unfold getL;exact gw
theorem zwr (a n:Int) (s:St):zhv s (putLo a n s).fin:=by
 unfold putLo;exact gw
theorem zns (a n:Int) (s:St):zhv s (putDa a n s).fin:=by
 unfold putDa;exact gw
theorem zws (a b:Int) (s:St):zhv s (index a b s).fin:=by
 unfold index;refine zbb (zcd s) (fun i s'=>?_);split
 . exact zbl _ _
 . exact zdd _ _
theorem zze (op:Int) (s:St):zhv s (math op s).fin:=by
 unfold math;split
 . refine zbb (zcd s) (fun b s1=>zbb (zcd s1) (fun a s2=>?_))
   split
   . exact zdd _ _
   . exact zbl _ _
 . exact zbl _ _
theorem zq5 (mt:Int) (s:St):zhv s (tick mt s).fin:=by
 unfold tick;split
 . exact zbl _ _
 . exact iP
theorem zzf (mt to:Int) (s:St):zhv s (call mt to s).fin:=by
 unfold call;refine zbb (zq5 mt s) (fun _ s1=>?_);split
 . exact zbl _ _
 . exact iP
theorem zwt (a b:Int) (s:St):zhv s (enter a b s).fin:=by
 unfold enter;split
 . exact gw
 . exact zbl _ _
theorem z2r (s:St):zhv s (ret s).fin:=by
 unfold ret;split
 . exact zbl _ _
 . exact iP
theorem zzg (s:St):zhv s (next s).fin:=⟨rfl,List.prefix_refl _⟩
theorem zzh (n:Int) (s:St):zhv s (tell n s).fin:=by
 unfold tell;split
 . exact zbl _ _
 . exact ⟨rfl,List.prefix_append _ _⟩
theorem zbf {p:Prop} [Decidable p] {s:St} {x y:Res Unit} (hx:zhv s x.fin) (hy:zhv s y.fin):zhv s (if p then x else y).fin:=by split<;>assumption
theorem z6b (mt:Int) (i:Ins) (s:St):zhv s (doI mt i s).fin:=by
 unfold doI;refine zbf (zdd _ _) (zbf (zbb (zli _ _ _) zdd) (zbf (zbb (zcd s) (fun n s=>zwr _ _ _)) (zbf (zbb (zli _ _ _) zdd) (zbf (zbb (zcd s) (fun n s=>zns _ _ _)) (zbf (zws _ _ _) (zbf (zbb (zcd s) (fun a s=>zbb (zli _ _ _) zdd)) (zbf (zbb (zcd s) (fun n s=>zbb (zcd s) (fun a s=>zns _ _ _))) (zbf (zbb (zcd s) (fun n s=>zdd _ _)) (zbf (zbb (zcd s) (fun n s=>zdd _ _)) (zbf (zze _ _) (zbf ⟨rfl,List.prefix_refl _⟩ (zbf (zbb (zcd s) (fun n s=>?_)) (zbf (zzf _ _ _) (zbf (zwt _ _ _) (zbf (z2r _) (zbf (zq5 _ _) (zbf (zbb (zcd s) (fun n s=>zhv.refl s)) (zbf (zbb (zzg s) zdd) (zbf (zbb (zcd s) zzh) (zbf (zbl _ _) (zhv.refl s)))))))))))))))))))))
 show zhv s (if n=0 then { s with pc:=i.a } else s);split
 . exact iP
 . exact zhv.refl s
theorem zwu (c:List Ins) (mt:Int) (s:St):(z8c c mt s).fin.steps=s.steps+1/\s.out <+: (z8c c mt s).fin.out:=by
 unfold z8c;split
 . exact z6b mt _ _
 . exact iP
theorem step_ok {c:Cfg} {s s':St} {u:Unit} (h:step c s = .ok u s'):s'.steps=s.steps+1/\s.out <+: s'.out/\s.steps≠c.ms/\z8c c.code c.mt s = .ok u s':=by
 unfold step at h
 split at h
 . cases h
 . have:=zwu c.code c.mt s
   rw [h] at this;exact ⟨this.1,this.2,by assumption,h⟩
theorem run_succ (c:Cfg) (f:Nat) (s:St):run c (f+1) s=match step c s with
 | .stop s=>s
 | .ok _ s=>run c f s:=rfl
end Mc
end Mx
end Go.Proofs.YtndkhgakfodldaaGreatDoor
