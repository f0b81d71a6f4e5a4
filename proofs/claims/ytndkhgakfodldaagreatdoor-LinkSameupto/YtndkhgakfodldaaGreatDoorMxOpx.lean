import Derived.Test.YtndkhgakfodldaaGreatDoorMxApp
import Derived.Shelf.Abstract
import Derived.Test.YtndkhgakfodldaaGreatDoorMxOpv
set_option maxRecDepth 100000
set_option maxHeartbeats 1600000
open Go.Proofs.Tryz
namespace Go.Proofs.YtndkhgakfodldaaGreatDoor
namespace Mx
open Go.RowKit Go.Shelf
section
variable {P:Program} {ops:Array Oper} {o:Oper} {a:Act} {w:World} {K:Act->World->Prop} {Y:Exit->Act->World->Prop} {E:Prop}
theorem run_call1 (f:FuncId) (x:Operand) (d:TypeId) (ap:o.op = .call { callee:=.value (.func f),args:=#[x],argTypes:=#[d] })
 (n:Enters P f) (v:Value) (S:a.eval x=v):(execOp a.eval o).run P w = .ok (.enter f #[v]) w:=by
 have h:=n #[v] w;have Y:a.eval (.func f) = .func (.func f) #[] #[]:=rfl;simp [execOp,ap,resolve,invoke,S,Y,h,Deferred.ofValue]
theorem step_call1 (l:o.guard=none) (f:FuncId) (x:Operand) (d:TypeId) (ap:o.op = .call { callee:=.value (.func f),args:=#[x],argTypes:=#[d] })
 (n:Enters P f) (v:Value) (S:a.eval x=v) (u:Value) {R:World->Prop} (bj:Calls P f #[v] w fun e G=>e = .returned u/\R G)
 (h:∀ G,R G->K (a.put o.dst u) G):if Region.wanted o (yielded ops a.tmps)=true then Oper.wp P o a w K Y else E:=by
 have aj:Region.wanted o (yielded ops a.tmps)=true:=OS
 rw [if_pos aj];unfold Oper.wp;rw [run_call1 f x d ap n v S,Oper.upon_enter];refine bj.mono ?_;rintro e G ⟨rfl,H⟩;exact h G H
end
variable {B a5 R f a m b:Nat} {C:Ending->World->Prop} {D L:Value} {T:Nat->Nat} {O E:Option Addr} {c:Mc.Cfg} {t:List PanicEntry} {s:Mc.St} {v:Vs} {w G w0 w2:World} {d:List Value} {α:Type}
theorem w1:Enters prog 276:=enters_of func276 (by kernel_rfl) rfl
theorem Hq:prog.underlying 3=some (.int .i64):=Tryz.underlying3
theorem ea.setLo' {l:List Int} (h:ea B R c w0 w T v s) (af:v.lo = .slice E a5 a)
 (g:pm w w2 B 3 1 (.slice E m a) O b f d) (Z:b=(eB s.gs++l).length) (A:d=ints (eB s.gs++l)) (X:l.length<=2048) :
 ea B R c w0 (w2.setCell ⟨R,3,none⟩ (.slice O b f)) (l2 w T 3) { v with lo:=.slice O b f } { s with lo:=l }:=by
 have e:v.lo.ownBlock=Value.ownBlock (.slice E m a):=by rw [af];cases E<;>rfl
 subst Z;subst A
 exact h.setLo (by rw [e];exact g.grown) g.own (fun k N ac=>by rw [e];exact g.lies k N ac) X
theorem ea.farLo (h:ea B R c w0 w T v s) (af:v.lo = .slice E a5 a)
 (g:pm w w2 B 3 1 (.slice E m a) O b f d):(∀ j,w2.cell? ⟨R,j,none⟩=w.cell? ⟨R,j,none⟩)/\(∀ j,w2.frozen? ⟨R,j,none⟩=false)/\R<w2.heap.size:=by
 have e:v.lo.ownBlock=Value.ownBlock (.slice E m a):=by rw [af];cases E<;>rfl
 exact h.far (fun k N=>h.lo.mark k (by rw [e];exact N)) Oa g.grown
theorem Hr (B R:Nat) (c:Mc.Cfg) (w0:World) (s:Mc.St) (p t:Nat) (w:World) (h:ed B R c w0 w s) (P:p+t<=2048) (K:p<=s.stack.length) :
 Calls prog 230 #[.pointer (some ⟨R,0,none⟩),.int .i64 p,.int .i64 t] w fun e G=>e = .returned (.tuple #[])/\ed B R c w0 G { s with lo:=s.stack.drop (s.stack.length - p)++List.replicate t 0,stack:=s.stack.take (s.stack.length - p) }:=by
 obtain ⟨aY,V,a9,ba,bA⟩:=info_parts wW;obtain ⟨T,⟨aA,ad,D,fr,ai,l,ou⟩,h⟩:=h;obtain ⟨E,a,af,hlcap,hlmax⟩:=h.lo.form;simp only at af;subst af
 obtain ⟨r,Q⟩:∃ r,s.stack.length=r+p:=⟨s.stack.length - p,N8⟩
 have C:s.stack.length - p=r:=N8
 rw [C];have bq:=h.locals_le;have aq:=h.bst;have a6:=h.ltR;have c4:=wV s.gs h.bfr
 have bj:(eB s.gs).length<=(eB s.gs++s.lo).length:=PV
 have bZ:(s.stack.drop r).length=p:=by rw [List.length_drop];omega
 obtain ⟨i,scap,af,hscap,hsmax⟩:=h.st.form;simp only at af;subst af;have aR:Hid (ea B R c w0 w T ⟨aA,.slice i s.stack.length scap,.slice E (eB s.gs++s.lo).length a,fr,ai,l,ou⟩ s):=h
 have aM:Hid (∀ w,ea B R c w0 w T ⟨aA,.slice i s.stack.length scap,.slice E (eB s.gs++s.lo).length a,fr,ai,l,ou⟩ s->Calls prog 276 #[.pointer (some ⟨R,0,none⟩)] w fun e G=>e = .returned (.agg #[.int .i64 ((eB s.gs).length:Nat),.int .i64 s.bk])/\Below w.heap.size w G):=fun w h=>wY B R c w0 s w T _ h
 have aD:Hid (∀ (dk:World) (x:Option Addr) (A:Nat) (d:TypeId),ea B R c w0 dk T ⟨aA,.slice i s.stack.length scap,.slice E (eB s.gs++s.lo).length a,fr,ai,l,ou⟩ s->((x=none/\p=0)\/(p=0/\∃ al,x=some ⟨al,0,none⟩)\/∃ al,i=some ⟨al,0,none⟩/\x=some ⟨al,r,none⟩)->
  ∃ O f G,(Builtin.append_ #[49,49] d #[.slice E (eB s.gs).length a,.slice x p A]).run prog dk = .ok (.slice O ((eB s.gs).length+p) f) G/\pm dk G B 3 1 (.slice E (eB s.gs).length a) O ((eB s.gs).length+p) f (ints (eB s.gs)++ints (s.stack.drop r))):=fun dk x A d a1 S=>by
  have hcut:=(a1.lo.cut (m:=(eB s.gs).length) bj rfl).own;rw [Nat.mul_one,uw,List.take_left] at hcut;refine G6 dk B 49 d 3 aY _ 1 8 Tryz.underlying49 V a9 ba bA rfl N8 _ _ _ hcut x p A (ints (s.stack.drop r)) (by rw [qn,bZ,Nat.mul_one]) ?_ (Bc _) Oi N8 a1.hB
  rcases S with S | ⟨N,al,S⟩ | ⟨al,a8,S⟩
  . exact Or.inl S
  . refine Or.inr ⟨_,S,fun j u a2=>?_⟩
    rw [List.eq_nil_of_length_eq_zero (bZ.trans N)] at a2;simp [ints] at a2
  . refine Or.inr ⟨_,S,fun j u a2=>?_⟩
    have b1:0<s.stack.length:=by
     have:j<(ints (s.stack.drop r)).length:=by
      rcases Nat.lt_or_ge j (ints (s.stack.drop r)).length with h | h
      . exact h
      . rw [List.getElem?_eq_none h] at a2;cases a2
     rw [qn,List.length_drop] at this;omega
    obtain ⟨ac,f,n,_,_,_,_,_,_,hcell⟩:=a1.st.place b1;simp only [a8,Value.slice.injEq] at n
    have ak:al=ac:=by simpa using n.1
    subst ak
    have:=hcell (r+j) u (by
     rw [← a2]
     simp [ints,List.getElem?_drop])
    rw [show (⟨al,r,none⟩:Addr).add j=⟨al,r+j,none⟩ from by unfold Addr.add;split<;>simp_all];exact this
 have b6:Hid (∀ (dk:World) (q:Nat->Nat) (aa:Vs) (O:Option Addr) (f:Nat) (d:TypeId),ea B R c w0 dk q aa { s with lo:=s.stack.drop r }->aa.lo = .slice O ((eB s.gs).length+p) f->
  ∃ a0 b G,(Builtin.append_ #[49,3] d #[.slice O ((eB s.gs).length+p) f,.int .i64 t]).run prog dk = .ok (.slice a0 ((eB s.gs).length+p+t) b) G/\pm dk G B 3 1 (.slice O ((eB s.gs).length+p) f) a0 ((eB s.gs).length+p+t) b (ints (eB s.gs++s.stack.drop r)++ints (List.replicate t 0))):=fun dk q aa O f d a1 af=>by
  have ap:=a1.lo.own;rw [af] at ap;simp only [List.length_append,bZ] at ap;exact G8 dk B 49 3 d 3 aY .i64 Tryz.underlying49 Hq V a9 ba bA _ _ _ ap t N8 a1.hB
 obtain ⟨-, -,ae,c3, -, -, -, -, -, -, -, -, -,Y⟩:=h.cell;simp only at ae c3;rw [Q] at ae hscap
 have aQ:Hid (i=none/\r=0/\p=0/\scap=0\/∃ al,i=some ⟨al,0,none⟩):=by
  rcases h.st.own.2 with ⟨F,J⟩ | ⟨al,f,o,F,_⟩
  . simp only [Value.slice.injEq] at F
    exact Or.inl ⟨F.1,N8,N8,F.2.2⟩
  . simp only [Value.slice.injEq] at F
    exact Or.inr ⟨al,F.1⟩
 unfold maxLen at hlmax hsmax;have Z:=Bm;have z:=hid Q;have b0:=hid bZ;clear h Q C bZ c4 K;generalize a1:(eB s.gs).length=m at *;have y:=hid a1;generalize aw:(eB s.gs++s.lo).length=a5 at *;have aV:=hid aw;clear a1 aw
 have W:m<=a:=N8
 have a3:(r:Int)<=(r:Int)+(p:Int):=N8
 have b2:Hid (∀ dk,Below w.drew.heap.size w.drew dk->∀ O f w2,pm dk w2 B 3 1 (.slice E m a) O (m+p) f (ints (eB s.gs)++ints (s.stack.drop r))->
  w2.cell? ⟨R,2,none⟩=some (.slice i (r+p) scap)/\w2.cell? ⟨R,3,none⟩=some (.slice E a5 a)/\w2.frozen? ⟨R,2,none⟩=false/\w2.frozen? ⟨R,3,none⟩=false/\R<w2.heap.size/\
  Hid (ea B R c w0 (w2.setCell ⟨R,3,none⟩ (.slice O (m+p) f)) (l2 dk T 3) ⟨aA,.slice i s.stack.length scap,.slice O (m+p) f,fr,ai,l,ou⟩ { s with lo:=s.stack.drop r })):=by
  intro dk I O f w2 g;have F:=aR.drew.later I aR.hB;obtain ⟨bz,bO,c1⟩:=F.farLo rfl g;exact ⟨(bz 2).trans ((I.cell (p:=⟨R,2,none⟩) a6).trans ae),(bz 3).trans ((I.cell (p:=⟨R,3,none⟩) a6).trans c3),bO 2,bO 3,c1,F.setLo' (l:=s.stack.drop r) rfl g (by rw [List.length_append,y.out,b0.out]) (by rw [Bb]) (by rw [b0.out];omega)⟩
 have br:Hid (∀ (O:Option Addr) (f:Nat) (q:Nat->Nat) (M:World),ea B R c w0 M q ⟨aA,.slice i s.stack.length scap,.slice O (m+p) f,fr,ai,l,ou⟩ { s with lo:=s.stack.drop r }->∀ a0 b dD,pm M dD B 3 1 (.slice O (m+p) f) a0 (m+p+t) b (ints (eB s.gs++s.stack.drop r)++ints (List.replicate t 0))->
  dD.cell? ⟨R,2,none⟩=some (.slice i (r+p) scap)/\dD.cell? ⟨R,3,none⟩=some (.slice O (m+p) f)/\dD.frozen? ⟨R,2,none⟩=false/\dD.frozen? ⟨R,3,none⟩=false/\R<dD.heap.size/\
  Hid (ed B R c w0 ((dD.setCell ⟨R,3,none⟩ (.slice a0 (m+p+t) b)).setCell ⟨R,2,none⟩ (.slice i r scap)) { s with lo:=s.stack.drop r++List.replicate t 0,stack:=s.stack.take r })):=by
  intro O f q M a7 a0 b dD g;obtain ⟨bz,bO,c1⟩:=a7.farLo rfl g;have U:=a7.setLo' (l:=s.stack.drop r++List.replicate t 0) rfl g (by simp only [List.length_append,y.out,b0.out,List.length_replicate];omega) (by rw [← Bb,List.append_assoc]) (by rw [List.length_append,b0.out,List.length_replicate];omega)
  have X:(s.stack.take r).length=r:=by rw [List.length_take,z.out];omega
  refine ⟨by rw [bz 2,a7.cell.2.2.1,z.out],(bz 3).trans a7.cell.2.2.2.1,bO 2,bO 3,c1,_,_,U.setSt (x:=.slice i r scap) (l:=s.stack.take r) (grown_refl _ _) ?_ (fun k N _=>?_) (by have:=aq;rw [z.out] at this;rw [X];omega)⟩
  . have:=(U.st.cut (m:=r) (by show r<=s.stack.length;rw [z.out];omega) rfl).own
    rw [Nat.mul_one,uw] at this;rw [X];exact this
  . exact (show Value.ownBlock (.slice i s.stack.length scap)=Value.ownBlock (.slice i r scap) from by cases i<;>rfl).trans N
 rcases aQ.out with ⟨rfl,rfl,rfl,rfl⟩ | ⟨al,rfl⟩<;>clear aQ
 . skip
   have v:=hid (fun dk h=>aD dk (none) (0) 49 h (Or.inl ⟨rfl,rfl⟩));exact Qq
 rcases Nat.lt_or_ge r scap with L | L
 . have aX:¬ scap=r:=by omega
   have v:=hid (fun dk h=>aD dk (some ⟨al,r,none⟩) (scap - r) 49 h (Or.inr (Or.inr ⟨al,rfl,rfl⟩)));exact Qq
 . obtain rfl:p=0:=by omega
   obtain rfl:scap=r:=N8
   have v:=hid (fun dk h=>aD dk (some ⟨al,0,none⟩) (0) 49 h (Or.inr (Or.inl ⟨rfl,al,rfl⟩)));exact Qq
open Go.RowKit Go.Shelf
theorem enter_any (B R:Nat) (c:Mc.Cfg) (w0:World) (s:Mc.St) (a b:Int) (w:World) (h:ed B R c w0 w s) (a7:fit64 a) (I:fit64 b) :
 Calls prog 230 #[.pointer (some ⟨R,0,none⟩),.int .i64 a,.int .i64 b] w (dM B R c w0 (Mc.enter a b s) e0):=by
 obtain ⟨f,ha1⟩:=a7;obtain ⟨bC,aq⟩:=I;have L:Hid (ed B R c w0 w s):=h
 by_cases P:0<=a/\0<=b/\b<=2048 - a
 . by_cases K:a<=s.stack.length
   . have A:Mc.enter a b s = .ok () { s with lo:=s.stack.drop (s.stack.length - a.toNat)++List.replicate b.toNat 0,stack:=s.stack.take (s.stack.length - a.toNat) }:=(if_pos P).trans (if_pos K)
     obtain ⟨ab,F,J⟩:=P;obtain ⟨p,rfl⟩:=Int.eq_ofNat_of_zero_le ab;obtain ⟨t,rfl⟩:=Int.eq_ofNat_of_zero_le F;refine (Hr B R c w0 s p t w h N8 N8).mono ?_;rintro e G ⟨rfl,a1⟩;exact dM.ok A rfl (by simpa only [Int.toNat_natCast] using a1)
   . have A:Hid (Mc.enter a b s = .stop { s with en:=6 }):=(if_pos P).trans (if_neg K)
     obtain ⟨ab,F,J⟩:=P;obtain ⟨T,⟨aA,ad,D,fr,ai,l,ou⟩,h⟩:=h;obtain ⟨i,scap,af,hscap,hsmax⟩:=h.st.form;simp only at af;subst af;have ae:=h.cell.2.2.1;have d:=h.bst;simp only at ae;clear h;generalize s.stack.length=n at *;go_enter func230,ntmps230;go_wp2_with fail;refine (k0 _ _ _ Ol).mono ?_;rintro e G ⟨rfl,rfl⟩;go_wp2_with fail;refine (po _ _ Ol L).mono ?_;exact QF
 . have A:Hid (Mc.enter a b s = .stop { s with en:=6 }):=if_neg P
   clear h
   by_cases ab:0<=a
   . by_cases F:0<=b
     . have J:¬ b<=2048 - a:=fun h=>P ⟨ab,F,h⟩
       clear P;go_enter func230,ntmps230;go_wp2_with fail;refine (po _ _ Ol L).mono ?_;exact QF
     . clear P
       go_enter func230,ntmps230;go_wp2_with fail;refine (po _ _ Ol L).mono ?_;exact QF
   . clear P
     go_enter func230,ntmps230;go_wp2_with fail;refine (po _ _ Ol L).mono ?_;exact QF
theorem ed.alloc (h:ed B R c w0 w s) (o:Obj):ed B R c w0 (w.alloc o) s:=by
 obtain ⟨T,v,h⟩:=h;exact ⟨T,v,h.alloc o⟩
theorem ed.drew (h:ed B R c w0 w s):ed B R c w0 w.drew s:=by
 obtain ⟨T,v,h⟩:=h;exact ⟨T,v,h.drew⟩
section
variable {P:Program} {ops:Array Oper} {o:Oper} {a:Act} {w:World} {K:Act->World->Prop} {Y:Exit->Act->World->Prop} {E:Prop}
theorem run_callN (f:FuncId) (ao:Array Operand) (b:Array TypeId) (ap:o.op = .call { callee:=.value (.func f),args:=ao,argTypes:=b })
 (n:Enters P f) (al:Array Value) (S:ao.map a.eval=al):(execOp a.eval o).run P w = .ok (.enter f al) w:=by
 have h:=n al w;have Y:a.eval (.func f) = .func (.func f) #[] #[]:=rfl;simp [execOp,ap,resolve,invoke,S,Y,h,Deferred.ofValue]
theorem kg (l:o.guard=none) (f:FuncId) (ao:Array Operand) (b:Array TypeId) (ap:o.op = .call { callee:=.value (.func f),args:=ao,argTypes:=b })
 (n:Enters P f) (al:Array Value) (S:ao.map a.eval=al) (bj:Calls P f al w C)
 (U:∀ G,¬ C .outgrown G) (J:∀ c G,C (.panicked c) G->Y (.panic c) a G) (F:∀ v G,C (.returned v) G->K (a.put o.dst v) G):if Region.wanted o (yielded ops a.tmps)=true then Oper.wp P o a w K Y else E:=by
 have aj:Region.wanted o (yielded ops a.tmps)=true:=OS
 rw [if_pos aj];unfold Oper.wp;rw [run_callN f ao b ap n al S,Oper.upon_enter];refine bj.mono ?_;intro e G ar
 cases e with
 | returned v=>exact F v G ar
 | panicked c=>exact J c G ar
 | outgrown=>exact absurd ar (U G)
end
theorem Bo {P:Program} {ops:Array Oper} {a:Act} {K:Act->World->Prop} {Y:Exit->Act->World->Prop} {i:Nat} {o:Oper} (V:ops[i]? = some o) (l:o.guard=none) (f:FuncId) (ao:Array Operand) (b:Array TypeId) (ap:o.op = .call { callee:=.value (.func f),args:=ao,argTypes:=b })
 (n:Enters P f) (al:Array Value) (S:ao.map a.eval=al) (bj:Calls P f al w C)
 (U:∀ G,¬ C .outgrown G) (J:∀ c G,C (.panicked c) G->Y (.panic c) a G) (F:∀ v G,C (.returned v) G->K (a.put o.dst v) G):wpOp P ops Y i K a w:=by
 have aj:Region.wanted o (yielded ops a.tmps)=true:=OS
 have h:=kg (ops:=ops) (E:=True) l f ao b ap n al S bj U J F;rw [if_pos aj] at h;unfold wpOp;rw [V];simp only [aj,if_true];exact Or.inl h
theorem dM.noOut {r:Mc.Res α} {rep:α->Value}:¬ dM B R c w0 r rep .outgrown G:=by
 exact S6
theorem dM.ret {r:Mc.Res α} {rep:α->Value} {v:Value} (h:dM B R c w0 r rep (.returned v) G):∃ a s,Hid (r = .ok a s)/\v=rep a/\Hid (ed B R c w0 G s):=by
 exact SA
theorem dM.pan {r:Mc.Res α} {rep:α->Value} (h:dM B R c w0 r rep (.panicked t) G):∃ s,Hid (r = .stop s)/\t=kf s.en/\Hid (ed B R c w0 G s):=by
 exact SD
theorem en35:Enters prog 221:=enters_of func221 (by kernel_rfl) rfl
theorem en36:Enters prog 222:=enters_of func222 (by kernel_rfl) rfl
theorem Bp:Enters prog 223:=enters_of func223 (by kernel_rfl) rfl
theorem w3:Enters prog 224:=enters_of func224 (by kernel_rfl) rfl
theorem uB:Enters prog 225:=enters_of func225 (by kernel_rfl) rfl
open Go.RowKit Go.Shelf
theorem Hs (B R:Nat) (c:Mc.Cfg) (w0:World) (s:Mc.St) (a b:Int) (w:World) (h:ed B R c w0 w s) :
 Calls prog 182 #[.pointer (some ⟨R,0,none⟩),.agg #[.int .i64 2,.int .i64 a,.int .i64 b]] w (dM B R c w0 (Mc.doI c.mt ⟨2,a,b⟩ s) e0):=by
 have L:Hid (ed B R c w0 w s):=h;have A:Hid (Mc.doI c.mt ⟨2,a,b⟩ s=(Mc.getL s.lo a s).bind Mc.push):=rfl;clear h;obtain ⟨T,v,h⟩:=L.out;have aR:=hid h;have a6:=h.ltR;have m:=h.blo;clear h;go_enter func182,ntmps182;go_wp2_with fail
 go_region_law (first
  | (refine kg Ot 223 _ _ Ot Bp _ (by kernel_rfl) (Bn B R c w0 s _ T v (aR.alloc _).drew) (fun G h=>PM) (fun t G h=>PM) ?_;rintro _ dk ⟨E,d,F,b6,hM1,I⟩;obtain rfl:=(Ending.returned.inj F);have P:=hid b6;have af:=hid hM1;have aT:dk.cell? ⟨w.heap.size,1,none⟩=some (.int .i64 a):=((I.cell (p:=⟨w.heap.size,1,none⟩) Oc).trans Oc);clear F b6 hM1)
  | (refine kg Ot 222 _ _ Ot en36 _ (by kernel_rfl) (wZ B R c w0 s E d s.lo a _ ⟨T,v,af⟩ (P.cells af).1 N8) (fun G h=>h.noOut) (fun t G h=>Pa) ?_;intro _ w2 ar;obtain ⟨x,b1,aY,rfl,Hm2⟩:=ar.ret;clear ar;simp only [intV])
  | (refine kg Ot 221 _ _ Ot en35 _ (by kernel_rfl) (oo B R c w0 b1 x _ Hm2.out) (fun G h=>h.noOut) (fun t G h=>Oy) ?_;intro _ dC ar;obtain ⟨u,eU,b3,rfl,Hm3⟩:=ar.ret;clear ar;simp only [e0]))
 all_goals
  exact QT
theorem uC {b1:Mc.St} {x:Int} (h:Mc.pop s = .ok x b1):∃ g,b1={ s with stack:=g }:=by
 unfold Mc.pop at h
 split at h
 . exact ⟨_,(Mc.Res.ok.inj h).2.symm⟩
 . cases h
theorem jX.noOut {r:Mc.Res α} {rep:α->Value}:¬ jX B R c w0 L D r rep .outgrown G:=by
 exact S6
theorem jX.ret {r:Mc.Res α} {rep:α->Value} {v:Value} (h:jX B R c w0 L D r rep (.returned v) G):∃ a s,Hid (r = .ok a s)/\v=rep a/\∃ T aa,Hid (ea B R c w0 G T aa s)/\aa.lo=L/\aa.da=D:=by
 exact SA
theorem jX.pan {r:Mc.Res α} {rep:α->Value} (h:jX B R c w0 L D r rep (.panicked t) G):∃ s,Hid (r = .stop s)/\t=kf s.en/\Hid (ed B R c w0 G s):=by
 exact SD
theorem Ht (B R:Nat) (c:Mc.Cfg) (w0:World) (s:Mc.St) (a b:Int) (w:World) (h:ed B R c w0 w s) :
 Calls prog 182 #[.pointer (some ⟨R,0,none⟩),.agg #[.int .i64 3,.int .i64 a,.int .i64 b]] w (dM B R c w0 (Mc.doI c.mt ⟨3,a,b⟩ s) e0):=by
 have L:Hid (ed B R c w0 w s):=h;have A:Hid (Mc.doI c.mt ⟨3,a,b⟩ s=(Mc.pop s).bind fun n s=>Mc.putLo a n s):=rfl;clear h;obtain ⟨T,v,h⟩:=L.out;have aR:=hid h;have a6:=h.ltR;clear h;go_enter func182,ntmps182;go_wp2_with fail
 go_region_law (first
  | (refine kg Ot 223 _ _ Ot Bp _ (by kernel_rfl) (Bn B R c w0 s _ T v (aR.alloc _).drew) (fun G h=>PM) (fun t G h=>PM) ?_;rintro _ dk ⟨E,d,F,b6,hM1,I⟩;obtain rfl:=(Ending.returned.inj F);have P:=hid b6;have af:=hid hM1;have aT:dk.cell? ⟨w.heap.size,1,none⟩=some (.int .i64 a):=((I.cell (p:=⟨w.heap.size,1,none⟩) Oc).trans Oc);clear F b6 hM1)
  | (refine kg Ot 225 _ _ Ot uB _ (by kernel_rfl) (rB B R c w0 s _ T v af) (fun G h=>h.1.noOut) (fun t G h=>OM) ?_;rintro _ w2 ⟨ar,N⟩;obtain ⟨x,b1,aY,rfl,O,aM,H,m,a7⟩:=ar.ret;obtain ⟨j,r⟩:=uC aY.out;subst r;have b2:=hid m;have aU:w2.cell? ⟨w.heap.size,1,none⟩=some (.int .i64 a):=((World.cell?_of_block (w:=dk) (N w.heap.size N8)).trans aT);clear ar N m a7;simp only [intV])
  | (refine kg Ot 224 _ _ Ot w3 _ (by kernel_rfl) (Hj B R c w0 { s with stack:=j } a x E d _ O aM H.out (by rcases P.out with h | ⟨al,q,F,J⟩;exact Or.inl h;exact Or.inr ⟨al,q,b2.trans F,J⟩)) (fun G h=>h.noOut) (fun t G h=>Oy) ?_;intro _ dC ar;obtain ⟨u,eU,b3,rfl,Hm3⟩:=ar.ret;clear ar;simp only [e0]))
 all_goals
  exact QT
theorem Hu (B R:Nat) (c:Mc.Cfg) (w0:World) (s:Mc.St) (a b:Int) (w:World) (h:ed B R c w0 w s) :
 Calls prog 182 #[.pointer (some ⟨R,0,none⟩),.agg #[.int .i64 4,.int .i64 a,.int .i64 b]] w (dM B R c w0 (Mc.doI c.mt ⟨4,a,b⟩ s) e0):=by
 have L:Hid (ed B R c w0 w s):=h;have A:Hid (Mc.doI c.mt ⟨4,a,b⟩ s=(Mc.getL s.data a s).bind Mc.push):=rfl;clear h;obtain ⟨T,v,h⟩:=L.out;obtain ⟨ai,K,af, -⟩:=h.dataAt
 have ao:Hid (∀ dk,ea B R c w0 dk T v s->uA dk ai s.data):=fun dk F=>by
  obtain ⟨d,dc',n,bj,_⟩:=F.dataAt;rw [af,Value.slice.injEq] at n
  rw [n.1];exact bj
 have av:w.cell? ⟨R,5,none⟩=some (.slice ai s.data.length K):=Ph
 have aR:=hid h;have a6:=h.ltR;have bK:=h.bda;clear h af;go_enter func182,ntmps182;go_wp2_with fail
 go_region_law (first
  | (refine kg Ot 222 _ _ Ot en36 _ (by kernel_rfl) (wZ B R c w0 s ai K s.data a _ ⟨T,v,(aR.alloc _).drew⟩ (ao _ (aR.alloc _).drew) N8) (fun G h=>h.noOut) (fun t G h=>Pa) ?_;intro _ w2 ar;obtain ⟨x,b1,aY,rfl,Hm2⟩:=ar.ret;clear ar;simp only [intV])
  | (refine kg Ot 221 _ _ Ot en35 _ (by kernel_rfl) (oo B R c w0 b1 x _ Hm2.out) (fun G h=>h.noOut) (fun t G h=>Oy) ?_;intro _ dC ar;obtain ⟨u,eU,b3,rfl,Hm3⟩:=ar.ret;clear ar;simp only [e0]))
 all_goals
  exact QT
theorem Hv (B R:Nat) (c:Mc.Cfg) (w0:World) (s:Mc.St) (a b:Int) (w:World) (h:ed B R c w0 w s) :
 Calls prog 182 #[.pointer (some ⟨R,0,none⟩),.agg #[.int .i64 5,.int .i64 a,.int .i64 b]] w (dM B R c w0 (Mc.doI c.mt ⟨5,a,b⟩ s) e0):=by
 have L:Hid (ed B R c w0 w s):=h;have A:Hid (Mc.doI c.mt ⟨5,a,b⟩ s=(Mc.pop s).bind fun n s=>Mc.putDa a n s):=rfl;clear h;obtain ⟨T,v,h⟩:=L.out;obtain ⟨ai,K,af, -⟩:=h.dataAt;have bh:=hid af
 have av:w.cell? ⟨R,5,none⟩=some (.slice ai s.data.length K):=Ph
 have d:Hid (∀ (x:Int) (g:List Int) (w2:World) (O:Nat->Nat) (aM:Vs),ea B R c w0 w2 O aM { s with stack:=g }->aM.da=v.da->Calls prog 224 #[.pointer (some ⟨R,0,none⟩),.slice ai s.data.length K,.int .i64 a,.int .i64 x] w2 (dM B R c w0 (Mc.putDa a x { s with stack:=g }) e0)):=fun x g w2 O aM J e=>by
  have:=Bl B R c w0 { s with stack:=g } a x w2 O aM J;rw [e,af] at this;exact this
 have aR:=hid h;have a6:=h.ltR;clear h af;go_enter func182,ntmps182;go_wp2_with fail
 go_region_law (first
  | (refine kg Ot 225 _ _ Ot uB _ (by kernel_rfl) (rB B R c w0 s _ T v (aR.alloc _).drew) (fun G h=>h.1.noOut) (fun t G h=>OM) ?_;rintro _ w2 ⟨ar,N⟩;obtain ⟨x,b1,aY,rfl,O,aM,H,m,a7⟩:=ar.ret;obtain ⟨j,r⟩:=uC aY.out;subst r;have b0:=hid a7;have bp:w2.cell? ⟨R,5,none⟩=some (.slice ai s.data.length K):=Pc;have aU:w2.cell? ⟨w.heap.size,1,none⟩=some (.int .i64 a):=((World.cell?_of_block (w:=(w.alloc _).drew) (N w.heap.size N8)).trans Oc);clear ar N m a7;simp only [intV])
  | (refine kg Ot 224 _ _ Ot w3 _ (by kernel_rfl) (d x j _ O aM H.out b0) (fun G h=>h.noOut) (fun t G h=>Oy) ?_;intro _ dC ar;obtain ⟨u,eU,b3,rfl,Hm3⟩:=ar.ret;clear ar;simp only [e0]))
 all_goals
  exact QT
open Go.RowKit Go.Shelf
theorem Hw (B R:Nat) (c:Mc.Cfg) (w0:World) (s:Mc.St) (a b:Int) (w:World) (h:ed B R c w0 w s) :
 Calls prog 182 #[.pointer (some ⟨R,0,none⟩),.agg #[.int .i64 7,.int .i64 a,.int .i64 b]] w (dM B R c w0 (Mc.doI c.mt ⟨7,a,b⟩ s) e0):=by
 have L:Hid (ed B R c w0 w s):=h;have A:Hid (Mc.doI c.mt ⟨7,a,b⟩ s=(Mc.pop s).bind fun a s=>(Mc.getL s.data a s).bind Mc.push):=rfl;clear h;obtain ⟨T,v,h⟩:=L.out;obtain ⟨ai,K,af, -⟩:=h.dataAt;have bh:=hid af
 have av:w.cell? ⟨R,5,none⟩=some (.slice ai s.data.length K):=Ph
 have bK:=h.bda
 have f:Hid (∀ (x:Int) (g:List Int) (w2:World) (O:Nat->Nat) (aM:Vs),ea B R c w0 w2 O aM { s with stack:=g }->aM.da=v.da->Calls prog 222 #[.pointer (some ⟨R,0,none⟩),.slice ai s.data.length K,.int .i64 x] w2 (dM B R c w0 (Mc.getL s.data x { s with stack:=g }) intV)):=fun x g w2 O aM J e=>by
  refine wZ B R c w0 { s with stack:=g } ai K s.data x w2 ⟨O,aM,J⟩ ?_ N8;obtain ⟨d,dc',n,bj,_⟩:=J.dataAt;rw [e,af,Value.slice.injEq] at n
  rw [n.1];exact bj
 have aR:=hid h;have a6:=h.ltR;clear h af;go_enter func182,ntmps182;go_wp2_with fail
 go_region_law (first
  | (refine kg Ot 225 _ _ Ot uB _ (by kernel_rfl) (rB B R c w0 s _ T v (aR.alloc _).drew) (fun G h=>h.1.noOut) (fun t G h=>OM) ?_;rintro _ w2 ⟨ar,N⟩;obtain ⟨x,b1,aY,rfl,O,aM,H,m,a7⟩:=ar.ret;obtain ⟨j,r⟩:=uC aY.out;subst r;have b0:=hid a7;have bp:w2.cell? ⟨R,5,none⟩=some (.slice ai s.data.length K):=Pc;clear ar N m a7;simp only [intV])
  | (refine kg Ot 222 _ _ Ot en36 _ (by kernel_rfl) (f x j _ O aM H.out b0) (fun G h=>h.noOut) (fun t G h=>by obtain ⟨eU,z,rfl,Hm⟩:=h.pan;exact ⟨rfl,dM.of_stop (A.trans ((bind_ok _ aY.out).trans (jB _ z))) Hm.out⟩) ?_;intro _ dC ar;obtain ⟨a3,eU,b3,rfl,Hm3⟩:=ar.ret;clear ar;simp only [intV])
  | (refine kg Ot 221 _ _ Ot en35 _ (by kernel_rfl) (oo B R c w0 eU a3 _ Hm3.out) (fun G h=>h.noOut) (fun t G h=>by obtain ⟨bH,z,rfl,Hm⟩:=h.pan;exact ⟨rfl,dM.of_stop (A.trans ((bind_ok _ aY.out).trans ((bind_ok _ b3.out).trans z))) Hm.out⟩) ?_;intro _ dD ar;obtain ⟨u,bH,al,rfl,Hm4⟩:=ar.ret;clear ar;simp only [e0]))
 all_goals
  go_wp2_with fail
  go_returns
  exact dM.ok (A.trans ((bind_ok _ aY.out).trans ((bind_ok _ b3.out).trans al.out))) rfl Hm4.out
theorem Hx (B R:Nat) (c:Mc.Cfg) (w0:World) (s:Mc.St) (a b:Int) (w:World) (h:ed B R c w0 w s) :
 Calls prog 182 #[.pointer (some ⟨R,0,none⟩),.agg #[.int .i64 8,.int .i64 a,.int .i64 b]] w (dM B R c w0 (Mc.doI c.mt ⟨8,a,b⟩ s) e0):=by
 have L:Hid (ed B R c w0 w s):=h;have A:Hid (Mc.doI c.mt ⟨8,a,b⟩ s=(Mc.pop s).bind fun n s=>(Mc.pop s).bind fun a s=>Mc.putDa a n s):=rfl;clear h;go_enter func182,ntmps182;go_wp2_with fail;refine (pn B R c w0 s _ (L.alloc _)).mono ?_;intro e dk ar
 rcases ar.parts with ⟨n,ay,z,rfl,Hm⟩ | ⟨ay,z,rfl,Hm⟩<;>clear ar<;>simp only [intV]
 . have f:=hid (A.trans (bind_ok _ z))
   clear A z L;obtain ⟨T,v,h⟩:=Hm.out;obtain ⟨ai,K,af, -⟩:=h.dataAt;have bh:=hid af
   have av:dk.cell? ⟨R,5,none⟩=some (.slice ai ay.data.length K):=Ph
   have d:Hid (∀ (x:Int) (g:List Int) (w2:World) (O:Nat->Nat) (aM:Vs),ea B R c w0 w2 O aM { ay with stack:=g }->aM.da=v.da->Calls prog 224 #[.pointer (some ⟨R,0,none⟩),.slice ai ay.data.length K,.int .i64 x,.int .i64 n] w2 (dM B R c w0 (Mc.putDa x n { ay with stack:=g }) e0)):=fun x g w2 O aM J e=>by
    have:=Bl B R c w0 { ay with stack:=g } x n w2 O aM J;rw [e,af] at this;exact this
   have aR:=hid h;have a6:=h.ltR;clear h af;go_wp2_with fail
   go_region_law (first
    | (refine kg Ot 225 _ _ Ot uB _ (by kernel_rfl) (rB B R c w0 ay _ T v aR.drew) (fun G h=>h.1.noOut) (fun t G h=>by obtain ⟨b1,z,rfl,Hm⟩:=h.1.pan;exact ⟨rfl,dM.of_stop (f.trans (jB _ z)) Hm.out⟩) ?_;rintro _ w2 ⟨ar,N⟩;obtain ⟨x,b1,aY,rfl,O,aM,H,m,a7⟩:=ar.ret;obtain ⟨j,r⟩:=uC aY.out;subst r;have b0:=hid a7;have bp:w2.cell? ⟨R,5,none⟩=some (.slice ai ay.data.length K):=Pc;clear ar N m a7;simp only [intV])
    | (refine kg Ot 224 _ _ Ot w3 _ (by kernel_rfl) (d x j _ O aM H.out b0) (fun G h=>h.noOut) (fun t G h=>by obtain ⟨eU,z,rfl,Hm⟩:=h.pan;exact ⟨rfl,dM.of_stop (f.trans ((bind_ok _ aY.out).trans z)) Hm.out⟩) ?_;intro _ dC ar;obtain ⟨u,eU,b3,rfl,Hm3⟩:=ar.ret;clear ar;simp only [e0]))
   all_goals
    go_wp2_with fail
    go_returns
    exact dM.ok (f.trans ((bind_ok _ aY.out).trans b3.out)) rfl Hm3.out
 . exact QK
open Go.RowKit Go.Shelf
theorem Hy (B R:Nat) (c:Mc.Cfg) (w0:World) (s:Mc.St) (a b:Int) (w:World) (h:ed B R c w0 w s) :
 Calls prog 182 #[.pointer (some ⟨R,0,none⟩),.agg #[.int .i64 1,.int .i64 a,.int .i64 b]] w (dM B R c w0 (Mc.doI c.mt ⟨1,a,b⟩ s) e0):=by
 have L:Hid (ed B R c w0 w s):=h;have A:Hid (Mc.doI c.mt ⟨1,a,b⟩ s=Mc.push a s):=rfl;clear h;go_enter func182,ntmps182;go_wp2_with fail;refine (oo B R c w0 s a _ (L.alloc _)).mono ?_;exact Qp
theorem Hz (B R:Nat) (c:Mc.Cfg) (w0:World) (s:Mc.St) (a b:Int) (w:World) (h:ed B R c w0 w s) :
 Calls prog 182 #[.pointer (some ⟨R,0,none⟩),.agg #[.int .i64 6,.int .i64 a,.int .i64 b]] w (dM B R c w0 (Mc.doI c.mt ⟨6,a,b⟩ s) e0):=by
 have L:Hid (ed B R c w0 w s):=h;have A:Hid (Mc.doI c.mt ⟨6,a,b⟩ s=Mc.index a b s):=rfl;clear h;go_enter func182,ntmps182;go_wp2_with fail;refine (Hk B R c w0 s a b _ (L.alloc _)).mono ?_;exact Qp
theorem HA (B R:Nat) (c:Mc.Cfg) (w0:World) (s:Mc.St) (a b:Int) (w:World) (h:ed B R c w0 w s) :
 Calls prog 182 #[.pointer (some ⟨R,0,none⟩),.agg #[.int .i64 10,.int .i64 a,.int .i64 b]] w (dM B R c w0 (Mc.doI c.mt ⟨10,a,b⟩ s) e0):=by
 have L:Hid (ed B R c w0 w s):=h;have A:Hid (Mc.doI c.mt ⟨10,a,b⟩ s=Mc.math a s):=rfl;clear h;go_enter func182,ntmps182;go_wp2_with fail;refine (Hl B R c w0 s a _ (L.alloc _)).mono ?_;exact Qp
theorem HB (B R:Nat) (c:Mc.Cfg) (w0:World) (s:Mc.St) (a b:Int) (w:World) (h:ed B R c w0 w s) :
 Calls prog 182 #[.pointer (some ⟨R,0,none⟩),.agg #[.int .i64 13,.int .i64 a,.int .i64 b]] w (dM B R c w0 (Mc.doI c.mt ⟨13,a,b⟩ s) e0):=by
 have L:Hid (ed B R c w0 w s):=h;have A:Hid (Mc.doI c.mt ⟨13,a,b⟩ s=Mc.call c.mt a s):=rfl;clear h;go_enter func182,ntmps182;go_wp2_with fail;refine (Ho B R c w0 s a _ (L.alloc _)).mono ?_;exact Qp
theorem HC (B R:Nat) (c:Mc.Cfg) (w0:World) (s:Mc.St) (a b:Int) (w:World) (h:ed B R c w0 w s) (a7:fit64 a) (I:fit64 b) :
 Calls prog 182 #[.pointer (some ⟨R,0,none⟩),.agg #[.int .i64 14,.int .i64 a,.int .i64 b]] w (dM B R c w0 (Mc.doI c.mt ⟨14,a,b⟩ s) e0):=by
 have L:Hid (ed B R c w0 w s):=h;have A:Hid (Mc.doI c.mt ⟨14,a,b⟩ s=Mc.enter a b s):=rfl;clear h;go_enter func182,ntmps182;go_wp2_with fail;refine (enter_any B R c w0 s a b _ (L.alloc _) a7 I).mono ?_;exact Qp
theorem HD (B R:Nat) (c:Mc.Cfg) (w0:World) (s:Mc.St) (a b:Int) (w:World) (h:ed B R c w0 w s) :
 Calls prog 182 #[.pointer (some ⟨R,0,none⟩),.agg #[.int .i64 15,.int .i64 a,.int .i64 b]] w (dM B R c w0 (Mc.doI c.mt ⟨15,a,b⟩ s) e0):=by
 have L:Hid (ed B R c w0 w s):=h;have A:Hid (Mc.doI c.mt ⟨15,a,b⟩ s=Mc.ret s):=rfl;clear h;go_enter func182,ntmps182;go_wp2_with fail;refine (Hp B R c w0 s _ (L.alloc _)).mono ?_;exact Qp
theorem HE (B R:Nat) (c:Mc.Cfg) (w0:World) (s:Mc.St) (a b:Int) (w:World) (h:ed B R c w0 w s) :
 Calls prog 182 #[.pointer (some ⟨R,0,none⟩),.agg #[.int .i64 16,.int .i64 a,.int .i64 b]] w (dM B R c w0 (Mc.doI c.mt ⟨16,a,b⟩ s) e0):=by
 have L:Hid (ed B R c w0 w s):=h;have A:Hid (Mc.doI c.mt ⟨16,a,b⟩ s=Mc.tick c.mt s):=rfl;clear h;go_enter func182,ntmps182;go_wp2_with fail;refine (tick_any B R c w0 s _ (L.alloc _)).mono ?_;exact Qp
theorem HF (B R:Nat) (c:Mc.Cfg) (w0:World) (s:Mc.St) (a b:Int) (w:World) (h:ed B R c w0 w s) :
 Calls prog 182 #[.pointer (some ⟨R,0,none⟩),.agg #[.int .i64 9,.int .i64 a,.int .i64 b]] w (dM B R c w0 (Mc.doI c.mt ⟨9,a,b⟩ s) e0):=by
 have L:Hid (ed B R c w0 w s):=h;have A:Hid (Mc.doI c.mt ⟨9,a,b⟩ s=(Mc.pop s).bind fun n s=>Mc.push (Mc.truth (n == 0)) s):=rfl;clear h;go_enter func182,ntmps182;go_wp2_with fail;refine (pn B R c w0 s _ (L.alloc _)).mono ?_;intro e dk ar
 rcases ar.parts with ⟨x,ay,z,rfl,Hm⟩ | ⟨ay,z,rfl,Hm⟩<;>clear ar<;>simp only [intV]
 . have f:=hid (A.trans (bind_ok _ z))
   clear A z;go_wp2_with fail;refine (uu _ _).mono ?_;rintro e G ⟨rfl,rfl⟩;go_wp2_with fail;refine (oo B R c w0 ay _ _ Hm.out).mono ?_;exact Qv
 . exact QK
theorem HG (B R:Nat) (c:Mc.Cfg) (w0:World) (s:Mc.St) (a b:Int) (w:World) (h:ed B R c w0 w s) :
 Calls prog 182 #[.pointer (some ⟨R,0,none⟩),.agg #[.int .i64 22,.int .i64 a,.int .i64 b]] w (dM B R c w0 (Mc.doI c.mt ⟨22,a,b⟩ s) e0):=by
 have L:Hid (ed B R c w0 w s):=h;have A:Hid (Mc.doI c.mt ⟨22,a,b⟩ s=(Mc.pop s).bind fun n s=>Mc.push (Mc.truth (n != 0)) s):=rfl;clear h;go_enter func182,ntmps182;go_wp2_with fail;refine (pn B R c w0 s _ (L.alloc _)).mono ?_;intro e dk ar
 rcases ar.parts with ⟨x,ay,z,rfl,Hm⟩ | ⟨ay,z,rfl,Hm⟩<;>clear ar<;>simp only [intV]
 . have f:=hid (A.trans (bind_ok _ z))
   clear A z;go_wp2_with fail;refine (uu _ _).mono ?_;rintro e G ⟨rfl,rfl⟩;go_wp2_with fail;refine (oo B R c w0 ay _ _ Hm.out).mono ?_;exact Qv
 . exact QK
theorem HH (B R:Nat) (c:Mc.Cfg) (w0:World) (s:Mc.St) (a b:Int) (w:World) (h:ed B R c w0 w s) :
 Calls prog 182 #[.pointer (some ⟨R,0,none⟩),.agg #[.int .i64 18,.int .i64 a,.int .i64 b]] w (dM B R c w0 (Mc.doI c.mt ⟨18,a,b⟩ s) e0):=by
 have L:Hid (ed B R c w0 w s):=h;have A:Hid (Mc.doI c.mt ⟨18,a,b⟩ s=(Mc.next s).bind Mc.push):=rfl;clear h;go_enter func182,ntmps182;go_wp2_with fail;refine (next_any B R c w0 s _ (L.alloc _)).mono ?_;intro e dk ar
 rcases ar.parts with ⟨x,ay,z,rfl,Hm⟩ | ⟨ay,z,rfl,Hm⟩<;>clear ar<;>simp only [intV]
 . have f:=hid (A.trans (bind_ok _ z))
   clear A z;go_wp2_with fail;refine (oo B R c w0 ay _ _ Hm.out).mono ?_;exact Qv
 . exact QK
theorem HI (B R:Nat) (c:Mc.Cfg) (w0:World) (s:Mc.St) (a b:Int) (w:World) (h:ed B R c w0 w s) :
 Calls prog 182 #[.pointer (some ⟨R,0,none⟩),.agg #[.int .i64 19,.int .i64 a,.int .i64 b]] w (dM B R c w0 (Mc.doI c.mt ⟨19,a,b⟩ s) e0):=by
 have L:Hid (ed B R c w0 w s):=h;have A:Hid (Mc.doI c.mt ⟨19,a,b⟩ s=(Mc.pop s).bind Mc.tell):=rfl;clear h;go_enter func182,ntmps182;go_wp2_with fail;refine (pn B R c w0 s _ (L.alloc _)).mono ?_;intro e dk ar
 rcases ar.parts with ⟨x,ay,z,rfl,Hm⟩ | ⟨ay,z,rfl,Hm⟩<;>clear ar<;>simp only [intV]
 . have f:=hid (A.trans (bind_ok _ z))
   clear A z;go_wp2_with fail;refine (tell_any B R c w0 ay _ _ Hm.out).mono ?_;exact Qv
 . exact QK
theorem HJ (B R:Nat) (c:Mc.Cfg) (w0:World) (s:Mc.St) (a b:Int) (w:World) (h:ed B R c w0 w s) :
 Calls prog 182 #[.pointer (some ⟨R,0,none⟩),.agg #[.int .i64 17,.int .i64 a,.int .i64 b]] w (dM B R c w0 (Mc.doI c.mt ⟨17,a,b⟩ s) e0):=by
 have L:Hid (ed B R c w0 w s):=h;have A:Hid (Mc.doI c.mt ⟨17,a,b⟩ s=(Mc.pop s).bind fun _ s=>.ok () s):=rfl;clear h;go_enter func182,ntmps182;go_wp2_with fail;refine (pn B R c w0 s _ (L.alloc _)).mono ?_;intro e dk ar
 rcases ar.parts with ⟨x,ay,z,rfl,Hm⟩ | ⟨ay,z,rfl,Hm⟩<;>clear ar<;>simp only [intV]
 . go_wp2_with fail
   go_returns
   exact dM.ok (A.trans (bind_ok _ z)) rfl Hm.out
 . exact QK
theorem ed.pc (h:ed B R c w0 w s) (e:Int):ed B R c w0 (w.setCell ⟨R,1,none⟩ (.int .i64 e)) { s with pc:=e }:=by
 obtain ⟨T,v,h⟩:=h;exact ⟨T,v,h.setPc e⟩
theorem ed.cell1 (h:ed B R c w0 w s):w.cell? ⟨R,1,none⟩=some (.int .i64 s.pc)/\w.frozen? ⟨R,1,none⟩=false/\R<w.heap.size:=by
 obtain ⟨T,v,h⟩:=h;exact ⟨h.cell.2.1,h.cell.2.2.2.2.2.2.2.2.2.2.2.2.2 1,h.ltR⟩
theorem HK (B R:Nat) (c:Mc.Cfg) (w0:World) (s:Mc.St) (a b:Int) (w:World) (h:ed B R c w0 w s) :
 Calls prog 182 #[.pointer (some ⟨R,0,none⟩),.agg #[.int .i64 11,.int .i64 a,.int .i64 b]] w (dM B R c w0 (Mc.doI c.mt ⟨11,a,b⟩ s) e0):=by
 have L:Hid (ed B R c w0 w s):=h;have A:Hid (Mc.doI c.mt ⟨11,a,b⟩ s = .ok () { s with pc:=a }):=rfl;obtain ⟨ah,bz,X⟩:=h.cell1;clear h;go_enter func182,ntmps182;go_wp2_with fail
 go_returns
 exact dM.ok A rfl ((L.pc a).alloc _)
theorem HL (B R:Nat) (c:Mc.Cfg) (w0:World) (s:Mc.St) (a b:Int) (w:World) (h:ed B R c w0 w s) :
 Calls prog 182 #[.pointer (some ⟨R,0,none⟩),.agg #[.int .i64 12,.int .i64 a,.int .i64 b]] w (dM B R c w0 (Mc.doI c.mt ⟨12,a,b⟩ s) e0):=by
 have L:Hid (ed B R c w0 w s):=h;have A:Hid (Mc.doI c.mt ⟨12,a,b⟩ s=(Mc.pop s).bind fun n s=>.ok () (if n=0 then { s with pc:=a } else s)):=rfl;have a6:=h.get.2.2;clear h;obtain ⟨T,v,h⟩:=L.out;have aR:=hid h;clear h;go_enter func182,ntmps182;go_wp2_with fail;refine (rB B R c w0 s _ T v (aR.alloc _)).mono ?_;rintro e dk ⟨ar,N⟩
 have aT:dk.cell? ⟨w.heap.size,1,none⟩=some (.int .i64 a):=((World.cell?_of_block (w:=w.alloc _) (N w.heap.size N8)).trans Oc)
 rcases ar.plain.parts with ⟨x,ay,z,rfl,Hm⟩ | ⟨ay,z,rfl,Hm⟩<;>clear ar N<;>simp only [intV]
 . have f:=hid (A.trans (bind_ok _ z))
   clear A z;obtain ⟨ah,bz,X⟩:=Hm.out.cell1
   by_cases S:x=0
   . have g:Hid (Mc.doI c.mt ⟨12,a,b⟩ s = .ok () { ay with pc:=a }):=by
      have:=f.out;rw [if_pos S] at this;exact this
     subst S;clear f;go_wp2_with fail
     go_returns
     exact dM.ok g rfl (Hm.out.pc a)
   . have g:Hid (Mc.doI c.mt ⟨12,a,b⟩ s = .ok () ay):=by
      have:=f.out;rw [if_neg S] at this;exact this
     have D:(x == 0)=false:=beq_eq_false_iff_ne.2 S;clear f S;go_wp2_with fail
     go_returns
     exact dM.ok g rfl Hm.out
 . exact QK
theorem HM (B R:Nat) (c:Mc.Cfg) (w0:World) (s:Mc.St) (a b:Int) (w:World) (h:ed B R c w0 w s) :
 Calls prog 182 #[.pointer (some ⟨R,0,none⟩),.agg #[.int .i64 20,.int .i64 a,.int .i64 b]] w (dM B R c w0 (Mc.doI c.mt ⟨20,a,b⟩ s) e0):=by
 have L:Hid (ed B R c w0 w s):=h;have A:Hid (Mc.doI c.mt ⟨20,a,b⟩ s = .stop { s with en:=0 }):=rfl;clear h;go_enter func182,ntmps182;go_wp2_with fail;refine (sS 0 _ (L.alloc _)).mono ?_;exact QF
theorem HN (B R:Nat) (c:Mc.Cfg) (w0:World) (s:Mc.St) (a b:Int) (w:World) (h:ed B R c w0 w s) :
 Calls prog 182 #[.pointer (some ⟨R,0,none⟩),.agg #[.int .i64 21,.int .i64 a,.int .i64 b]] w (dM B R c w0 (Mc.doI c.mt ⟨21,a,b⟩ s) e0):=by
 have L:Hid (ed B R c w0 w s):=h;have A:Hid (Mc.doI c.mt ⟨21,a,b⟩ s = .ok () s):=rfl;clear h;go_enter func182,ntmps182;go_wp2_with fail
 go_returns
 exact dM.ok A rfl (L.alloc _)
end Mx
end Go.Proofs.YtndkhgakfodldaaGreatDoor
