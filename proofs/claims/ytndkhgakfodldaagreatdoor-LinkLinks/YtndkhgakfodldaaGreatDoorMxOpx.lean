import Derived.Test.YtndkhgakfodldaaGreatDoorMxApp
import Derived.Shelf.Abstract
import Derived.Test.YtndkhgakfodldaaGreatDoorMxOpv
set_option maxRecDepth 100000
set_option maxHeartbeats 1600000
open Go.Proofs.Tryz
open List renaming length → ln
namespace Go.Proofs.YtndkhgakfodldaaGreatDoor
namespace Mx
open Go.RowKit Go.Shelf
section
variable {P:Program} {ops:Array Oper} {o:Oper} {a:Act} {w:World} {K:Act->World->Prop} {T:Exit->Act->World->Prop} {E:Prop}
theorem run_call1 (f:FuncId) (x:Operand) (d:TypeId) (aa:o.op = .call { callee:=.value (.func f),args:=#[x],argTypes:=#[d] })
 (g:Enters P f) (v:Value) (Q:a.eval x=v):(execOp a.eval o).run P w = .ok (.enter f #[v]) w:=by
 have h:=g #[v] w;have ag:a.eval (.func f) = .func (.func f) #[] #[]:=rfl;simp [execOp,aa,resolve,invoke,Q,ag,h,Deferred.ofValue]
theorem step_call1 (m:o.guard=none) (f:FuncId) (x:Operand) (d:TypeId) (aa:o.op = .call { callee:=.value (.func f),args:=#[x],argTypes:=#[d] })
 (g:Enters P f) (v:Value) (Q:a.eval x=v) (u:Value) {R:World->Prop} (a1:Calls P f #[v] w fun e r=>e = .returned u/\R r)
 (h:∀ r,R r->K (a.put o.dst u) r):if Region.wanted o (yielded ops a.tmps)=true then Oper.wp P o a w K T else E:=by
 have aq:Region.wanted o (yielded ops a.tmps)=true:=by simp [Region.wanted,m]
 rw [if_pos aq];unfold Oper.wp;rw [run_call1 f x d aa g v Q,Oper.upon_enter];refine a1.mono ?_;rintro e r ⟨rfl,bb⟩;exact h r bb
end
variable {B b R f a m o:Nat} {C:Ending->World->Prop} {D L:Value} {T:Nat->Nat} {ad ae:Option Addr} {c:Mc.Cfg} {d:List PanicEntry} {s:Mc.St} {v:Vs} {w r w0 w2:World} {g:List Value} {α:Type}
theorem wo:Enters prog 276:=enters_of func276 (by kernel_rfl) rfl
theorem EX:prog.underlying 3=some (.int .i64):=Tryz.underlying3
theorem eX.setLo' {l:List Int} (h:eX B R c w0 w T v s) (a7:v.lo = .slice ae b a)
 (A:pd w w2 B 3 1 (.slice ae m a) ad o f g) (U:o=(fz s.gs++l).length) (d:g=ints (fz s.gs++l)) (a2:ln l<=2048) :
 eX B R c w0 (w2.setCell ⟨R,3,none⟩ (.slice ad o f)) (mj w T 3) { v with lo:=.slice ad o f } { s with lo:=l }:=by
 have e:v.lo.ownBlock=Value.ownBlock (.slice ae m a):=by rw [a7];cases ae<;>rfl
 subst U;subst d
 exact h.setLo (by rw [e];exact A.grown) A.own (fun k N a0=>by rw [e];exact A.lies k N a0) a2
theorem eX.farLo (h:eX B R c w0 w T v s) (a7:v.lo = .slice ae b a)
 (A:pd w w2 B 3 1 (.slice ae m a) ad o f g):(∀ j,w2.cell? ⟨R,j,none⟩=w.cell? ⟨R,j,none⟩)/\(∀ j,w2.frozen? ⟨R,j,none⟩=false)/\R<w2.heap.size:=by
 have e:v.lo.ownBlock=Value.ownBlock (.slice ae m a):=by rw [a7];cases ae<;>rfl
 exact h.far (fun k N=>h.lo.mark k (by rw [e];exact N)) (by decide) A.grown
theorem EY (B R:Nat) (c:Mc.Cfg) (w0:World) (s:Mc.St) (i V:Nat) (w:World) (h:fb B R c w0 w s) (v:i+V<=2048) (an:i<=ln s.stack) :
 Calls prog 230 #[.pointer (some ⟨R,0,none⟩),.int .i64 i,.int .i64 V] w fun e r=>e = .returned (.tuple #[])/\fb B R c w0 r { s with lo:=s.stack.drop (ln s.stack - i)++List.replicate V 0,stack:=s.stack.take (ln s.stack - i) }:=by
 obtain ⟨bx,X,al,b0,bl⟩:=info_parts wg;obtain ⟨T,⟨q,E,K,fr,Y,y,ou⟩,h⟩:=h;obtain ⟨ae,a,a7,hlcap,hlmax⟩:=h.lo.form;simp only at a7;subst a7
 obtain ⟨O,W⟩:∃ O,ln s.stack=O+i:=⟨ln s.stack - i,by omega⟩
 have a1:ln s.stack - i=O:=by omega
 rw [a1];have ax:=h.locals_le;have ai:=h.bst;have ak:=h.ltR;have cq:=we s.gs h.bfr
 have cF:(fz s.gs).length<=(fz s.gs++s.lo).length:=by rw [List.length_append];omega
 have I:(s.stack.drop O).length=i:=by rw [List.length_drop];omega
 obtain ⟨t,scap,a7,hscap,hsmax⟩:=h.st.form;simp only at a7;subst a7;have ar:Hid (eX B R c w0 w T ⟨q,.slice t (ln s.stack) scap,.slice ae (fz s.gs++s.lo).length a,fr,Y,y,ou⟩ s):=h
 have P:Hid (∀ w,eX B R c w0 w T ⟨q,.slice t (ln s.stack) scap,.slice ae (fz s.gs++s.lo).length a,fr,Y,y,ou⟩ s->Calls prog 276 #[.pointer (some ⟨R,0,none⟩)] w fun e r=>e = .returned (.agg #[.int .i64 ((fz s.gs).length:Nat),.int .i64 s.bk])/\Below w.heap.size w r):=fun w h=>wj B R c w0 s w T _ h
 have p:Hid (∀ (eq:World) (x:Option Addr) (U:Nat) (d:TypeId),eX B R c w0 eq T ⟨q,.slice t (ln s.stack) scap,.slice ae (fz s.gs++s.lo).length a,fr,Y,y,ou⟩ s->((x=none/\i=0)\/(i=0/\∃ g,x=some ⟨g,0,none⟩)\/∃ g,t=some ⟨g,0,none⟩/\x=some ⟨g,O,none⟩)->
  ∃ ad f r,(Builtin.append_ #[49,49] d #[.slice ae (fz s.gs).length a,.slice x i U]).run prog eq = .ok (.slice ad ((fz s.gs).length+i) f) r/\pd eq r B 3 1 (.slice ae (fz s.gs).length a) ad ((fz s.gs).length+i) f (ints (fz s.gs)++ints (s.stack.drop O))):=fun eq x U d a8 Q=>by
  have hcut:=(a8.lo.cut (m:=(fz s.gs).length) cF rfl).own;rw [Nat.mul_one,tD,List.take_left] at hcut;refine EE eq B 49 d 3 bx _ 1 8 Tryz.underlying49 X al b0 bl rfl (by omega) _ _ _ hcut x i U (ints (s.stack.drop O)) (by rw [qh,I,Nat.mul_one]) ?_ (zO _) (by unfold maxLen;omega) (by omega) a8.hB
  rcases Q with Q | ⟨N,g,Q⟩ | ⟨g,Z,Q⟩
  . exact Or.inl Q
  . refine Or.inr ⟨_,Q,fun j u ac=>?_⟩
    rw [List.eq_nil_of_length_eq_zero (I.trans N)] at ac;simp [ints] at ac
  . refine Or.inr ⟨_,Q,fun j u ac=>?_⟩
    have aT:0<ln s.stack:=by
     have:j<(ints (s.stack.drop O)).length:=by
      rcases Nat.lt_or_ge j (ints (s.stack.drop O)).length with h | h
      . exact h
      . rw [List.getElem?_eq_none h] at ac;cases ac
     rw [qh,List.length_drop] at this;omega
    obtain ⟨aj,f,D,_,_,_,_,_,_,hcell⟩:=a8.st.place aT;simp only [Z,Value.slice.injEq] at D
    have af:g=aj:=by simpa using D.1
    subst af
    have:=hcell (O+j) u (by
     rw [← ac]
     simp [ints,List.getElem?_drop])
    rw [show (⟨g,O,none⟩:Addr).add j=⟨g,O+j,none⟩ from by unfold Addr.add;split<;>simp_all];exact this
 have ah:Hid (∀ (eq:World) (C:Nat->Nat) (l:Vs) (ad:Option Addr) (f:Nat) (d:TypeId),eX B R c w0 eq C l { s with lo:=s.stack.drop O }->l.lo = .slice ad ((fz s.gs).length+i) f->
  ∃ a5 H r,(Builtin.append_ #[49,3] d #[.slice ad ((fz s.gs).length+i) f,.int .i64 V]).run prog eq = .ok (.slice a5 ((fz s.gs).length+i+V) H) r/\pd eq r B 3 1 (.slice ad ((fz s.gs).length+i) f) a5 ((fz s.gs).length+i+V) H (ints (fz s.gs++s.stack.drop O)++ints (List.replicate V 0))):=fun eq C l ad f d a8 a7=>by
  have aa:=a8.lo.own;rw [a7] at aa;simp only [List.length_append,I] at aa;exact EG eq B 49 3 d 3 bx .i64 Tryz.underlying49 EX X al b0 bl _ _ _ aa V (by omega) a8.hB
 obtain ⟨-, -,a4,c3, -, -, -, -, -, -, -, -, -,ag⟩:=h.cell;simp only at a4 c3;rw [W] at a4 hscap
 have aJ:Hid (t=none/\O=0/\i=0/\scap=0\/∃ g,t=some ⟨g,0,none⟩):=by
  rcases h.st.own.2 with ⟨G,J⟩ | ⟨g,f,o,G,_⟩
  . simp only [Value.slice.injEq] at G
    exact Or.inl ⟨G.1,by omega,by omega,G.2.2⟩
  . simp only [Value.slice.injEq] at G
    exact Or.inr ⟨g,G.1⟩
 unfold maxLen at hlmax hsmax;have a6:=zZ;have z:=hid W;have aK:=hid I;clear h W a1 I cq an;generalize a8:(fz s.gs).length=m at *;have L:=hid a8;generalize ay:(fz s.gs++s.lo).length=b at *;have aF:=hid ay;clear a8 ay
 have ab:m<=a:=by omega
 have a9:(O:Int)<=(O:Int)+(i:Int):=by omega
 have b8:Hid (∀ eq,Below w.drew.heap.size w.drew eq->∀ ad f w2,pd eq w2 B 3 1 (.slice ae m a) ad (m+i) f (ints (fz s.gs)++ints (s.stack.drop O))->
  w2.cell? ⟨R,2,none⟩=some (.slice t (O+i) scap)/\w2.cell? ⟨R,3,none⟩=some (.slice ae b a)/\w2.frozen? ⟨R,2,none⟩=false/\w2.frozen? ⟨R,3,none⟩=false/\R<w2.heap.size/\
  Hid (eX B R c w0 (w2.setCell ⟨R,3,none⟩ (.slice ad (m+i) f)) (mj eq T 3) ⟨q,.slice t (ln s.stack) scap,.slice ad (m+i) f,fr,Y,y,ou⟩ { s with lo:=s.stack.drop O })):=by
  intro eq F ad f w2 A;have G:=ar.drew.later F ar.hB;obtain ⟨bk,bm,b5⟩:=G.farLo rfl A;exact ⟨(bk 2).trans ((F.cell (p:=⟨R,2,none⟩) ak).trans a4),(bk 3).trans ((F.cell (p:=⟨R,3,none⟩) ak).trans c3),bm 2,bm 3,b5,G.setLo' (l:=s.stack.drop O) rfl A (by rw [List.length_append,L.out,aK.out]) (by rw [zN]) (by rw [aK.out];omega)⟩
 have b2:Hid (∀ (ad:Option Addr) (f:Nat) (C:Nat->Nat) (M:World),eX B R c w0 M C ⟨q,.slice t (ln s.stack) scap,.slice ad (m+i) f,fr,Y,y,ou⟩ { s with lo:=s.stack.drop O }->∀ a5 H eA,pd M eA B 3 1 (.slice ad (m+i) f) a5 (m+i+V) H (ints (fz s.gs++s.stack.drop O)++ints (List.replicate V 0))->
  eA.cell? ⟨R,2,none⟩=some (.slice t (O+i) scap)/\eA.cell? ⟨R,3,none⟩=some (.slice ad (m+i) f)/\eA.frozen? ⟨R,2,none⟩=false/\eA.frozen? ⟨R,3,none⟩=false/\R<eA.heap.size/\
  Hid (fb B R c w0 ((eA.setCell ⟨R,3,none⟩ (.slice a5 (m+i+V) H)).setCell ⟨R,2,none⟩ (.slice t O scap)) { s with lo:=s.stack.drop O++List.replicate V 0,stack:=s.stack.take O })):=by
  intro ad f C M aS a5 H eA A;obtain ⟨bk,bm,b5⟩:=aS.farLo rfl A;have S:=aS.setLo' (l:=s.stack.drop O++List.replicate V 0) rfl A (by simp only [List.length_append,L.out,aK.out,List.length_replicate];omega) (by rw [← zN,List.append_assoc]) (by rw [List.length_append,aK.out,List.length_replicate];omega)
  have a2:(s.stack.take O).length=O:=by rw [List.length_take,z.out];omega
  refine ⟨by rw [bk 2,aS.cell.2.2.1,z.out],(bk 3).trans aS.cell.2.2.2.1,bm 2,bm 3,b5,_,_,S.setSt (x:=.slice t O scap) (l:=s.stack.take O) (grown_refl _ _) ?_ (fun k N _=>?_) (by have:=ai;rw [z.out] at this;rw [a2];omega)⟩
  . have:=(S.st.cut (m:=O) (by show O<=ln s.stack;rw [z.out];omega) rfl).own
    rw [Nat.mul_one,tD] at this;rw [a2];exact this
  . exact (show Value.ownBlock (.slice t (ln s.stack) scap)=Value.ownBlock (.slice t O scap) from by cases t<;>rfl).trans N
 rcases aJ.out with ⟨rfl,rfl,rfl,rfl⟩ | ⟨g,rfl⟩<;>clear aJ
 . skip
   have n:=hid (fun eq h=>p eq (none) (0) 49 h (Or.inl ⟨rfl,rfl⟩));clear p;go_enter func230,ntmps230;go_wp2_with fail;refine (lc _ _ _ (by first | (simp;done) | (simp;omega))).mono ?_;rintro e r ⟨rfl,rfl⟩;go_wp2_with fail;refine (lc _ _ _ (by first | (simp;done) | (simp;omega))).mono ?_;rintro e r ⟨rfl,rfl⟩;go_wp2_with fail
   go_region_law (first
    | (refine v6 (by rfl) _ _ _ _ (by rfl) _ _ (by rfl) (by rfl) (n _ (ar.drew.later F ar.hB)) ?_;intro ad f w2 A;obtain ⟨bf,aQ,bn,bs,aO,aw⟩:=b8 eq F ad f w2 A;clear A)
    | (refine step_call1 (by rfl) 276 _ _ (by rfl) wo _ (by kernel_rfl) _ (P _ ar.drew) ?_;intro eq F;have aU:=(F.cell (p:=⟨R,2,none⟩) ak).trans a4;have bd:=(F.cell (p:=⟨R,3,none⟩) ak).trans c3))
   all_goals
    go_wp2_with (at_builtin;refine v7 rfl _ _ _ _ rfl _ _ rfl rfl (ah _ _ _ ad f _ aw.out rfl) ?_;intro a5 H eA A;obtain ⟨au,aI,bq,c9,k6,a0⟩:=b2 _ _ _ _ aw.out _ _ _ A;clear A)
    go_returns
    exact ⟨rfl,a0.out⟩
 rcases Nat.lt_or_ge O scap with a3 | a3
 . have aV:¬ scap=O:=by omega
   have n:=hid (fun eq h=>p eq (some ⟨g,O,none⟩) (scap - O) 49 h (Or.inr (Or.inr ⟨g,rfl,rfl⟩)));clear p;go_enter func230,ntmps230;go_wp2_with fail;refine (lc _ _ _ (by first | (simp;done) | (simp;omega))).mono ?_;rintro e r ⟨rfl,rfl⟩;go_wp2_with fail;refine (lc _ _ _ (by first | (simp;done) | (simp;omega))).mono ?_;rintro e r ⟨rfl,rfl⟩;go_wp2_with fail
   go_region_law (first
    | (refine v6 (by rfl) _ _ _ _ (by rfl) _ _ (by rfl) (by rfl) (n _ (ar.drew.later F ar.hB)) ?_;intro ad f w2 A;obtain ⟨bf,aQ,bn,bs,aO,aw⟩:=b8 eq F ad f w2 A;clear A)
    | (refine step_call1 (by rfl) 276 _ _ (by rfl) wo _ (by kernel_rfl) _ (P _ ar.drew) ?_;intro eq F;have aU:=(F.cell (p:=⟨R,2,none⟩) ak).trans a4;have bd:=(F.cell (p:=⟨R,3,none⟩) ak).trans c3))
   all_goals
    go_wp2_with (at_builtin;refine v7 rfl _ _ _ _ rfl _ _ rfl rfl (ah _ _ _ ad f _ aw.out rfl) ?_;intro a5 H eA A;obtain ⟨au,aI,bq,c9,k6,a0⟩:=b2 _ _ _ _ aw.out _ _ _ A;clear A)
    go_returns
    exact ⟨rfl,a0.out⟩
 . obtain rfl:i=0:=by omega
   obtain rfl:scap=O:=by omega
   have n:=hid (fun eq h=>p eq (some ⟨g,0,none⟩) (0) 49 h (Or.inr (Or.inl ⟨rfl,g,rfl⟩)));clear p;go_enter func230,ntmps230;go_wp2_with fail;refine (lc _ _ _ (by first | (simp;done) | (simp;omega))).mono ?_;rintro e r ⟨rfl,rfl⟩;go_wp2_with fail;refine (lc _ _ _ (by first | (simp;done) | (simp;omega))).mono ?_;rintro e r ⟨rfl,rfl⟩;go_wp2_with fail
   go_region_law (first
    | (refine v6 (by rfl) _ _ _ _ (by rfl) _ _ (by rfl) (by rfl) (n _ (ar.drew.later F ar.hB)) ?_;intro ad f w2 A;obtain ⟨bf,aQ,bn,bs,aO,aw⟩:=b8 eq F ad f w2 A;clear A)
    | (refine step_call1 (by rfl) 276 _ _ (by rfl) wo _ (by kernel_rfl) _ (P _ ar.drew) ?_;intro eq F;have aU:=(F.cell (p:=⟨R,2,none⟩) ak).trans a4;have bd:=(F.cell (p:=⟨R,3,none⟩) ak).trans c3))
   all_goals
    go_wp2_with (at_builtin;refine v7 rfl _ _ _ _ rfl _ _ rfl rfl (ah _ _ _ ad f _ aw.out rfl) ?_;intro a5 H eA A;obtain ⟨au,aI,bq,c9,k6,a0⟩:=b2 _ _ _ _ aw.out _ _ _ A;clear A)
    go_returns
    exact ⟨rfl,a0.out⟩
open Go.RowKit Go.Shelf
theorem enter_any (B R:Nat) (c:Mc.Cfg) (w0:World) (s:Mc.St) (a b:Int) (w:World) (h:fb B R c w0 w s) (ab:fit64 a) (F:fit64 b) :
 Calls prog 230 #[.pointer (some ⟨R,0,none⟩),.int .i64 a,.int .i64 b] w (eP B R c w0 (Mc.enter a b s) fW):=by
 obtain ⟨d,ha1⟩:=ab;obtain ⟨Q,ai⟩:=F;have aq:Hid (fb B R c w0 w s):=h
 by_cases v:0<=a/\0<=b/\b<=2048 - a
 . by_cases an:a<=ln s.stack
   . have A:Mc.enter a b s = .ok () { s with lo:=s.stack.drop (ln s.stack - a.toNat)++List.replicate b.toNat 0,stack:=s.stack.take (ln s.stack - a.toNat) }:=(if_pos v).trans (if_pos an)
     obtain ⟨a3,G,J⟩:=v;obtain ⟨i,rfl⟩:=Int.eq_ofNat_of_zero_le a3;obtain ⟨V,rfl⟩:=Int.eq_ofNat_of_zero_le G;refine (EY B R c w0 s i V w h (by omega) (by omega)).mono ?_;rintro e r ⟨rfl,a8⟩;exact eP.ok A rfl (by simpa only [Int.toNat_natCast] using a8)
   . have A:Hid (Mc.enter a b s = .stop { s with en:=6 }):=(if_pos v).trans (if_neg an)
     obtain ⟨a3,G,J⟩:=v;obtain ⟨T,⟨q,E,K,fr,Y,y,ou⟩,h⟩:=h;obtain ⟨t,scap,a7,hscap,hsmax⟩:=h.st.form;simp only at a7;subst a7;have a4:=h.cell.2.2.1;have f:=h.bst;simp only at a4;clear h;generalize (ln s.stack)=n at *;go_enter func230,ntmps230;go_wp2_with fail;refine (lc _ _ _ (by first | (simp;done) | (simp;omega))).mono ?_;rintro e r ⟨rfl,rfl⟩;go_wp2_with fail;refine (pg _ _ (by first | (simp;done) | (simp;omega)) aq).mono ?_;rintro e w2 ⟨rfl,a8⟩;go_wp2_with fail;exact ⟨rfl,eP.stop A rfl a8⟩
 . have A:Hid (Mc.enter a b s = .stop { s with en:=6 }):=if_neg v
   clear h
   by_cases a3:0<=a
   . by_cases G:0<=b
     . have J:¬ b<=2048 - a:=fun h=>v ⟨a3,G,h⟩
       clear v;go_enter func230,ntmps230;go_wp2_with fail;refine (pg _ _ (by first | (simp;done) | (simp;omega)) aq).mono ?_;rintro e w2 ⟨rfl,a8⟩;go_wp2_with fail;exact ⟨rfl,eP.stop A rfl a8⟩
     . clear v
       go_enter func230,ntmps230;go_wp2_with fail;refine (pg _ _ (by first | (simp;done) | (simp;omega)) aq).mono ?_;rintro e w2 ⟨rfl,a8⟩;go_wp2_with fail;exact ⟨rfl,eP.stop A rfl a8⟩
   . clear v
     go_enter func230,ntmps230;go_wp2_with fail;refine (pg _ _ (by first | (simp;done) | (simp;omega)) aq).mono ?_;rintro e w2 ⟨rfl,a8⟩;go_wp2_with fail;exact ⟨rfl,eP.stop A rfl a8⟩
theorem fb.alloc (h:fb B R c w0 w s) (o:Obj):fb B R c w0 (w.alloc o) s:=by
 obtain ⟨T,v,h⟩:=h;exact ⟨T,v,h.alloc o⟩
theorem fb.drew (h:fb B R c w0 w s):fb B R c w0 w.drew s:=by
 obtain ⟨T,v,h⟩:=h;exact ⟨T,v,h.drew⟩
section
variable {P:Program} {ops:Array Oper} {o:Oper} {a:Act} {w:World} {K:Act->World->Prop} {T:Exit->Act->World->Prop} {E:Prop}
theorem run_callN (f:FuncId) (ae:Array Operand) (b:Array TypeId) (aa:o.op = .call { callee:=.value (.func f),args:=ae,argTypes:=b })
 (g:Enters P f) (p:Array Value) (Q:ae.map a.eval=p):(execOp a.eval o).run P w = .ok (.enter f p) w:=by
 have h:=g p w;have ag:a.eval (.func f) = .func (.func f) #[] #[]:=rfl;simp [execOp,aa,resolve,invoke,Q,ag,h,Deferred.ofValue]
theorem ks (m:o.guard=none) (f:FuncId) (ae:Array Operand) (b:Array TypeId) (aa:o.op = .call { callee:=.value (.func f),args:=ae,argTypes:=b })
 (g:Enters P f) (p:Array Value) (Q:ae.map a.eval=p) (a1:Calls P f p w C)
 (S:∀ r,¬ C .outgrown r) (J:∀ c r,C (.panicked c) r->T (.panic c) a r) (G:∀ v r,C (.returned v) r->K (a.put o.dst v) r):if Region.wanted o (yielded ops a.tmps)=true then Oper.wp P o a w K T else E:=by
 have aq:Region.wanted o (yielded ops a.tmps)=true:=by simp [Region.wanted,m]
 rw [if_pos aq];unfold Oper.wp;rw [run_callN f ae b aa g p Q,Oper.upon_enter];refine a1.mono ?_;intro e r ah
 cases e with
 | returned v=>exact G v r ah
 | panicked c=>exact J c r ah
 | outgrown=>exact absurd ah (S r)
end
theorem z7 {P:Program} {ops:Array Oper} {a:Act} {K:Act->World->Prop} {T:Exit->Act->World->Prop} {i:Nat} {o:Oper} (X:ops[i]? = some o) (m:o.guard=none) (f:FuncId) (ae:Array Operand) (b:Array TypeId) (aa:o.op = .call { callee:=.value (.func f),args:=ae,argTypes:=b })
 (g:Enters P f) (p:Array Value) (Q:ae.map a.eval=p) (a1:Calls P f p w C)
 (S:∀ r,¬ C .outgrown r) (J:∀ c r,C (.panicked c) r->T (.panic c) a r) (G:∀ v r,C (.returned v) r->K (a.put o.dst v) r):wpOp P ops T i K a w:=by
 have aq:Region.wanted o (yielded ops a.tmps)=true:=by simp [Region.wanted,m]
 have h:=ks (ops:=ops) (E:=True) m f ae b aa g p Q a1 S J G;rw [if_pos aq] at h;unfold wpOp;rw [X];simp only [aq,if_true];exact Or.inl h
theorem eP.noOut {O:Mc.Res α} {g:α->Value}:¬ eP B R c w0 O g .outgrown r:=by
 intro h;cases O with
 | ok a s=>cases h.1
 | stop s=>cases h.1
theorem eP.ret {O:Mc.Res α} {g:α->Value} {v:Value} (h:eP B R c w0 O g (.returned v) r):∃ a s,Hid (O = .ok a s)/\v=g a/\Hid (fb B R c w0 r s):=by
 cases O with
 | ok a s=>exact ⟨a,s,rfl,by cases h.1;rfl,h.2⟩
 | stop s=>cases h.1
theorem eP.pan {O:Mc.Res α} {g:α->Value} (h:eP B R c w0 O g (.panicked d) r):∃ s,Hid (O = .stop s)/\d=kr s.en/\Hid (fb B R c w0 r s):=by
 cases O with
 | ok a s=>cases h.1
 | stop s=>exact ⟨s,rfl,by cases h.1;rfl,h.2⟩
theorem en35:Enters prog 221:=enters_of func221 (by kernel_rfl) rfl
theorem en36:Enters prog 222:=enters_of func222 (by kernel_rfl) rfl
theorem z8:Enters prog 223:=enters_of func223 (by kernel_rfl) rfl
theorem wq:Enters prog 224:=enters_of func224 (by kernel_rfl) rfl
theorem tI:Enters prog 225:=enters_of func225 (by kernel_rfl) rfl
open Go.RowKit Go.Shelf
theorem EZ (B R:Nat) (c:Mc.Cfg) (w0:World) (s:Mc.St) (a b:Int) (w:World) (h:fb B R c w0 w s) :
 Calls prog 182 #[.pointer (some ⟨R,0,none⟩),.agg #[.int .i64 2,.int .i64 a,.int .i64 b]] w (eP B R c w0 (Mc.doI c.mt ⟨2,a,b⟩ s) fW):=by
 have aq:Hid (fb B R c w0 w s):=h;have A:Hid (Mc.doI c.mt ⟨2,a,b⟩ s=(Mc.getL s.lo a s).bind Mc.push):=rfl;clear h;obtain ⟨T,v,h⟩:=aq.out;have ar:=hid h;have ak:=h.ltR;have M:=h.blo;clear h;go_enter func182,ntmps182;go_wp2_with fail
 go_region_law (first
  | (refine ks (by rfl) 223 _ _ (by rfl) z8 _ (by kernel_rfl) (z6 B R c w0 s _ T v (ar.alloc _).drew) (fun r h=>by obtain ⟨_,_,h,_⟩:=h;cases h) (fun d r h=>by obtain ⟨_,_,h,_⟩:=h;cases h) ?_;rintro _ eq ⟨ae,l,G,aQ,a7,F⟩;obtain rfl:=(Ending.returned.inj G);have aG:=hid aQ;have cl:=hid a7;have aL:eq.cell? ⟨w.heap.size,1,none⟩=some (.int .i64 a):=((F.cell (p:=⟨w.heap.size,1,none⟩) (by simp)).trans (by simp));clear G aQ a7)
  | (refine ks (by rfl) 222 _ _ (by rfl) en36 _ (by kernel_rfl) (wl B R c w0 s ae l s.lo a _ ⟨T,v,cl⟩ (aG.cells cl).1 (by omega)) (fun r h=>h.noOut) (fun d r h=>by obtain ⟨b6,z,rfl,Hm⟩:=h.pan;exact ⟨rfl,eP.of_stop (A.trans (jP _ z)) Hm.out⟩) ?_;intro _ w2 ah;obtain ⟨q,b6,aZ,rfl,Hm2⟩:=ah.ret;clear ah;simp only [intV])
  | (refine ks (by rfl) 221 _ _ (by rfl) en35 _ (by kernel_rfl) (n9 B R c w0 b6 q _ Hm2.out) (fun r h=>h.noOut) (fun d r h=>by obtain ⟨fX,z,rfl,Hm⟩:=h.pan;exact ⟨rfl,eP.of_stop (A.trans ((bind_ok _ aZ.out).trans z)) Hm.out⟩) ?_;intro _ eC ah;obtain ⟨u,fX,b3,rfl,Hm3⟩:=ah.ret;clear ah;simp only [fW]))
 all_goals
  go_wp2_with fail
  go_returns
  exact eP.ok (A.trans ((bind_ok _ aZ.out).trans b3.out)) rfl Hm3.out
theorem tJ {b6:Mc.St} {x:Int} (h:Mc.pop s = .ok x b6):∃ K,b6={ s with stack:=K }:=by
 unfold Mc.pop at h
 split at h
 . exact ⟨_,(Mc.Res.ok.inj h).2.symm⟩
 . cases h
theorem j8.noOut {O:Mc.Res α} {g:α->Value}:¬ j8 B R c w0 L D O g .outgrown r:=by
 intro h;cases O with
 | ok a s=>cases h.1
 | stop s=>cases h.1
theorem j8.ret {O:Mc.Res α} {g:α->Value} {v:Value} (h:j8 B R c w0 L D O g (.returned v) r):∃ a s,Hid (O = .ok a s)/\v=g a/\∃ T l,Hid (eX B R c w0 r T l s)/\l.lo=L/\l.da=D:=by
 cases O with
 | ok a s=>exact ⟨a,s,rfl,by cases h.1;rfl,h.2⟩
 | stop s=>cases h.1
theorem j8.pan {O:Mc.Res α} {g:α->Value} (h:j8 B R c w0 L D O g (.panicked d) r):∃ s,Hid (O = .stop s)/\d=kr s.en/\Hid (fb B R c w0 r s):=by
 cases O with
 | ok a s=>cases h.1
 | stop s=>exact ⟨s,rfl,by cases h.1;rfl,h.2⟩
theorem E0 (B R:Nat) (c:Mc.Cfg) (w0:World) (s:Mc.St) (a b:Int) (w:World) (h:fb B R c w0 w s) :
 Calls prog 182 #[.pointer (some ⟨R,0,none⟩),.agg #[.int .i64 3,.int .i64 a,.int .i64 b]] w (eP B R c w0 (Mc.doI c.mt ⟨3,a,b⟩ s) fW):=by
 have aq:Hid (fb B R c w0 w s):=h;have A:Hid (Mc.doI c.mt ⟨3,a,b⟩ s=(Mc.pop s).bind fun n s=>Mc.putLo a n s):=rfl;clear h;obtain ⟨T,v,h⟩:=aq.out;have ar:=hid h;have ak:=h.ltR;clear h;go_enter func182,ntmps182;go_wp2_with fail
 go_region_law (first
  | (refine ks (by rfl) 223 _ _ (by rfl) z8 _ (by kernel_rfl) (z6 B R c w0 s _ T v (ar.alloc _).drew) (fun r h=>by obtain ⟨_,_,h,_⟩:=h;cases h) (fun d r h=>by obtain ⟨_,_,h,_⟩:=h;cases h) ?_;rintro _ eq ⟨ae,l,G,aQ,a7,F⟩;obtain rfl:=(Ending.returned.inj G);have aG:=hid aQ;have cl:=hid a7;have aL:eq.cell? ⟨w.heap.size,1,none⟩=some (.int .i64 a):=((F.cell (p:=⟨w.heap.size,1,none⟩) (by simp)).trans (by simp));clear G aQ a7)
  | (refine ks (by rfl) 225 _ _ (by rfl) tI _ (by kernel_rfl) (qY B R c w0 s _ T v cl) (fun r h=>h.1.noOut) (fun d r h=>by obtain ⟨b6,z,rfl,Hm⟩:=h.1.pan;exact ⟨rfl,eP.of_stop (A.trans (jP _ z)) Hm.out⟩) ?_;rintro _ w2 ⟨ah,N⟩;obtain ⟨q,b6,aZ,rfl,X,aN,aw,M,hda⟩:=ah.ret;obtain ⟨t,E⟩:=tJ aZ.out;subst E;have b8:=hid M;have aU:w2.cell? ⟨w.heap.size,1,none⟩=some (.int .i64 a):=((World.cell?_of_block (w:=eq) (N w.heap.size (by omega))).trans aL);clear ah N M hda;simp only [intV])
  | (refine ks (by rfl) 224 _ _ (by rfl) wq _ (by kernel_rfl) (ER B R c w0 { s with stack:=t } a q ae l _ X aN aw.out (by rcases aG.out with h | ⟨g,I,G,J⟩;exact Or.inl h;exact Or.inr ⟨g,I,b8.trans G,J⟩)) (fun r h=>h.noOut) (fun d r h=>by obtain ⟨fX,z,rfl,Hm⟩:=h.pan;exact ⟨rfl,eP.of_stop (A.trans ((bind_ok _ aZ.out).trans z)) Hm.out⟩) ?_;intro _ eC ah;obtain ⟨u,fX,b3,rfl,Hm3⟩:=ah.ret;clear ah;simp only [fW]))
 all_goals
  go_wp2_with fail
  go_returns
  exact eP.ok (A.trans ((bind_ok _ aZ.out).trans b3.out)) rfl Hm3.out
theorem E1 (B R:Nat) (c:Mc.Cfg) (w0:World) (s:Mc.St) (a b:Int) (w:World) (h:fb B R c w0 w s) :
 Calls prog 182 #[.pointer (some ⟨R,0,none⟩),.agg #[.int .i64 4,.int .i64 a,.int .i64 b]] w (eP B R c w0 (Mc.doI c.mt ⟨4,a,b⟩ s) fW):=by
 have aq:Hid (fb B R c w0 w s):=h;have A:Hid (Mc.doI c.mt ⟨4,a,b⟩ s=(Mc.getL s.data a s).bind Mc.push):=rfl;clear h;obtain ⟨T,v,h⟩:=aq.out;obtain ⟨Y,m,a7, -⟩:=h.dataAt
 have ao:Hid (∀ eq,eX B R c w0 eq T v s->tH eq Y s.data):=fun eq G=>by
  obtain ⟨f,dc',D,a1,_⟩:=G.dataAt;rw [a7,Value.slice.injEq] at D
  rw [D.1];exact a1
 have aX:w.cell? ⟨R,5,none⟩=some (.slice Y (ln s.data) m):=by rw [← a7];exact h.cell.2.2.2.2.2.1
 have ar:=hid h;have ak:=h.ltR;have bC:=h.bda;clear h a7;go_enter func182,ntmps182;go_wp2_with fail
 go_region_law (first
  | (refine ks (by rfl) 222 _ _ (by rfl) en36 _ (by kernel_rfl) (wl B R c w0 s Y m s.data a _ ⟨T,v,(ar.alloc _).drew⟩ (ao _ (ar.alloc _).drew) (by omega)) (fun r h=>h.noOut) (fun d r h=>by obtain ⟨b6,z,rfl,Hm⟩:=h.pan;exact ⟨rfl,eP.of_stop (A.trans (jP _ z)) Hm.out⟩) ?_;intro _ w2 ah;obtain ⟨q,b6,aZ,rfl,Hm2⟩:=ah.ret;clear ah;simp only [intV])
  | (refine ks (by rfl) 221 _ _ (by rfl) en35 _ (by kernel_rfl) (n9 B R c w0 b6 q _ Hm2.out) (fun r h=>h.noOut) (fun d r h=>by obtain ⟨fX,z,rfl,Hm⟩:=h.pan;exact ⟨rfl,eP.of_stop (A.trans ((bind_ok _ aZ.out).trans z)) Hm.out⟩) ?_;intro _ eC ah;obtain ⟨u,fX,b3,rfl,Hm3⟩:=ah.ret;clear ah;simp only [fW]))
 all_goals
  go_wp2_with fail
  go_returns
  exact eP.ok (A.trans ((bind_ok _ aZ.out).trans b3.out)) rfl Hm3.out
theorem E2 (B R:Nat) (c:Mc.Cfg) (w0:World) (s:Mc.St) (a b:Int) (w:World) (h:fb B R c w0 w s) :
 Calls prog 182 #[.pointer (some ⟨R,0,none⟩),.agg #[.int .i64 5,.int .i64 a,.int .i64 b]] w (eP B R c w0 (Mc.doI c.mt ⟨5,a,b⟩ s) fW):=by
 have aq:Hid (fb B R c w0 w s):=h;have A:Hid (Mc.doI c.mt ⟨5,a,b⟩ s=(Mc.pop s).bind fun n s=>Mc.putDa a n s):=rfl;clear h;obtain ⟨T,v,h⟩:=aq.out;obtain ⟨Y,m,a7, -⟩:=h.dataAt;have ae:=hid a7
 have aX:w.cell? ⟨R,5,none⟩=some (.slice Y (ln s.data) m):=by rw [← a7];exact h.cell.2.2.2.2.2.1
 have f:Hid (∀ (q:Int) (K:List Int) (w2:World) (X:Nat->Nat) (aN:Vs),eX B R c w0 w2 X aN { s with stack:=K }->aN.da=v.da->Calls prog 224 #[.pointer (some ⟨R,0,none⟩),.slice Y (ln s.data) m,.int .i64 a,.int .i64 q] w2 (eP B R c w0 (Mc.putDa a q { s with stack:=K }) fW)):=fun q K w2 X aN J e=>by
  have:=zY B R c w0 { s with stack:=K } a q w2 X aN J;rw [e,a7] at this;exact this
 have ar:=hid h;have ak:=h.ltR;clear h a7;go_enter func182,ntmps182;go_wp2_with fail
 go_region_law (first
  | (refine ks (by rfl) 225 _ _ (by rfl) tI _ (by kernel_rfl) (qY B R c w0 s _ T v (ar.alloc _).drew) (fun r h=>h.1.noOut) (fun d r h=>by obtain ⟨b6,z,rfl,Hm⟩:=h.1.pan;exact ⟨rfl,eP.of_stop (A.trans (jP _ z)) Hm.out⟩) ?_;rintro _ w2 ⟨ah,N⟩;obtain ⟨q,b6,aZ,rfl,X,aN,aw,M,hda⟩:=ah.ret;obtain ⟨t,E⟩:=tJ aZ.out;subst E;have aK:=hid hda;have c0:w2.cell? ⟨R,5,none⟩=some (.slice Y (ln s.data) m):=(by rw [← ae.out,← hda];exact aw.out.cell.2.2.2.2.2.1);have aU:w2.cell? ⟨w.heap.size,1,none⟩=some (.int .i64 a):=((World.cell?_of_block (w:=(w.alloc _).drew) (N w.heap.size (by omega))).trans (by simp));clear ah N M hda;simp only [intV])
  | (refine ks (by rfl) 224 _ _ (by rfl) wq _ (by kernel_rfl) (f q t _ X aN aw.out aK) (fun r h=>h.noOut) (fun d r h=>by obtain ⟨fX,z,rfl,Hm⟩:=h.pan;exact ⟨rfl,eP.of_stop (A.trans ((bind_ok _ aZ.out).trans z)) Hm.out⟩) ?_;intro _ eC ah;obtain ⟨u,fX,b3,rfl,Hm3⟩:=ah.ret;clear ah;simp only [fW]))
 all_goals
  go_wp2_with fail
  go_returns
  exact eP.ok (A.trans ((bind_ok _ aZ.out).trans b3.out)) rfl Hm3.out
open Go.RowKit Go.Shelf
theorem E3 (B R:Nat) (c:Mc.Cfg) (w0:World) (s:Mc.St) (a b:Int) (w:World) (h:fb B R c w0 w s) :
 Calls prog 182 #[.pointer (some ⟨R,0,none⟩),.agg #[.int .i64 7,.int .i64 a,.int .i64 b]] w (eP B R c w0 (Mc.doI c.mt ⟨7,a,b⟩ s) fW):=by
 have aq:Hid (fb B R c w0 w s):=h;have A:Hid (Mc.doI c.mt ⟨7,a,b⟩ s=(Mc.pop s).bind fun a s=>(Mc.getL s.data a s).bind Mc.push):=rfl;clear h;obtain ⟨T,v,h⟩:=aq.out;obtain ⟨Y,m,a7, -⟩:=h.dataAt;have ae:=hid a7
 have aX:w.cell? ⟨R,5,none⟩=some (.slice Y (ln s.data) m):=by rw [← a7];exact h.cell.2.2.2.2.2.1
 have bC:=h.bda
 have g:Hid (∀ (q:Int) (K:List Int) (w2:World) (X:Nat->Nat) (aN:Vs),eX B R c w0 w2 X aN { s with stack:=K }->aN.da=v.da->Calls prog 222 #[.pointer (some ⟨R,0,none⟩),.slice Y (ln s.data) m,.int .i64 q] w2 (eP B R c w0 (Mc.getL s.data q { s with stack:=K }) intV)):=fun q K w2 X aN J e=>by
  refine wl B R c w0 { s with stack:=K } Y m s.data q w2 ⟨X,aN,J⟩ ?_ (by omega);obtain ⟨f,dc',D,a1,_⟩:=J.dataAt;rw [e,a7,Value.slice.injEq] at D
  rw [D.1];exact a1
 have ar:=hid h;have ak:=h.ltR;clear h a7;go_enter func182,ntmps182;go_wp2_with fail
 go_region_law (first
  | (refine ks (by rfl) 225 _ _ (by rfl) tI _ (by kernel_rfl) (qY B R c w0 s _ T v (ar.alloc _).drew) (fun r h=>h.1.noOut) (fun d r h=>by obtain ⟨b6,z,rfl,Hm⟩:=h.1.pan;exact ⟨rfl,eP.of_stop (A.trans (jP _ z)) Hm.out⟩) ?_;rintro _ w2 ⟨ah,N⟩;obtain ⟨q,b6,aZ,rfl,X,aN,aw,M,hda⟩:=ah.ret;obtain ⟨t,E⟩:=tJ aZ.out;subst E;have aK:=hid hda;have c0:w2.cell? ⟨R,5,none⟩=some (.slice Y (ln s.data) m):=(by rw [← ae.out,← hda];exact aw.out.cell.2.2.2.2.2.1);clear ah N M hda;simp only [intV])
  | (refine ks (by rfl) 222 _ _ (by rfl) en36 _ (by kernel_rfl) (g q t _ X aN aw.out aK) (fun r h=>h.noOut) (fun d r h=>by obtain ⟨fX,z,rfl,Hm⟩:=h.pan;exact ⟨rfl,eP.of_stop (A.trans ((bind_ok _ aZ.out).trans (jP _ z))) Hm.out⟩) ?_;intro _ eC ah;obtain ⟨o,fX,b3,rfl,Hm3⟩:=ah.ret;clear ah;simp only [intV])
  | (refine ks (by rfl) 221 _ _ (by rfl) en35 _ (by kernel_rfl) (n9 B R c w0 fX o _ Hm3.out) (fun r h=>h.noOut) (fun d r h=>by obtain ⟨bw,z,rfl,Hm⟩:=h.pan;exact ⟨rfl,eP.of_stop (A.trans ((bind_ok _ aZ.out).trans ((bind_ok _ b3.out).trans z))) Hm.out⟩) ?_;intro _ eA ah;obtain ⟨u,bw,b4,rfl,Hm4⟩:=ah.ret;clear ah;simp only [fW]))
 all_goals
  go_wp2_with fail
  go_returns
  exact eP.ok (A.trans ((bind_ok _ aZ.out).trans ((bind_ok _ b3.out).trans b4.out))) rfl Hm4.out
theorem E4 (B R:Nat) (c:Mc.Cfg) (w0:World) (s:Mc.St) (a b:Int) (w:World) (h:fb B R c w0 w s) :
 Calls prog 182 #[.pointer (some ⟨R,0,none⟩),.agg #[.int .i64 8,.int .i64 a,.int .i64 b]] w (eP B R c w0 (Mc.doI c.mt ⟨8,a,b⟩ s) fW):=by
 have aq:Hid (fb B R c w0 w s):=h;have A:Hid (Mc.doI c.mt ⟨8,a,b⟩ s=(Mc.pop s).bind fun n s=>(Mc.pop s).bind fun a s=>Mc.putDa a n s):=rfl;clear h;go_enter func182,ntmps182;go_wp2_with fail;refine (pe B R c w0 s _ (aq.alloc _)).mono ?_;intro e eq ah
 rcases ah.parts with ⟨n,D,z,rfl,Hm⟩ | ⟨D,z,rfl,Hm⟩<;>clear ah<;>simp only [intV]
 . have g:=hid (A.trans (bind_ok _ z))
   clear A z aq;obtain ⟨T,v,h⟩:=Hm.out;obtain ⟨Y,m,a7, -⟩:=h.dataAt;have ae:=hid a7
   have aX:eq.cell? ⟨R,5,none⟩=some (.slice Y (ln D.data) m):=by rw [← a7];exact h.cell.2.2.2.2.2.1
   have f:Hid (∀ (q:Int) (K:List Int) (w2:World) (X:Nat->Nat) (aN:Vs),eX B R c w0 w2 X aN { D with stack:=K }->aN.da=v.da->Calls prog 224 #[.pointer (some ⟨R,0,none⟩),.slice Y (ln D.data) m,.int .i64 q,.int .i64 n] w2 (eP B R c w0 (Mc.putDa q n { D with stack:=K }) fW)):=fun q K w2 X aN J e=>by
    have:=zY B R c w0 { D with stack:=K } q n w2 X aN J;rw [e,a7] at this;exact this
   have ar:=hid h;have ak:=h.ltR;clear h a7;go_wp2_with fail
   go_region_law (first
    | (refine ks (by rfl) 225 _ _ (by rfl) tI _ (by kernel_rfl) (qY B R c w0 D _ T v ar.drew) (fun r h=>h.1.noOut) (fun d r h=>by obtain ⟨b6,z,rfl,Hm⟩:=h.1.pan;exact ⟨rfl,eP.of_stop (g.trans (jP _ z)) Hm.out⟩) ?_;rintro _ w2 ⟨ah,N⟩;obtain ⟨q,b6,aZ,rfl,X,aN,aw,M,hda⟩:=ah.ret;obtain ⟨t,E⟩:=tJ aZ.out;subst E;have aK:=hid hda;have c0:w2.cell? ⟨R,5,none⟩=some (.slice Y (ln D.data) m):=(by rw [← ae.out,← hda];exact aw.out.cell.2.2.2.2.2.1);clear ah N M hda;simp only [intV])
    | (refine ks (by rfl) 224 _ _ (by rfl) wq _ (by kernel_rfl) (f q t _ X aN aw.out aK) (fun r h=>h.noOut) (fun d r h=>by obtain ⟨fX,z,rfl,Hm⟩:=h.pan;exact ⟨rfl,eP.of_stop (g.trans ((bind_ok _ aZ.out).trans z)) Hm.out⟩) ?_;intro _ eC ah;obtain ⟨u,fX,b3,rfl,Hm3⟩:=ah.ret;clear ah;simp only [fW]))
   all_goals
    go_wp2_with fail
    go_returns
    exact eP.ok (g.trans ((bind_ok _ aZ.out).trans b3.out)) rfl Hm3.out
 . go_wp2_with fail
   exact ⟨rfl,eP.of_stop (A.trans (jP _ z)) Hm.out⟩
open Go.RowKit Go.Shelf
theorem E5 (B R:Nat) (c:Mc.Cfg) (w0:World) (s:Mc.St) (a b:Int) (w:World) (h:fb B R c w0 w s) :
 Calls prog 182 #[.pointer (some ⟨R,0,none⟩),.agg #[.int .i64 1,.int .i64 a,.int .i64 b]] w (eP B R c w0 (Mc.doI c.mt ⟨1,a,b⟩ s) fW):=by
 have aq:Hid (fb B R c w0 w s):=h;have A:Hid (Mc.doI c.mt ⟨1,a,b⟩ s=Mc.push a s):=rfl;clear h;go_enter func182,ntmps182;go_wp2_with fail;refine (n9 B R c w0 s a _ (aq.alloc _)).mono ?_;intro e eq ah
 rcases ah.parts with ⟨u,D,z,rfl,Hm⟩ | ⟨D,z,rfl,Hm⟩<;>clear ah<;>simp only [fW]
 . go_wp2_with fail
   go_returns
   exact eP.ok (A.trans z) rfl Hm.out
 . go_wp2_with fail
   exact ⟨rfl,eP.of_stop (A.trans z) Hm.out⟩
theorem E6 (B R:Nat) (c:Mc.Cfg) (w0:World) (s:Mc.St) (a b:Int) (w:World) (h:fb B R c w0 w s) :
 Calls prog 182 #[.pointer (some ⟨R,0,none⟩),.agg #[.int .i64 6,.int .i64 a,.int .i64 b]] w (eP B R c w0 (Mc.doI c.mt ⟨6,a,b⟩ s) fW):=by
 have aq:Hid (fb B R c w0 w s):=h;have A:Hid (Mc.doI c.mt ⟨6,a,b⟩ s=Mc.index a b s):=rfl;clear h;go_enter func182,ntmps182;go_wp2_with fail;refine (ES B R c w0 s a b _ (aq.alloc _)).mono ?_;intro e eq ah
 rcases ah.parts with ⟨u,D,z,rfl,Hm⟩ | ⟨D,z,rfl,Hm⟩<;>clear ah<;>simp only [fW]
 . go_wp2_with fail
   go_returns
   exact eP.ok (A.trans z) rfl Hm.out
 . go_wp2_with fail
   exact ⟨rfl,eP.of_stop (A.trans z) Hm.out⟩
theorem E7 (B R:Nat) (c:Mc.Cfg) (w0:World) (s:Mc.St) (a b:Int) (w:World) (h:fb B R c w0 w s) :
 Calls prog 182 #[.pointer (some ⟨R,0,none⟩),.agg #[.int .i64 10,.int .i64 a,.int .i64 b]] w (eP B R c w0 (Mc.doI c.mt ⟨10,a,b⟩ s) fW):=by
 have aq:Hid (fb B R c w0 w s):=h;have A:Hid (Mc.doI c.mt ⟨10,a,b⟩ s=Mc.math a s):=rfl;clear h;go_enter func182,ntmps182;go_wp2_with fail;refine (ET B R c w0 s a _ (aq.alloc _)).mono ?_;intro e eq ah
 rcases ah.parts with ⟨u,D,z,rfl,Hm⟩ | ⟨D,z,rfl,Hm⟩<;>clear ah<;>simp only [fW]
 . go_wp2_with fail
   go_returns
   exact eP.ok (A.trans z) rfl Hm.out
 . go_wp2_with fail
   exact ⟨rfl,eP.of_stop (A.trans z) Hm.out⟩
theorem E8 (B R:Nat) (c:Mc.Cfg) (w0:World) (s:Mc.St) (a b:Int) (w:World) (h:fb B R c w0 w s) :
 Calls prog 182 #[.pointer (some ⟨R,0,none⟩),.agg #[.int .i64 13,.int .i64 a,.int .i64 b]] w (eP B R c w0 (Mc.doI c.mt ⟨13,a,b⟩ s) fW):=by
 have aq:Hid (fb B R c w0 w s):=h;have A:Hid (Mc.doI c.mt ⟨13,a,b⟩ s=Mc.call c.mt a s):=rfl;clear h;go_enter func182,ntmps182;go_wp2_with fail;refine (EV B R c w0 s a _ (aq.alloc _)).mono ?_;intro e eq ah
 rcases ah.parts with ⟨u,D,z,rfl,Hm⟩ | ⟨D,z,rfl,Hm⟩<;>clear ah<;>simp only [fW]
 . go_wp2_with fail
   go_returns
   exact eP.ok (A.trans z) rfl Hm.out
 . go_wp2_with fail
   exact ⟨rfl,eP.of_stop (A.trans z) Hm.out⟩
theorem E9 (B R:Nat) (c:Mc.Cfg) (w0:World) (s:Mc.St) (a b:Int) (w:World) (h:fb B R c w0 w s) (ab:fit64 a) (F:fit64 b) :
 Calls prog 182 #[.pointer (some ⟨R,0,none⟩),.agg #[.int .i64 14,.int .i64 a,.int .i64 b]] w (eP B R c w0 (Mc.doI c.mt ⟨14,a,b⟩ s) fW):=by
 have aq:Hid (fb B R c w0 w s):=h;have A:Hid (Mc.doI c.mt ⟨14,a,b⟩ s=Mc.enter a b s):=rfl;clear h;go_enter func182,ntmps182;go_wp2_with fail;refine (enter_any B R c w0 s a b _ (aq.alloc _) ab F).mono ?_;intro e eq ah
 rcases ah.parts with ⟨u,D,z,rfl,Hm⟩ | ⟨D,z,rfl,Hm⟩<;>clear ah<;>simp only [fW]
 . go_wp2_with fail
   go_returns
   exact eP.ok (A.trans z) rfl Hm.out
 . go_wp2_with fail
   exact ⟨rfl,eP.of_stop (A.trans z) Hm.out⟩
theorem Fa (B R:Nat) (c:Mc.Cfg) (w0:World) (s:Mc.St) (a b:Int) (w:World) (h:fb B R c w0 w s) :
 Calls prog 182 #[.pointer (some ⟨R,0,none⟩),.agg #[.int .i64 15,.int .i64 a,.int .i64 b]] w (eP B R c w0 (Mc.doI c.mt ⟨15,a,b⟩ s) fW):=by
 have aq:Hid (fb B R c w0 w s):=h;have A:Hid (Mc.doI c.mt ⟨15,a,b⟩ s=Mc.ret s):=rfl;clear h;go_enter func182,ntmps182;go_wp2_with fail;refine (EW B R c w0 s _ (aq.alloc _)).mono ?_;intro e eq ah
 rcases ah.parts with ⟨u,D,z,rfl,Hm⟩ | ⟨D,z,rfl,Hm⟩<;>clear ah<;>simp only [fW]
 . go_wp2_with fail
   go_returns
   exact eP.ok (A.trans z) rfl Hm.out
 . go_wp2_with fail
   exact ⟨rfl,eP.of_stop (A.trans z) Hm.out⟩
theorem Fb (B R:Nat) (c:Mc.Cfg) (w0:World) (s:Mc.St) (a b:Int) (w:World) (h:fb B R c w0 w s) :
 Calls prog 182 #[.pointer (some ⟨R,0,none⟩),.agg #[.int .i64 16,.int .i64 a,.int .i64 b]] w (eP B R c w0 (Mc.doI c.mt ⟨16,a,b⟩ s) fW):=by
 have aq:Hid (fb B R c w0 w s):=h;have A:Hid (Mc.doI c.mt ⟨16,a,b⟩ s=Mc.tick c.mt s):=rfl;clear h;go_enter func182,ntmps182;go_wp2_with fail;refine (tick_any B R c w0 s _ (aq.alloc _)).mono ?_;intro e eq ah
 rcases ah.parts with ⟨u,D,z,rfl,Hm⟩ | ⟨D,z,rfl,Hm⟩<;>clear ah<;>simp only [fW]
 . go_wp2_with fail
   go_returns
   exact eP.ok (A.trans z) rfl Hm.out
 . go_wp2_with fail
   exact ⟨rfl,eP.of_stop (A.trans z) Hm.out⟩
theorem Fd (B R:Nat) (c:Mc.Cfg) (w0:World) (s:Mc.St) (a b:Int) (w:World) (h:fb B R c w0 w s) :
 Calls prog 182 #[.pointer (some ⟨R,0,none⟩),.agg #[.int .i64 9,.int .i64 a,.int .i64 b]] w (eP B R c w0 (Mc.doI c.mt ⟨9,a,b⟩ s) fW):=by
 have aq:Hid (fb B R c w0 w s):=h;have A:Hid (Mc.doI c.mt ⟨9,a,b⟩ s=(Mc.pop s).bind fun n s=>Mc.push (Mc.truth (n == 0)) s):=rfl;clear h;go_enter func182,ntmps182;go_wp2_with fail;refine (pe B R c w0 s _ (aq.alloc _)).mono ?_;intro e eq ah
 rcases ah.parts with ⟨q,D,z,rfl,Hm⟩ | ⟨D,z,rfl,Hm⟩<;>clear ah<;>simp only [intV]
 . have g:=hid (A.trans (bind_ok _ z))
   clear A z;go_wp2_with fail;refine (tC _ _).mono ?_;rintro e r ⟨rfl,rfl⟩;go_wp2_with fail;refine (n9 B R c w0 D _ _ Hm.out).mono ?_;intro e w2 ah
   rcases ah.parts with ⟨u,b6,z,rfl,Hm2⟩ | ⟨b6,z,rfl,Hm2⟩<;>clear ah<;>simp only [fW]
   . go_wp2_with fail
     go_returns
     exact eP.ok (g.trans z) rfl Hm2.out
   . go_wp2_with fail
     exact ⟨rfl,eP.of_stop (g.trans z) Hm2.out⟩
 . go_wp2_with fail
   exact ⟨rfl,eP.of_stop (A.trans (jP _ z)) Hm.out⟩
theorem Fe (B R:Nat) (c:Mc.Cfg) (w0:World) (s:Mc.St) (a b:Int) (w:World) (h:fb B R c w0 w s) :
 Calls prog 182 #[.pointer (some ⟨R,0,none⟩),.agg #[.int .i64 22,.int .i64 a,.int .i64 b]] w (eP B R c w0 (Mc.doI c.mt ⟨22,a,b⟩ s) fW):=by
 have aq:Hid (fb B R c w0 w s):=h;have A:Hid (Mc.doI c.mt ⟨22,a,b⟩ s=(Mc.pop s).bind fun n s=>Mc.push (Mc.truth (n != 0)) s):=rfl;clear h;go_enter func182,ntmps182;go_wp2_with fail;refine (pe B R c w0 s _ (aq.alloc _)).mono ?_;intro e eq ah
 rcases ah.parts with ⟨q,D,z,rfl,Hm⟩ | ⟨D,z,rfl,Hm⟩<;>clear ah<;>simp only [intV]
 . have g:=hid (A.trans (bind_ok _ z))
   clear A z;go_wp2_with fail;refine (tC _ _).mono ?_;rintro e r ⟨rfl,rfl⟩;go_wp2_with fail;refine (n9 B R c w0 D _ _ Hm.out).mono ?_;intro e w2 ah
   rcases ah.parts with ⟨u,b6,z,rfl,Hm2⟩ | ⟨b6,z,rfl,Hm2⟩<;>clear ah<;>simp only [fW]
   . go_wp2_with fail
     go_returns
     exact eP.ok (g.trans z) rfl Hm2.out
   . go_wp2_with fail
     exact ⟨rfl,eP.of_stop (g.trans z) Hm2.out⟩
 . go_wp2_with fail
   exact ⟨rfl,eP.of_stop (A.trans (jP _ z)) Hm.out⟩
theorem Ff (B R:Nat) (c:Mc.Cfg) (w0:World) (s:Mc.St) (a b:Int) (w:World) (h:fb B R c w0 w s) :
 Calls prog 182 #[.pointer (some ⟨R,0,none⟩),.agg #[.int .i64 18,.int .i64 a,.int .i64 b]] w (eP B R c w0 (Mc.doI c.mt ⟨18,a,b⟩ s) fW):=by
 have aq:Hid (fb B R c w0 w s):=h;have A:Hid (Mc.doI c.mt ⟨18,a,b⟩ s=(Mc.next s).bind Mc.push):=rfl;clear h;go_enter func182,ntmps182;go_wp2_with fail;refine (next_any B R c w0 s _ (aq.alloc _)).mono ?_;intro e eq ah
 rcases ah.parts with ⟨q,D,z,rfl,Hm⟩ | ⟨D,z,rfl,Hm⟩<;>clear ah<;>simp only [intV]
 . have g:=hid (A.trans (bind_ok _ z))
   clear A z;go_wp2_with fail;refine (n9 B R c w0 D _ _ Hm.out).mono ?_;intro e w2 ah
   rcases ah.parts with ⟨u,b6,z,rfl,Hm2⟩ | ⟨b6,z,rfl,Hm2⟩<;>clear ah<;>simp only [fW]
   . go_wp2_with fail
     go_returns
     exact eP.ok (g.trans z) rfl Hm2.out
   . go_wp2_with fail
     exact ⟨rfl,eP.of_stop (g.trans z) Hm2.out⟩
 . go_wp2_with fail
   exact ⟨rfl,eP.of_stop (A.trans (jP _ z)) Hm.out⟩
theorem Fg (B R:Nat) (c:Mc.Cfg) (w0:World) (s:Mc.St) (a b:Int) (w:World) (h:fb B R c w0 w s) :
 Calls prog 182 #[.pointer (some ⟨R,0,none⟩),.agg #[.int .i64 19,.int .i64 a,.int .i64 b]] w (eP B R c w0 (Mc.doI c.mt ⟨19,a,b⟩ s) fW):=by
 have aq:Hid (fb B R c w0 w s):=h;have A:Hid (Mc.doI c.mt ⟨19,a,b⟩ s=(Mc.pop s).bind Mc.tell):=rfl;clear h;go_enter func182,ntmps182;go_wp2_with fail;refine (pe B R c w0 s _ (aq.alloc _)).mono ?_;intro e eq ah
 rcases ah.parts with ⟨q,D,z,rfl,Hm⟩ | ⟨D,z,rfl,Hm⟩<;>clear ah<;>simp only [intV]
 . have g:=hid (A.trans (bind_ok _ z))
   clear A z;go_wp2_with fail;refine (tell_any B R c w0 D _ _ Hm.out).mono ?_;intro e w2 ah
   rcases ah.parts with ⟨u,b6,z,rfl,Hm2⟩ | ⟨b6,z,rfl,Hm2⟩<;>clear ah<;>simp only [fW]
   . go_wp2_with fail
     go_returns
     exact eP.ok (g.trans z) rfl Hm2.out
   . go_wp2_with fail
     exact ⟨rfl,eP.of_stop (g.trans z) Hm2.out⟩
 . go_wp2_with fail
   exact ⟨rfl,eP.of_stop (A.trans (jP _ z)) Hm.out⟩
theorem Fh (B R:Nat) (c:Mc.Cfg) (w0:World) (s:Mc.St) (a b:Int) (w:World) (h:fb B R c w0 w s) :
 Calls prog 182 #[.pointer (some ⟨R,0,none⟩),.agg #[.int .i64 17,.int .i64 a,.int .i64 b]] w (eP B R c w0 (Mc.doI c.mt ⟨17,a,b⟩ s) fW):=by
 have aq:Hid (fb B R c w0 w s):=h;have A:Hid (Mc.doI c.mt ⟨17,a,b⟩ s=(Mc.pop s).bind fun _ s=>.ok () s):=rfl;clear h;go_enter func182,ntmps182;go_wp2_with fail;refine (pe B R c w0 s _ (aq.alloc _)).mono ?_;intro e eq ah
 rcases ah.parts with ⟨q,D,z,rfl,Hm⟩ | ⟨D,z,rfl,Hm⟩<;>clear ah<;>simp only [intV]
 . go_wp2_with fail
   go_returns
   exact eP.ok (A.trans (bind_ok _ z)) rfl Hm.out
 . go_wp2_with fail
   exact ⟨rfl,eP.of_stop (A.trans (jP _ z)) Hm.out⟩
theorem fb.pc (h:fb B R c w0 w s) (e:Int):fb B R c w0 (w.setCell ⟨R,1,none⟩ (.int .i64 e)) { s with pc:=e }:=by
 obtain ⟨T,v,h⟩:=h;exact ⟨T,v,h.setPc e⟩
theorem fb.cell1 (h:fb B R c w0 w s):w.cell? ⟨R,1,none⟩=some (.int .i64 s.pc)/\w.frozen? ⟨R,1,none⟩=false/\R<w.heap.size:=by
 obtain ⟨T,v,h⟩:=h;exact ⟨h.cell.2.1,h.cell.2.2.2.2.2.2.2.2.2.2.2.2.2 1,h.ltR⟩
theorem Fi (B R:Nat) (c:Mc.Cfg) (w0:World) (s:Mc.St) (a b:Int) (w:World) (h:fb B R c w0 w s) :
 Calls prog 182 #[.pointer (some ⟨R,0,none⟩),.agg #[.int .i64 11,.int .i64 a,.int .i64 b]] w (eP B R c w0 (Mc.doI c.mt ⟨11,a,b⟩ s) fW):=by
 have aq:Hid (fb B R c w0 w s):=h;have A:Hid (Mc.doI c.mt ⟨11,a,b⟩ s = .ok () { s with pc:=a }):=rfl;obtain ⟨a9,bk,a2⟩:=h.cell1;clear h;go_enter func182,ntmps182;go_wp2_with fail
 go_returns
 exact eP.ok A rfl ((aq.pc a).alloc _)
theorem Fj (B R:Nat) (c:Mc.Cfg) (w0:World) (s:Mc.St) (a b:Int) (w:World) (h:fb B R c w0 w s) :
 Calls prog 182 #[.pointer (some ⟨R,0,none⟩),.agg #[.int .i64 12,.int .i64 a,.int .i64 b]] w (eP B R c w0 (Mc.doI c.mt ⟨12,a,b⟩ s) fW):=by
 have aq:Hid (fb B R c w0 w s):=h;have A:Hid (Mc.doI c.mt ⟨12,a,b⟩ s=(Mc.pop s).bind fun n s=>.ok () (if n=0 then { s with pc:=a } else s)):=rfl;have ak:=h.get.2.2;clear h;obtain ⟨T,v,h⟩:=aq.out;have ar:=hid h;clear h;go_enter func182,ntmps182;go_wp2_with fail;refine (qY B R c w0 s _ T v (ar.alloc _)).mono ?_;rintro e eq ⟨ah,N⟩
 have aL:eq.cell? ⟨w.heap.size,1,none⟩=some (.int .i64 a):=((World.cell?_of_block (w:=w.alloc _) (N w.heap.size (by omega))).trans (by simp))
 rcases ah.plain.parts with ⟨q,D,z,rfl,Hm⟩ | ⟨D,z,rfl,Hm⟩<;>clear ah N<;>simp only [intV]
 . have g:=hid (A.trans (bind_ok _ z))
   clear A z;obtain ⟨a9,bk,a2⟩:=Hm.out.cell1
   by_cases Q:q=0
   . have O:Hid (Mc.doI c.mt ⟨12,a,b⟩ s = .ok () { D with pc:=a }):=by
      have:=g.out;rw [if_pos Q] at this;exact this
     subst Q;clear g;go_wp2_with fail
     go_returns
     exact eP.ok O rfl (Hm.out.pc a)
   . have O:Hid (Mc.doI c.mt ⟨12,a,b⟩ s = .ok () D):=by
      have:=g.out;rw [if_neg Q] at this;exact this
     have a3:(q == 0)=false:=beq_eq_false_iff_ne.2 Q;clear g Q;go_wp2_with fail
     go_returns
     exact eP.ok O rfl Hm.out
 . go_wp2_with fail
   exact ⟨rfl,eP.of_stop (A.trans (jP _ z)) Hm.out⟩
theorem Fk (B R:Nat) (c:Mc.Cfg) (w0:World) (s:Mc.St) (a b:Int) (w:World) (h:fb B R c w0 w s) :
 Calls prog 182 #[.pointer (some ⟨R,0,none⟩),.agg #[.int .i64 20,.int .i64 a,.int .i64 b]] w (eP B R c w0 (Mc.doI c.mt ⟨20,a,b⟩ s) fW):=by
 have aq:Hid (fb B R c w0 w s):=h;have A:Hid (Mc.doI c.mt ⟨20,a,b⟩ s = .stop { s with en:=0 }):=rfl;clear h;go_enter func182,ntmps182;go_wp2_with fail;refine (sj 0 _ (aq.alloc _)).mono ?_;rintro e w2 ⟨rfl,a8⟩;go_wp2_with fail;exact ⟨rfl,eP.stop A rfl a8⟩
theorem Fl (B R:Nat) (c:Mc.Cfg) (w0:World) (s:Mc.St) (a b:Int) (w:World) (h:fb B R c w0 w s) :
 Calls prog 182 #[.pointer (some ⟨R,0,none⟩),.agg #[.int .i64 21,.int .i64 a,.int .i64 b]] w (eP B R c w0 (Mc.doI c.mt ⟨21,a,b⟩ s) fW):=by
 have aq:Hid (fb B R c w0 w s):=h;have A:Hid (Mc.doI c.mt ⟨21,a,b⟩ s = .ok () s):=rfl;clear h;go_enter func182,ntmps182;go_wp2_with fail
 go_returns
 exact eP.ok A rfl (aq.alloc _)
end Mx
end Go.Proofs.YtndkhgakfodldaaGreatDoor
