import Derived.Test.YtndkhgakfodldaaGreatDoorMxApp
import Derived.Shelf.Abstract
import Derived.Test.YtndkhgakfodldaaGreatDoorMxOpv
namespace Go.Proofs.YtndkhgakfodldaaGreatDoor
set_option maxRecDepth 100000
set_option maxHeartbeats 1600000
namespace Mx
open Go.RowKit Go.Shelf
section
variable {P:Program} {ops:Array Oper} {o:Oper} {a:Act} {w:World} {K:Act->World->Prop} {Q:Exit->Act->World->Prop} {E:Prop}
theorem run_call1 (f:FuncId) (x:Operand) (ty:TypeId) (ho:o.op = .call { callee:=.value (.func f),args:=#[x],argTypes:=#[ty] })
 (C7:Enters P f) (v:Value) (hx:a.eval x=v):(execOp a.eval o).run P w = .ok (.enter f #[v]) w:=by
 have h:=C7 #[v] w;have hf:a.eval (.func f) = .func (.func f) #[] #[]:=rfl;simp [execOp,ho,resolve,invoke,hx,hf,h,Deferred.ofValue]
theorem step_call1 (BC:o.guard=none) (f:FuncId) (x:Operand) (ty:TypeId) (ho:o.op = .call { callee:=.value (.func f),args:=#[x],argTypes:=#[ty] })
 (C7:Enters P f) (v:Value) (hx:a.eval x=v) (u:Value) {R:World->Prop} (hC:Calls P f #[v] w fun e w'=>e = .returned u/\R w')
 (h:∀ w',R w'->K (a.put o.dst u) w'):if Region.wanted o (yielded ops a.tmps)=true then Oper.wp P o a w K Q else E:=by
 have hw:Region.wanted o (yielded ops a.tmps)=true:=by simp [Region.wanted,BC]
 rw [if_pos hw];unfold Oper.wp;rw [run_call1 f x ty ho C7 v hx,Oper.upon_enter];refine hC.mono ?_;rintro e w' ⟨rfl,hR⟩;exact h w' hR
end
theorem z7n:Enters Tryz.prog 276:=enters_of Tryz.func276 (by kernel_rfl) rfl
theorem z9e:Tryz.prog.underlying 3=some (.int .i64):=Tryz.underlying3
theorem MAt.setLo' {B R:Nat} {c:Mc.Cfg} {w0 w w2:World} {T:Nat->Nat} {v:Vs} {s:Mc.St} {la a':Option Addr} {m B3 n' cap':Nat} {l:List Int} {xs':List Value} (h:MAt B R c w0 w T v s) {N:Nat} (hv:v.lo = .slice la N B3)
 (hG:Grew w w2 B 3 1 (.slice la m B3) a' n' cap' xs') (hn:n'=(flat s.gs++l).length) (PP:xs'=ints (flat s.gs++l)) (hl:l.length<=2048) :
 MAt B R c w0 (w2.setCell ⟨R,3,none⟩ (.slice a' n' cap')) (zfh w T 3) { v with lo:=.slice a' n' cap' } { s with lo:=l }:=by
 have e:v.lo.ownBlock=Value.ownBlock (.slice la m B3):=by rw [hv];cases la<;>rfl
 subst hn;subst PP
 exact h.setLo (by rw [e];exact hG.grown) hG.own (fun k hk A0=>by rw [e];exact hG.lies k hk A0) hl
theorem MAt.farLo {B R:Nat} {c:Mc.Cfg} {w0 w w2:World} {T:Nat->Nat} {v:Vs} {s:Mc.St} {la a':Option Addr} {m B3 n' cap' N:Nat} {xs':List Value} (h:MAt B R c w0 w T v s) (hv:v.lo = .slice la N B3)
 (hG:Grew w w2 B 3 1 (.slice la m B3) a' n' cap' xs'):(∀ j,w2.cell? ⟨R,j,none⟩=w.cell? ⟨R,j,none⟩)/\(∀ j,w2.frozen? ⟨R,j,none⟩=false)/\R<w2.heap.size:=by
 have e:v.lo.ownBlock=Value.ownBlock (.slice la m B3):=by rw [hv];cases la<;>rfl
 exact h.far (fun k hk=>h.lo.mark k (by rw [e];exact hk)) (by decide) hG.grown
theorem z0c (B R:Nat) (c:Mc.Cfg) (w0:World) (s:Mc.St) (ka kb:Nat) (w:World) (h:Mch B R c w0 w s) (E4:ka+kb<=2048) (Ee:ka<=s.stack.length) :
 Calls Tryz.prog 230 #[.pointer (some ⟨R,0,none⟩),.int .i64 ka,.int .i64 kb] w fun e w'=>e = .returned (.tuple #[])/\Mch B R c w0 w' { s with lo:=s.stack.drop (s.stack.length - ka)++List.replicate kb 0,stack:=s.stack.take (s.stack.length - ka) }:=by
 obtain ⟨i0,hi,Bs,Ao,AA⟩:=info_parts z3m;obtain ⟨T,⟨cv,st,lo,fr,da,iv,ou⟩,h⟩:=h;obtain ⟨la,B3,hv,hlcap,hlmax⟩:=h.lo.form;simp only at hv;subst hv
 obtain ⟨r,hr⟩:∃ r,s.stack.length=r+ka:=⟨s.stack.length - ka,by omega⟩
 have O3:s.stack.length - ka=r:=by omega
 rw [O3];have KH:=h.locals_le;have A5:=h.bst;have Bk:=h.ltR;have Eg:=znm s.gs h.bfr
 have Fp:(flat s.gs).length<=(flat s.gs++s.lo).length:=by rw [List.length_append];omega
 have GN:(s.stack.drop r).length=ka:=by rw [List.length_drop];omega
 obtain ⟨sa,scap,hv,hscap,hsmax⟩:=h.st.form;simp only at hv;subst hv;have HA:Hid (MAt B R c w0 w T ⟨cv,.slice sa s.stack.length scap,.slice la (flat s.gs++s.lo).length B3,fr,da,iv,ou⟩ s):=h
 have HT:Hid (∀ w,MAt B R c w0 w T ⟨cv,.slice sa s.stack.length scap,.slice la (flat s.gs++s.lo).length B3,fr,da,iv,ou⟩ s->Calls Tryz.prog 276 #[.pointer (some ⟨R,0,none⟩)] w fun e w'=>e = .returned (.agg #[.int .i64 ((flat s.gs).length:Nat),.int .i64 s.bk])/\Below w.heap.size w w'):=fun w h=>zq9 B R c w0 s w T _ h
 have HF:Hid (∀ (w1:World) (xa:Option Addr) (xc:Nat) (ty:TypeId),MAt B R c w0 w1 T ⟨cv,.slice sa s.stack.length scap,.slice la (flat s.gs++s.lo).length B3,fr,da,iv,ou⟩ s->((xa=none/\ka=0)\/(ka=0/\∃ g,xa=some ⟨g,0,none⟩)\/∃ g,sa=some ⟨g,0,none⟩/\xa=some ⟨g,r,none⟩)->
  ∃ a' cap' w',(Builtin.append_ #[49,49] ty #[.slice la (flat s.gs).length B3,.slice xa ka xc]).run Tryz.prog w1 = .ok (.slice a' ((flat s.gs).length+ka) cap') w'/\Grew w1 w' B 3 1 (.slice la (flat s.gs).length B3) a' ((flat s.gs).length+ka) cap' (ints (flat s.gs)++ints (s.stack.drop r))):=fun w1 xa xc ty hm hx=>by
  have hcut:=(hm.lo.cut (m:=(flat s.gs).length) Fp rfl).own;rw [Nat.mul_one,zg4,List.take_left] at hcut;refine zjw w1 B 49 ty 3 i0 _ 1 8 Tryz.underlying49 hi Bs Ao AA rfl (by omega) _ _ _ hcut xa ka xc (ints (s.stack.drop r)) (by rw [zce,GN,Nat.mul_one]) ?_ (zs5 _) (by unfold maxLen;omega) (by omega) hm.hB
  rcases hx with hx | ⟨hk,g,hx⟩ | ⟨g,hs,hx⟩
  . exact Or.inl hx
  . refine Or.inr ⟨_,hx,fun j u hj=>?_⟩
    rw [List.eq_nil_of_length_eq_zero (GN.trans hk)] at hj;simp [ints] at hj
  . refine Or.inr ⟨_,hx,fun j u hj=>?_⟩
    have Ai:0<s.stack.length:=by
     have:j<(ints (s.stack.drop r)).length:=by
      rcases Nat.lt_or_ge j (ints (s.stack.drop r)).length with h | h
      . exact h
      . rw [List.getElem?_eq_none h] at hj;cases hj
     rw [zce,List.length_drop] at this;omega
    obtain ⟨g',cap',DU,_,_,_,_,_,_,hcell⟩:=hm.st.place Ai;simp only [hs,Value.slice.injEq] at DU
    have hg:g=g':=by simpa using DU.1
    subst hg
    have:=hcell (r+j) u (by
     rw [← hj]
     simp [ints,List.getElem?_drop])
    rw [show (⟨g,r,none⟩:Addr).add j=⟨g,r+j,none⟩ from by unfold Addr.add;split<;>simp_all];exact this
 have HZ:Hid (∀ (w1:World) (T':Nat->Nat) (v':Vs) (a':Option Addr) (cap':Nat) (ty:TypeId),MAt B R c w0 w1 T' v' { s with lo:=s.stack.drop r }->v'.lo = .slice a' ((flat s.gs).length+ka) cap'->
  ∃ a2 Bb w',(Builtin.append_ #[49,3] ty #[.slice a' ((flat s.gs).length+ka) cap',.int .i64 kb]).run Tryz.prog w1 = .ok (.slice a2 ((flat s.gs).length+ka+kb) Bb) w'/\Grew w1 w' B 3 1 (.slice a' ((flat s.gs).length+ka) cap') a2 ((flat s.gs).length+ka+kb) Bb (ints (flat s.gs++s.stack.drop r)++ints (List.replicate kb 0))):=fun w1 T' v' a' cap' ty hm hv=>by
  have ho:=hm.lo.own;rw [hv] at ho;simp only [List.length_append,GN] at ho;exact ziz w1 B 49 3 ty 3 i0 .i64 Tryz.underlying49 z9e hi Bs Ao AA _ _ _ ho kb (by omega) hm.hB
 obtain ⟨-, -,c2,c3, -, -, -, -, -, -, -, -, -,hf⟩:=h.cell;simp only at c2 c3;rw [hr] at c2 hscap
 have HS:Hid (sa=none/\r=0/\ka=0/\scap=0\/∃ g,sa=some ⟨g,0,none⟩):=by
  rcases h.st.own.2 with ⟨h1,h2⟩ | ⟨g,cap',AC,h1,_⟩
  . simp only [Value.slice.injEq] at h1
    exact Or.inl ⟨h1.1,by omega,by omega,h1.2.2⟩
  . simp only [Value.slice.injEq] at h1
    exact Or.inr ⟨g,h1.1⟩
 unfold maxLen at hlmax hsmax;have Mh:=z5v;have HR:=hid hr;have HD:=hid GN;clear h hr O3 GN Eg Ee;generalize hm:(flat s.gs).length=m at *;have Lh:=hid hm;generalize hN:(flat s.gs++s.lo).length=N at *;have HN:=hid hN;clear hm hN
 have SU:m<=B3:=by omega
 have PX:(r:Int)<=(r:Int)+(ka:Int):=by omega
 have HL:Hid (∀ w1,Below w.drew.heap.size w.drew w1->∀ a' cap' w2,Grew w1 w2 B 3 1 (.slice la m B3) a' (m+ka) cap' (ints (flat s.gs)++ints (s.stack.drop r))->
  w2.cell? ⟨R,2,none⟩=some (.slice sa (r+ka) scap)/\w2.cell? ⟨R,3,none⟩=some (.slice la N B3)/\w2.frozen? ⟨R,2,none⟩=false/\w2.frozen? ⟨R,3,none⟩=false/\R<w2.heap.size/\
  Hid (MAt B R c w0 (w2.setCell ⟨R,3,none⟩ (.slice a' (m+ka) cap')) (zfh w1 T 3) ⟨cv,.slice sa s.stack.length scap,.slice a' (m+ka) cap',fr,da,iv,ou⟩ { s with lo:=s.stack.drop r })):=by
  intro w1 hb a' cap' w2 hG;have h1:=HA.out.drew.later hb HA.out.hB;obtain ⟨f1,f2,f3⟩:=h1.farLo rfl hG;exact ⟨(f1 2).trans ((hb.cell (p:=⟨R,2,none⟩) Bk).trans c2),(f1 3).trans ((hb.cell (p:=⟨R,3,none⟩) Bk).trans c3),f2 2,f2 3,f3,h1.setLo' (l:=s.stack.drop r) rfl hG (by rw [List.length_append,Lh.out,HD.out]) (by rw [zjx]) (by rw [HD.out];omega)⟩
 have HQ:Hid (∀ (a':Option Addr) (cap':Nat) (T':Nat->Nat) (W:World),MAt B R c w0 W T' ⟨cv,.slice sa s.stack.length scap,.slice a' (m+ka) cap',fr,da,iv,ou⟩ { s with lo:=s.stack.drop r }->∀ a2 Bb w4,Grew W w4 B 3 1 (.slice a' (m+ka) cap') a2 (m+ka+kb) Bb (ints (flat s.gs++s.stack.drop r)++ints (List.replicate kb 0))->
  w4.cell? ⟨R,2,none⟩=some (.slice sa (r+ka) scap)/\w4.cell? ⟨R,3,none⟩=some (.slice a' (m+ka) cap')/\w4.frozen? ⟨R,2,none⟩=false/\w4.frozen? ⟨R,3,none⟩=false/\R<w4.heap.size/\
  Hid (Mch B R c w0 ((w4.setCell ⟨R,3,none⟩ (.slice a2 (m+ka+kb) Bb)).setCell ⟨R,2,none⟩ (.slice sa r scap)) { s with lo:=s.stack.drop r++List.replicate kb 0,stack:=s.stack.take r })):=by
  intro a' cap' T' W hM a2 Bb w4 hG;obtain ⟨f1,f2,f3⟩:=hM.farLo rfl hG;have h3:=hM.setLo' (l:=s.stack.drop r++List.replicate kb 0) rfl hG (by simp only [List.length_append,Lh.out,HD.out,List.length_replicate];omega) (by rw [← zjx,List.append_assoc]) (by rw [List.length_append,HD.out,List.length_replicate];omega)
  have hl:(s.stack.take r).length=r:=by rw [List.length_take,HR.out];omega
  refine ⟨by rw [f1 2,hM.cell.2.2.1,HR.out],(f1 3).trans hM.cell.2.2.2.1,f2 2,f2 3,f3,_,_,h3.setSt (x:=.slice sa r scap) (l:=s.stack.take r) (grown_refl _ _) ?_ (fun k hk _=>?_) (by have:=A5;rw [HR.out] at this;rw [hl];omega)⟩
  . have:=(h3.st.cut (m:=r) (by show r<=s.stack.length;rw [HR.out];omega) rfl).own
    rw [Nat.mul_one,zg4] at this;rw [hl];exact this
  . exact (show Value.ownBlock (.slice sa s.stack.length scap)=Value.ownBlock (.slice sa r scap) from by cases sa<;>rfl).trans hk
 rcases HS.out with ⟨rfl,rfl,rfl,rfl⟩ | ⟨g,rfl⟩<;>clear HS
 . skip
   have Be:=hid (fun w1 h=>HF.out w1 (none) (0) 49 h (Or.inl ⟨rfl,rfl⟩));clear HF;go_enter Tryz.func230,Tryz.ntmps230;go_wp2_with fail;refine (zbx _ _ _ (by first | (simp;done) | (simp;omega))).mono ?_;rintro e w' ⟨rfl,rfl⟩;go_wp2_with fail;refine (zbx _ _ _ (by first | (simp;done) | (simp;omega))).mono ?_;rintro e w' ⟨rfl,rfl⟩;go_wp2_with fail
   go_region_law (first
    | (refine zel (by rfl) _ _ _ _ (by rfl) _ _ (by rfl) (by rfl) (Be.out _ (HA.out.drew.later hb HA.out.hB)) ?_;intro a' cap' w2 hG;obtain ⟨g2,g3,g4,g5,g6,C3⟩:=HL.out w1 hb a' cap' w2 hG;clear hG)
    | (refine step_call1 (by rfl) 276 _ _ (by rfl) z7n _ (by kernel_rfl) _ (HT.out _ HA.out.drew) ?_;intro w1 hb;have d2:=(hb.cell (p:=⟨R,2,none⟩) Bk).trans c2;have d3:=(hb.cell (p:=⟨R,3,none⟩) Bk).trans c3))
   all_goals
    go_wp2_with (at_builtin;refine zdq rfl _ _ _ _ rfl _ _ rfl rfl (HZ.out _ _ _ a' cap' _ C3.out rfl) ?_;intro a2 Bb w4 hG;obtain ⟨k2,k3,k4,k5,k6,EP⟩:=HQ.out _ _ _ _ C3.out _ _ _ hG;clear hG)
    go_returns
    exact ⟨rfl,EP.out⟩
 rcases Nat.lt_or_ge r scap with PY | PY
 . have Aj:¬ scap=r:=by omega
   have Be:=hid (fun w1 h=>HF.out w1 (some ⟨g,r,none⟩) (scap - r) 49 h (Or.inr (Or.inr ⟨g,rfl,rfl⟩)));clear HF;go_enter Tryz.func230,Tryz.ntmps230;go_wp2_with fail;refine (zbx _ _ _ (by first | (simp;done) | (simp;omega))).mono ?_;rintro e w' ⟨rfl,rfl⟩;go_wp2_with fail;refine (zbx _ _ _ (by first | (simp;done) | (simp;omega))).mono ?_;rintro e w' ⟨rfl,rfl⟩;go_wp2_with fail
   go_region_law (first
    | (refine zel (by rfl) _ _ _ _ (by rfl) _ _ (by rfl) (by rfl) (Be.out _ (HA.out.drew.later hb HA.out.hB)) ?_;intro a' cap' w2 hG;obtain ⟨g2,g3,g4,g5,g6,C3⟩:=HL.out w1 hb a' cap' w2 hG;clear hG)
    | (refine step_call1 (by rfl) 276 _ _ (by rfl) z7n _ (by kernel_rfl) _ (HT.out _ HA.out.drew) ?_;intro w1 hb;have d2:=(hb.cell (p:=⟨R,2,none⟩) Bk).trans c2;have d3:=(hb.cell (p:=⟨R,3,none⟩) Bk).trans c3))
   all_goals
    go_wp2_with (at_builtin;refine zdq rfl _ _ _ _ rfl _ _ rfl rfl (HZ.out _ _ _ a' cap' _ C3.out rfl) ?_;intro a2 Bb w4 hG;obtain ⟨k2,k3,k4,k5,k6,EP⟩:=HQ.out _ _ _ _ C3.out _ _ _ hG;clear hG)
    go_returns
    exact ⟨rfl,EP.out⟩
 . obtain rfl:ka=0:=by omega
   obtain rfl:scap=r:=by omega
   have Be:=hid (fun w1 h=>HF.out w1 (some ⟨g,0,none⟩) (0) 49 h (Or.inr (Or.inl ⟨rfl,g,rfl⟩)));clear HF;go_enter Tryz.func230,Tryz.ntmps230;go_wp2_with fail;refine (zbx _ _ _ (by first | (simp;done) | (simp;omega))).mono ?_;rintro e w' ⟨rfl,rfl⟩;go_wp2_with fail;refine (zbx _ _ _ (by first | (simp;done) | (simp;omega))).mono ?_;rintro e w' ⟨rfl,rfl⟩;go_wp2_with fail
   go_region_law (first
    | (refine zel (by rfl) _ _ _ _ (by rfl) _ _ (by rfl) (by rfl) (Be.out _ (HA.out.drew.later hb HA.out.hB)) ?_;intro a' cap' w2 hG;obtain ⟨g2,g3,g4,g5,g6,C3⟩:=HL.out w1 hb a' cap' w2 hG;clear hG)
    | (refine step_call1 (by rfl) 276 _ _ (by rfl) z7n _ (by kernel_rfl) _ (HT.out _ HA.out.drew) ?_;intro w1 hb;have d2:=(hb.cell (p:=⟨R,2,none⟩) Bk).trans c2;have d3:=(hb.cell (p:=⟨R,3,none⟩) Bk).trans c3))
   all_goals
    go_wp2_with (at_builtin;refine zdq rfl _ _ _ _ rfl _ _ rfl rfl (HZ.out _ _ _ a' cap' _ C3.out rfl) ?_;intro a2 Bb w4 hG;obtain ⟨k2,k3,k4,k5,k6,EP⟩:=HQ.out _ _ _ _ C3.out _ _ _ hG;clear hG)
    go_returns
    exact ⟨rfl,EP.out⟩
end Mx
set_option maxHeartbeats 400000
namespace Mx
open Go.RowKit Go.Shelf
theorem enter_any (B R:Nat) (c:Mc.Cfg) (w0:World) (s:Mc.St) (a b:Int) (w:World) (h:Mch B R c w0 w s) (ha:fit64 a) (hb:fit64 b) :
 Calls Tryz.prog 230 #[.pointer (some ⟨R,0,none⟩),.int .i64 a,.int .i64 b] w (zap B R c w0 (Mc.enter a b s) za3):=by
 obtain ⟨Tm,ha1⟩:=ha;obtain ⟨Di,A5⟩:=hb;have HM:Hid (Mch B R c w0 w s):=h
 by_cases E4:0<=a/\0<=b/\b<=2048 - a
 . by_cases Ee:a<=s.stack.length
   . have HP:Mc.enter a b s = .ok () { s with lo:=s.stack.drop (s.stack.length - a.toNat)++List.replicate b.toNat 0,stack:=s.stack.take (s.stack.length - a.toNat) }:=(if_pos E4).trans (if_pos Ee)
     obtain ⟨h0,h1,h2⟩:=E4;obtain ⟨ka,rfl⟩:=Int.eq_ofNat_of_zero_le h0;obtain ⟨kb,rfl⟩:=Int.eq_ofNat_of_zero_le h1;refine (z0c B R c w0 s ka kb w h (by omega) (by omega)).mono ?_;rintro e w' ⟨rfl,hm⟩;exact zap.ok HP rfl (by simpa only [Int.toNat_natCast] using hm)
   . have HP:Hid (Mc.enter a b s = .stop { s with en:=6 }):=(if_pos E4).trans (if_neg Ee)
     obtain ⟨h0,h1,h2⟩:=E4;obtain ⟨T,⟨cv,st,lo,fr,da,iv,ou⟩,h⟩:=h;obtain ⟨sa,scap,hv,hscap,hsmax⟩:=h.st.form;simp only at hv;subst hv;have c2:=h.cell.2.2.1;have Ti:=h.bst;simp only at c2;clear h;generalize s.stack.length=n at *;go_enter Tryz.func230,Tryz.ntmps230;go_wp2_with fail;refine (zbx _ _ _ (by first | (simp;done) | (simp;omega))).mono ?_;rintro e w' ⟨rfl,rfl⟩;go_wp2_with fail;refine (zcn _ _ (by first | (simp;done) | (simp;omega)) HM.out).mono ?_;rintro e w2 ⟨rfl,hm⟩;go_wp2_with fail;exact ⟨rfl,zap.stop HP.out rfl hm⟩
 . have HP:Hid (Mc.enter a b s = .stop { s with en:=6 }):=if_neg E4
   clear h
   by_cases h0:0<=a
   . by_cases h1:0<=b
     . have h2:¬ b<=2048 - a:=fun h=>E4 ⟨h0,h1,h⟩
       clear E4;go_enter Tryz.func230,Tryz.ntmps230;go_wp2_with fail;refine (zcn _ _ (by first | (simp;done) | (simp;omega)) HM.out).mono ?_;rintro e w2 ⟨rfl,hm⟩;go_wp2_with fail;exact ⟨rfl,zap.stop HP.out rfl hm⟩
     . clear E4
       go_enter Tryz.func230,Tryz.ntmps230;go_wp2_with fail;refine (zcn _ _ (by first | (simp;done) | (simp;omega)) HM.out).mono ?_;rintro e w2 ⟨rfl,hm⟩;go_wp2_with fail;exact ⟨rfl,zap.stop HP.out rfl hm⟩
   . clear E4
     go_enter Tryz.func230,Tryz.ntmps230;go_wp2_with fail;refine (zcn _ _ (by first | (simp;done) | (simp;omega)) HM.out).mono ?_;rintro e w2 ⟨rfl,hm⟩;go_wp2_with fail;exact ⟨rfl,zap.stop HP.out rfl hm⟩
theorem Mch.alloc {B R:Nat} {c:Mc.Cfg} {w0 w:World} {s:Mc.St} (h:Mch B R c w0 w s) (o:Obj):Mch B R c w0 (w.alloc o) s:=by
 obtain ⟨T,v,h⟩:=h;exact ⟨T,v,h.alloc o⟩
theorem Mch.drew {B R:Nat} {c:Mc.Cfg} {w0 w:World} {s:Mc.St} (h:Mch B R c w0 w s):Mch B R c w0 w.drew s:=by
 obtain ⟨T,v,h⟩:=h;exact ⟨T,v,h.drew⟩
section
variable {P:Program} {ops:Array Oper} {o:Oper} {a:Act} {w:World} {K:Act->World->Prop} {Q:Exit->Act->World->Prop} {E:Prop}
theorem run_callN (f:FuncId) (xs:Array Operand) (Fe:Array TypeId) (ho:o.op = .call { callee:=.value (.func f),args:=xs,argTypes:=Fe })
 (C7:Enters P f) (vs:Array Value) (hx:xs.map a.eval=vs):(execOp a.eval o).run P w = .ok (.enter f vs) w:=by
 have h:=C7 vs w;have hf:a.eval (.func f) = .func (.func f) #[] #[]:=rfl;simp [execOp,ho,resolve,invoke,hx,hf,h,Deferred.ofValue]
theorem za2 (BC:o.guard=none) (f:FuncId) (xs:Array Operand) (Fe:Array TypeId) (ho:o.op = .call { callee:=.value (.func f),args:=xs,argTypes:=Fe })
 (C7:Enters P f) (vs:Array Value) (hx:xs.map a.eval=vs) {C:Ending->World->Prop} (hC:Calls P f vs w C)
 (h3:∀ w',¬ C .outgrown w') (h2:∀ c w',C (.panicked c) w'->Q (.panic c) a w') (h1:∀ v w',C (.returned v) w'->K (a.put o.dst v) w'):if Region.wanted o (yielded ops a.tmps)=true then Oper.wp P o a w K Q else E:=by
 have hw:Region.wanted o (yielded ops a.tmps)=true:=by simp [Region.wanted,BC]
 rw [if_pos hw];unfold Oper.wp;rw [run_callN f xs Fe ho C7 vs hx,Oper.upon_enter];refine hC.mono ?_;intro e w' he
 cases e with
 | returned v=>exact h1 v w' he
 | panicked c=>exact h2 c w' he
 | outgrown=>exact absurd he (h3 w')
end
theorem zl8 {P:Program} {ops:Array Oper} {a:Act} {w:World} {K:Act->World->Prop} {Q:Exit->Act->World->Prop} {i:Nat} {o:Oper} (hi:ops[i]? = some o) (BC:o.guard=none) (f:FuncId) (xs:Array Operand) (Fe:Array TypeId) (ho:o.op = .call { callee:=.value (.func f),args:=xs,argTypes:=Fe })
 (C7:Enters P f) (vs:Array Value) (hx:xs.map a.eval=vs) {C:Ending->World->Prop} (hC:Calls P f vs w C)
 (h3:∀ w',¬ C .outgrown w') (h2:∀ c w',C (.panicked c) w'->Q (.panic c) a w') (h1:∀ v w',C (.returned v) w'->K (a.put o.dst v) w'):wpOp P ops Q i K a w:=by
 have hw:Region.wanted o (yielded ops a.tmps)=true:=by simp [Region.wanted,BC]
 have h:=za2 (ops:=ops) (E:=True) BC f xs Fe ho C7 vs hx hC h3 h2 h1;rw [if_pos hw] at h;unfold wpOp;rw [hi];simp only [hw,if_true];exact Or.inl h
theorem zap.noOut {α:Type} {B R:Nat} {c:Mc.Cfg} {w0 w':World} {r:Mc.Res α} {AD:α->Value}:¬ zap B R c w0 r AD .outgrown w':=by
 intro h;cases r with
 | ok a s=>cases h.1
 | stop s=>cases h.1
theorem zap.ret {α:Type} {B R:Nat} {c:Mc.Cfg} {w0 w':World} {r:Mc.Res α} {AD:α->Value} {v:Value} (h:zap B R c w0 r AD (.returned v) w'):∃ a s,Hid (r = .ok a s)/\v=AD a/\Hid (Mch B R c w0 w' s):=by
 cases r with
 | ok a s=>exact ⟨a,s,rfl,by cases h.1;rfl,h.2⟩
 | stop s=>cases h.1
theorem zap.pan {α:Type} {B R:Nat} {c:Mc.Cfg} {w0 w':World} {r:Mc.Res α} {AD:α->Value} {ch:List PanicEntry} (h:zap B R c w0 r AD (.panicked ch) w'):∃ s,Hid (r = .stop s)/\ch=zdr s.en/\Hid (Mch B R c w0 w' s):=by
 cases r with
 | ok a s=>cases h.1
 | stop s=>exact ⟨s,rfl,by cases h.1;rfl,h.2⟩
theorem en35:Enters Tryz.prog 221:=enters_of Tryz.func221 (by kernel_rfl) rfl
theorem en36:Enters Tryz.prog 222:=enters_of Tryz.func222 (by kernel_rfl) rfl
theorem z86:Enters Tryz.prog 223:=enters_of Tryz.func223 (by kernel_rfl) rfl
theorem z7o:Enters Tryz.prog 224:=enters_of Tryz.func224 (by kernel_rfl) rfl
theorem z61:Enters Tryz.prog 225:=enters_of Tryz.func225 (by kernel_rfl) rfl
end Mx
set_option maxHeartbeats 1600000
namespace Mx
open Go.RowKit Go.Shelf
theorem do2 (B R:Nat) (c:Mc.Cfg) (w0:World) (s:Mc.St) (a b:Int) (w:World) (h:Mch B R c w0 w s) :
 Calls Tryz.prog 182 #[.pointer (some ⟨R,0,none⟩),.agg #[.int .i64 2,.int .i64 a,.int .i64 b]] w (zap B R c w0 (Mc.doI c.mt ⟨2,a,b⟩ s) za3):=by
 have HM:Hid (Mch B R c w0 w s):=h;have HP:Hid (Mc.doI c.mt ⟨2,a,b⟩ s=(Mc.getL s.lo a s).bind Mc.push):=rfl;clear h;obtain ⟨T,v,h⟩:=HM.out;have HA:=hid h;have Bk:=h.ltR;have CN:=h.blo;clear h;go_enter Tryz.func182,Tryz.ntmps182;go_wp2_with fail
 go_region_law (first
  | (refine za2 (by rfl) 223 _ _ (by rfl) z86 _ (by kernel_rfl) (zw0 B R c w0 s _ T v (HA.out.alloc _).drew) (fun w' h=>by obtain ⟨_,_,h,_⟩:=h;cases h) (fun ch w' h=>by obtain ⟨_,_,h,_⟩:=h;cases h) ?_;rintro _ w1 ⟨la,lc,h1,hO,GX,hb⟩;obtain rfl:=(Ending.returned.inj h1);have HO:=hid hO;have E9:=hid GX;have d1:w1.cell? ⟨w.heap.size,1,none⟩=some (.int .i64 a):=((hb.cell (p:=⟨w.heap.size,1,none⟩) (by simp)).trans (by simp));clear h1 hO GX)
  | (refine za2 (by rfl) 222 _ _ (by rfl) en36 _ (by kernel_rfl) (zra B R c w0 s la lc s.lo a _ ⟨T,v,E9.out⟩ (HO.out.cells E9.out).1 (by omega)) (fun w' h=>h.noOut) (fun ch w' h=>by obtain ⟨s2,HR,rfl,Hm⟩:=h.pan;exact ⟨rfl,zap.of_stop (HP.out.trans (za6 _ HR.out)) Hm.out⟩) ?_;intro _ w2 he;obtain ⟨x,s2,Am,rfl,BV⟩:=he.ret;clear he;simp only [intV])
  | (refine za2 (by rfl) 221 _ _ (by rfl) en35 _ (by kernel_rfl) (zdv B R c w0 s2 x _ BV.out) (fun w' h=>h.noOut) (fun ch w' h=>by obtain ⟨s3,HR,rfl,Hm⟩:=h.pan;exact ⟨rfl,zap.of_stop (HP.out.trans ((bind_ok _ Am.out).trans HR.out)) Hm.out⟩) ?_;intro _ w3 he;obtain ⟨u,s3,Av,rfl,Dk⟩:=he.ret;clear he;simp only [za3]))
 all_goals
  go_wp2_with fail
  go_returns
  exact zap.ok (HP.out.trans ((bind_ok _ Am.out).trans Av.out)) rfl Dk.out
theorem zjd {s s2:Mc.St} {x:Int} (h:Mc.pop s = .ok x s2):∃ l,s2={ s with stack:=l }:=by
 unfold Mc.pop at h
 split at h
 . exact ⟨_,(Mc.Res.ok.inj h).2.symm⟩
 . cases h
theorem zfs.noOut {α:Type} {B R:Nat} {c:Mc.Cfg} {w0 w':World} {L D:Value} {r:Mc.Res α} {AD:α->Value}:¬ zfs B R c w0 L D r AD .outgrown w':=by
 intro h;cases r with
 | ok a s=>cases h.1
 | stop s=>cases h.1
theorem zfs.ret {α:Type} {B R:Nat} {c:Mc.Cfg} {w0 w':World} {L D:Value} {r:Mc.Res α} {AD:α->Value} {v:Value} (h:zfs B R c w0 L D r AD (.returned v) w'):∃ a s,Hid (r = .ok a s)/\v=AD a/\∃ T v',Hid (MAt B R c w0 w' T v' s)/\v'.lo=L/\v'.da=D:=by
 cases r with
 | ok a s=>exact ⟨a,s,rfl,by cases h.1;rfl,h.2⟩
 | stop s=>cases h.1
theorem zfs.pan {α:Type} {B R:Nat} {c:Mc.Cfg} {w0 w':World} {L D:Value} {r:Mc.Res α} {AD:α->Value} {ch:List PanicEntry} (h:zfs B R c w0 L D r AD (.panicked ch) w'):∃ s,Hid (r = .stop s)/\ch=zdr s.en/\Hid (Mch B R c w0 w' s):=by
 cases r with
 | ok a s=>cases h.1
 | stop s=>exact ⟨s,rfl,by cases h.1;rfl,h.2⟩
theorem do3 (B R:Nat) (c:Mc.Cfg) (w0:World) (s:Mc.St) (a b:Int) (w:World) (h:Mch B R c w0 w s) :
 Calls Tryz.prog 182 #[.pointer (some ⟨R,0,none⟩),.agg #[.int .i64 3,.int .i64 a,.int .i64 b]] w (zap B R c w0 (Mc.doI c.mt ⟨3,a,b⟩ s) za3):=by
 have HM:Hid (Mch B R c w0 w s):=h;have HP:Hid (Mc.doI c.mt ⟨3,a,b⟩ s=(Mc.pop s).bind fun n s=>Mc.putLo a n s):=rfl;clear h;obtain ⟨T,v,h⟩:=HM.out;have HA:=hid h;have Bk:=h.ltR;clear h;go_enter Tryz.func182,Tryz.ntmps182;go_wp2_with fail
 go_region_law (first
  | (refine za2 (by rfl) 223 _ _ (by rfl) z86 _ (by kernel_rfl) (zw0 B R c w0 s _ T v (HA.out.alloc _).drew) (fun w' h=>by obtain ⟨_,_,h,_⟩:=h;cases h) (fun ch w' h=>by obtain ⟨_,_,h,_⟩:=h;cases h) ?_;rintro _ w1 ⟨la,lc,h1,hO,GX,hb⟩;obtain rfl:=(Ending.returned.inj h1);have HO:=hid hO;have E9:=hid GX;have d1:w1.cell? ⟨w.heap.size,1,none⟩=some (.int .i64 a):=((hb.cell (p:=⟨w.heap.size,1,none⟩) (by simp)).trans (by simp));clear h1 hO GX)
  | (refine za2 (by rfl) 225 _ _ (by rfl) z61 _ (by kernel_rfl) (zf5 B R c w0 s _ T v E9.out) (fun w' h=>h.1.noOut) (fun ch w' h=>by obtain ⟨s2,HR,rfl,Hm⟩:=h.1.pan;exact ⟨rfl,zap.of_stop (HP.out.trans (za6 _ HR.out)) Hm.out⟩) ?_;rintro _ w2 ⟨he,hk⟩;obtain ⟨x,s2,Am,rfl,T2,v2,C3,CN,hda⟩:=he.ret;obtain ⟨l2,B7⟩:=zjd Am.out;subst B7;have HL:=hid CN;have d2:w2.cell? ⟨w.heap.size,1,none⟩=some (.int .i64 a):=((World.cell?_of_block (w:=w1) (hk w.heap.size (by omega))).trans d1);clear he hk CN hda;simp only [intV])
  | (refine za2 (by rfl) 224 _ _ (by rfl) z7o _ (by kernel_rfl) (zw1 B R c w0 { s with stack:=l2 } a x la lc _ T2 v2 C3.out (by rcases HO.out with h | ⟨g,cap,h1,h2⟩;exact Or.inl h;exact Or.inr ⟨g,cap,HL.out.trans h1,h2⟩)) (fun w' h=>h.noOut) (fun ch w' h=>by obtain ⟨s3,HR,rfl,Hm⟩:=h.pan;exact ⟨rfl,zap.of_stop (HP.out.trans ((bind_ok _ Am.out).trans HR.out)) Hm.out⟩) ?_;intro _ w3 he;obtain ⟨u,s3,Av,rfl,Dk⟩:=he.ret;clear he;simp only [za3]))
 all_goals
  go_wp2_with fail
  go_returns
  exact zap.ok (HP.out.trans ((bind_ok _ Am.out).trans Av.out)) rfl Dk.out
theorem do4 (B R:Nat) (c:Mc.Cfg) (w0:World) (s:Mc.St) (a b:Int) (w:World) (h:Mch B R c w0 w s) :
 Calls Tryz.prog 182 #[.pointer (some ⟨R,0,none⟩),.agg #[.int .i64 4,.int .i64 a,.int .i64 b]] w (zap B R c w0 (Mc.doI c.mt ⟨4,a,b⟩ s) za3):=by
 have HM:Hid (Mch B R c w0 w s):=h;have HP:Hid (Mc.doI c.mt ⟨4,a,b⟩ s=(Mc.getL s.data a s).bind Mc.push):=rfl;clear h;obtain ⟨T,v,h⟩:=HM.out;obtain ⟨da,dc,hv, -⟩:=h.dataAt
 have HC:Hid (∀ w1,MAt B R c w0 w1 T v s->zz9 w1 da s.data):=fun w1 h1=>by
  obtain ⟨Re,dc',DU,hC,_⟩:=h1.dataAt;rw [hv,Value.slice.injEq] at DU
  rw [DU.1];exact hC
 have c5:w.cell? ⟨R,5,none⟩=some (.slice da s.data.length dc):=by rw [← hv];exact h.cell.2.2.2.2.2.1
 have HA:=hid h;have Bk:=h.ltR;have Bt:=h.bda;clear h hv;go_enter Tryz.func182,Tryz.ntmps182;go_wp2_with fail
 go_region_law (first
  | (refine za2 (by rfl) 222 _ _ (by rfl) en36 _ (by kernel_rfl) (zra B R c w0 s da dc s.data a _ ⟨T,v,(HA.out.alloc _).drew⟩ (HC.out _ (HA.out.alloc _).drew) (by omega)) (fun w' h=>h.noOut) (fun ch w' h=>by obtain ⟨s2,HR,rfl,Hm⟩:=h.pan;exact ⟨rfl,zap.of_stop (HP.out.trans (za6 _ HR.out)) Hm.out⟩) ?_;intro _ w2 he;obtain ⟨x,s2,Am,rfl,BV⟩:=he.ret;clear he;simp only [intV])
  | (refine za2 (by rfl) 221 _ _ (by rfl) en35 _ (by kernel_rfl) (zdv B R c w0 s2 x _ BV.out) (fun w' h=>h.noOut) (fun ch w' h=>by obtain ⟨s3,HR,rfl,Hm⟩:=h.pan;exact ⟨rfl,zap.of_stop (HP.out.trans ((bind_ok _ Am.out).trans HR.out)) Hm.out⟩) ?_;intro _ w3 he;obtain ⟨u,s3,Av,rfl,Dk⟩:=he.ret;clear he;simp only [za3]))
 all_goals
  go_wp2_with fail
  go_returns
  exact zap.ok (HP.out.trans ((bind_ok _ Am.out).trans Av.out)) rfl Dk.out
theorem do5 (B R:Nat) (c:Mc.Cfg) (w0:World) (s:Mc.St) (a b:Int) (w:World) (h:Mch B R c w0 w s) :
 Calls Tryz.prog 182 #[.pointer (some ⟨R,0,none⟩),.agg #[.int .i64 5,.int .i64 a,.int .i64 b]] w (zap B R c w0 (Mc.doI c.mt ⟨5,a,b⟩ s) za3):=by
 have HM:Hid (Mch B R c w0 w s):=h;have HP:Hid (Mc.doI c.mt ⟨5,a,b⟩ s=(Mc.pop s).bind fun n s=>Mc.putDa a n s):=rfl;clear h;obtain ⟨T,v,h⟩:=HM.out;obtain ⟨da,dc,hv, -⟩:=h.dataAt;have HV:=hid hv
 have c5:w.cell? ⟨R,5,none⟩=some (.slice da s.data.length dc):=by rw [← hv];exact h.cell.2.2.2.2.2.1
 have Hl:Hid (∀ (x:Int) (l:List Int) (w2:World) (T2:Nat->Nat) (v2:Vs),MAt B R c w0 w2 T2 v2 { s with stack:=l }->v2.da=v.da->Calls Tryz.prog 224 #[.pointer (some ⟨R,0,none⟩),.slice da s.data.length dc,.int .i64 a,.int .i64 x] w2 (zap B R c w0 (Mc.putDa a x { s with stack:=l }) za3)):=fun x l w2 T2 v2 h2 e=>by
  have:=zpj B R c w0 { s with stack:=l } a x w2 T2 v2 h2;rw [e,hv] at this;exact this
 have HA:=hid h;have Bk:=h.ltR;clear h hv;go_enter Tryz.func182,Tryz.ntmps182;go_wp2_with fail
 go_region_law (first
  | (refine za2 (by rfl) 225 _ _ (by rfl) z61 _ (by kernel_rfl) (zf5 B R c w0 s _ T v (HA.out.alloc _).drew) (fun w' h=>h.1.noOut) (fun ch w' h=>by obtain ⟨s2,HR,rfl,Hm⟩:=h.1.pan;exact ⟨rfl,zap.of_stop (HP.out.trans (za6 _ HR.out)) Hm.out⟩) ?_;rintro _ w2 ⟨he,hk⟩;obtain ⟨x,s2,Am,rfl,T2,v2,C3,CN,hda⟩:=he.ret;obtain ⟨l2,B7⟩:=zjd Am.out;subst B7;have HD:=hid hda;have d5:w2.cell? ⟨R,5,none⟩=some (.slice da s.data.length dc):=(by rw [← HV.out,← hda];exact C3.out.cell.2.2.2.2.2.1);have d2:w2.cell? ⟨w.heap.size,1,none⟩=some (.int .i64 a):=((World.cell?_of_block (w:=(w.alloc _).drew) (hk w.heap.size (by omega))).trans (by simp));clear he hk CN hda;simp only [intV])
  | (refine za2 (by rfl) 224 _ _ (by rfl) z7o _ (by kernel_rfl) (Hl.out x l2 _ T2 v2 C3.out HD.out) (fun w' h=>h.noOut) (fun ch w' h=>by obtain ⟨s3,HR,rfl,Hm⟩:=h.pan;exact ⟨rfl,zap.of_stop (HP.out.trans ((bind_ok _ Am.out).trans HR.out)) Hm.out⟩) ?_;intro _ w3 he;obtain ⟨u,s3,Av,rfl,Dk⟩:=he.ret;clear he;simp only [za3]))
 all_goals
  go_wp2_with fail
  go_returns
  exact zap.ok (HP.out.trans ((bind_ok _ Am.out).trans Av.out)) rfl Dk.out
end Mx
namespace Mx
open Go.RowKit Go.Shelf
theorem do7 (B R:Nat) (c:Mc.Cfg) (w0:World) (s:Mc.St) (a b:Int) (w:World) (h:Mch B R c w0 w s) :
 Calls Tryz.prog 182 #[.pointer (some ⟨R,0,none⟩),.agg #[.int .i64 7,.int .i64 a,.int .i64 b]] w (zap B R c w0 (Mc.doI c.mt ⟨7,a,b⟩ s) za3):=by
 have HM:Hid (Mch B R c w0 w s):=h;have HP:Hid (Mc.doI c.mt ⟨7,a,b⟩ s=(Mc.pop s).bind fun a s=>(Mc.getL s.data a s).bind Mc.push):=rfl;clear h;obtain ⟨T,v,h⟩:=HM.out;obtain ⟨da,dc,hv, -⟩:=h.dataAt;have HV:=hid hv
 have c5:w.cell? ⟨R,5,none⟩=some (.slice da s.data.length dc):=by rw [← hv];exact h.cell.2.2.2.2.2.1
 have Bt:=h.bda
 have Nm:Hid (∀ (x:Int) (l:List Int) (w2:World) (T2:Nat->Nat) (v2:Vs),MAt B R c w0 w2 T2 v2 { s with stack:=l }->v2.da=v.da->Calls Tryz.prog 222 #[.pointer (some ⟨R,0,none⟩),.slice da s.data.length dc,.int .i64 x] w2 (zap B R c w0 (Mc.getL s.data x { s with stack:=l }) intV)):=fun x l w2 T2 v2 h2 e=>by
  refine zra B R c w0 { s with stack:=l } da dc s.data x w2 ⟨T2,v2,h2⟩ ?_ (by omega);obtain ⟨Re,dc',DU,hC,_⟩:=h2.dataAt;rw [e,hv,Value.slice.injEq] at DU
  rw [DU.1];exact hC
 have HA:=hid h;have Bk:=h.ltR;clear h hv;go_enter Tryz.func182,Tryz.ntmps182;go_wp2_with fail
 go_region_law (first
  | (refine za2 (by rfl) 225 _ _ (by rfl) z61 _ (by kernel_rfl) (zf5 B R c w0 s _ T v (HA.out.alloc _).drew) (fun w' h=>h.1.noOut) (fun ch w' h=>by obtain ⟨s2,HR,rfl,Hm⟩:=h.1.pan;exact ⟨rfl,zap.of_stop (HP.out.trans (za6 _ HR.out)) Hm.out⟩) ?_;rintro _ w2 ⟨he,hk⟩;obtain ⟨x,s2,Am,rfl,T2,v2,C3,CN,hda⟩:=he.ret;obtain ⟨l2,B7⟩:=zjd Am.out;subst B7;have HD:=hid hda;have d5:w2.cell? ⟨R,5,none⟩=some (.slice da s.data.length dc):=(by rw [← HV.out,← hda];exact C3.out.cell.2.2.2.2.2.1);clear he hk CN hda;simp only [intV])
  | (refine za2 (by rfl) 222 _ _ (by rfl) en36 _ (by kernel_rfl) (Nm.out x l2 _ T2 v2 C3.out HD.out) (fun w' h=>h.noOut) (fun ch w' h=>by obtain ⟨s3,HR,rfl,Hm⟩:=h.pan;exact ⟨rfl,zap.of_stop (HP.out.trans ((bind_ok _ Am.out).trans (za6 _ HR.out))) Hm.out⟩) ?_;intro _ w3 he;obtain ⟨y,s3,Av,rfl,Dk⟩:=he.ret;clear he;simp only [intV])
  | (refine za2 (by rfl) 221 _ _ (by rfl) en35 _ (by kernel_rfl) (zdv B R c w0 s3 y _ Dk.out) (fun w' h=>h.noOut) (fun ch w' h=>by obtain ⟨s4,HR,rfl,Hm⟩:=h.pan;exact ⟨rfl,zap.of_stop (HP.out.trans ((bind_ok _ Am.out).trans ((bind_ok _ Av.out).trans HR.out))) Hm.out⟩) ?_;intro _ w4 he;obtain ⟨u,s4,AP,rfl,Hm4⟩:=he.ret;clear he;simp only [za3]))
 all_goals
  go_wp2_with fail
  go_returns
  exact zap.ok (HP.out.trans ((bind_ok _ Am.out).trans ((bind_ok _ Av.out).trans AP.out))) rfl Hm4.out
theorem do8 (B R:Nat) (c:Mc.Cfg) (w0:World) (s:Mc.St) (a b:Int) (w:World) (h:Mch B R c w0 w s) :
 Calls Tryz.prog 182 #[.pointer (some ⟨R,0,none⟩),.agg #[.int .i64 8,.int .i64 a,.int .i64 b]] w (zap B R c w0 (Mc.doI c.mt ⟨8,a,b⟩ s) za3):=by
 have HM:Hid (Mch B R c w0 w s):=h;have HP:Hid (Mc.doI c.mt ⟨8,a,b⟩ s=(Mc.pop s).bind fun n s=>(Mc.pop s).bind fun a s=>Mc.putDa a n s):=rfl;clear h;go_enter Tryz.func182,Tryz.ntmps182;go_wp2_with fail;refine (zft B R c w0 s _ (HM.out.alloc _)).mono ?_;intro e w1 he
 rcases he.parts with ⟨n,s1,HR,rfl,Hm⟩ | ⟨s1,HR,rfl,Hm⟩<;>clear he<;>simp only [intV]
 . have Bc:=hid (HP.out.trans (bind_ok _ HR.out))
   clear HP HR HM;obtain ⟨T,v,h⟩:=Hm.out;obtain ⟨da,dc,hv, -⟩:=h.dataAt;have HV:=hid hv
   have c5:w1.cell? ⟨R,5,none⟩=some (.slice da s1.data.length dc):=by rw [← hv];exact h.cell.2.2.2.2.2.1
   have Hl:Hid (∀ (x:Int) (l:List Int) (w2:World) (T2:Nat->Nat) (v2:Vs),MAt B R c w0 w2 T2 v2 { s1 with stack:=l }->v2.da=v.da->Calls Tryz.prog 224 #[.pointer (some ⟨R,0,none⟩),.slice da s1.data.length dc,.int .i64 x,.int .i64 n] w2 (zap B R c w0 (Mc.putDa x n { s1 with stack:=l }) za3)):=fun x l w2 T2 v2 h2 e=>by
    have:=zpj B R c w0 { s1 with stack:=l } x n w2 T2 v2 h2;rw [e,hv] at this;exact this
   have HA:=hid h;have Bk:=h.ltR;clear h hv;go_wp2_with fail
   go_region_law (first
    | (refine za2 (by rfl) 225 _ _ (by rfl) z61 _ (by kernel_rfl) (zf5 B R c w0 s1 _ T v HA.out.drew) (fun w' h=>h.1.noOut) (fun ch w' h=>by obtain ⟨s2,HR,rfl,Hm⟩:=h.1.pan;exact ⟨rfl,zap.of_stop (Bc.out.trans (za6 _ HR.out)) Hm.out⟩) ?_;rintro _ w2 ⟨he,hk⟩;obtain ⟨x,s2,Am,rfl,T2,v2,C3,CN,hda⟩:=he.ret;obtain ⟨l2,B7⟩:=zjd Am.out;subst B7;have HD:=hid hda;have d5:w2.cell? ⟨R,5,none⟩=some (.slice da s1.data.length dc):=(by rw [← HV.out,← hda];exact C3.out.cell.2.2.2.2.2.1);clear he hk CN hda;simp only [intV])
    | (refine za2 (by rfl) 224 _ _ (by rfl) z7o _ (by kernel_rfl) (Hl.out x l2 _ T2 v2 C3.out HD.out) (fun w' h=>h.noOut) (fun ch w' h=>by obtain ⟨s3,HR,rfl,Hm⟩:=h.pan;exact ⟨rfl,zap.of_stop (Bc.out.trans ((bind_ok _ Am.out).trans HR.out)) Hm.out⟩) ?_;intro _ w3 he;obtain ⟨u,s3,Av,rfl,Dk⟩:=he.ret;clear he;simp only [za3]))
   all_goals
    go_wp2_with fail
    go_returns
    exact zap.ok (Bc.out.trans ((bind_ok _ Am.out).trans Av.out)) rfl Dk.out
 . go_wp2_with fail
   exact ⟨rfl,zap.of_stop (HP.out.trans (za6 _ HR.out)) Hm.out⟩
end Mx
set_option maxHeartbeats 400000
namespace Mx
open Go.RowKit Go.Shelf
theorem do1 (B R:Nat) (c:Mc.Cfg) (w0:World) (s:Mc.St) (a b:Int) (w:World) (h:Mch B R c w0 w s) :
 Calls Tryz.prog 182 #[.pointer (some ⟨R,0,none⟩),.agg #[.int .i64 1,.int .i64 a,.int .i64 b]] w (zap B R c w0 (Mc.doI c.mt ⟨1,a,b⟩ s) za3):=by
 have HM:Hid (Mch B R c w0 w s):=h;have HP:Hid (Mc.doI c.mt ⟨1,a,b⟩ s=Mc.push a s):=rfl;clear h;go_enter Tryz.func182,Tryz.ntmps182;go_wp2_with fail;refine (zdv B R c w0 s a _ (HM.out.alloc _)).mono ?_;intro e w1 he
 rcases he.parts with ⟨u,s1,HR,rfl,Hm⟩ | ⟨s1,HR,rfl,Hm⟩<;>clear he<;>simp only [za3]
 . go_wp2_with fail
   go_returns
   exact zap.ok (HP.out.trans HR.out) rfl Hm.out
 . go_wp2_with fail
   exact ⟨rfl,zap.of_stop (HP.out.trans HR.out) Hm.out⟩
theorem do6 (B R:Nat) (c:Mc.Cfg) (w0:World) (s:Mc.St) (a b:Int) (w:World) (h:Mch B R c w0 w s) :
 Calls Tryz.prog 182 #[.pointer (some ⟨R,0,none⟩),.agg #[.int .i64 6,.int .i64 a,.int .i64 b]] w (zap B R c w0 (Mc.doI c.mt ⟨6,a,b⟩ s) za3):=by
 have HM:Hid (Mch B R c w0 w s):=h;have HP:Hid (Mc.doI c.mt ⟨6,a,b⟩ s=Mc.index a b s):=rfl;clear h;go_enter Tryz.func182,Tryz.ntmps182;go_wp2_with fail;refine (zw2 B R c w0 s a b _ (HM.out.alloc _)).mono ?_;intro e w1 he
 rcases he.parts with ⟨u,s1,HR,rfl,Hm⟩ | ⟨s1,HR,rfl,Hm⟩<;>clear he<;>simp only [za3]
 . go_wp2_with fail
   go_returns
   exact zap.ok (HP.out.trans HR.out) rfl Hm.out
 . go_wp2_with fail
   exact ⟨rfl,zap.of_stop (HP.out.trans HR.out) Hm.out⟩
theorem z9f (B R:Nat) (c:Mc.Cfg) (w0:World) (s:Mc.St) (a b:Int) (w:World) (h:Mch B R c w0 w s) :
 Calls Tryz.prog 182 #[.pointer (some ⟨R,0,none⟩),.agg #[.int .i64 10,.int .i64 a,.int .i64 b]] w (zap B R c w0 (Mc.doI c.mt ⟨10,a,b⟩ s) za3):=by
 have HM:Hid (Mch B R c w0 w s):=h;have HP:Hid (Mc.doI c.mt ⟨10,a,b⟩ s=Mc.math a s):=rfl;clear h;go_enter Tryz.func182,Tryz.ntmps182;go_wp2_with fail;refine (z0a B R c w0 s a _ (HM.out.alloc _)).mono ?_;intro e w1 he
 rcases he.parts with ⟨u,s1,HR,rfl,Hm⟩ | ⟨s1,HR,rfl,Hm⟩<;>clear he<;>simp only [za3]
 . go_wp2_with fail
   go_returns
   exact zap.ok (HP.out.trans HR.out) rfl Hm.out
 . go_wp2_with fail
   exact ⟨rfl,zap.of_stop (HP.out.trans HR.out) Hm.out⟩
theorem z9g (B R:Nat) (c:Mc.Cfg) (w0:World) (s:Mc.St) (a b:Int) (w:World) (h:Mch B R c w0 w s) :
 Calls Tryz.prog 182 #[.pointer (some ⟨R,0,none⟩),.agg #[.int .i64 13,.int .i64 a,.int .i64 b]] w (zap B R c w0 (Mc.doI c.mt ⟨13,a,b⟩ s) za3):=by
 have HM:Hid (Mch B R c w0 w s):=h;have HP:Hid (Mc.doI c.mt ⟨13,a,b⟩ s=Mc.call c.mt a s):=rfl;clear h;go_enter Tryz.func182,Tryz.ntmps182;go_wp2_with fail;refine (z0b B R c w0 s a _ (HM.out.alloc _)).mono ?_;intro e w1 he
 rcases he.parts with ⟨u,s1,HR,rfl,Hm⟩ | ⟨s1,HR,rfl,Hm⟩<;>clear he<;>simp only [za3]
 . go_wp2_with fail
   go_returns
   exact zap.ok (HP.out.trans HR.out) rfl Hm.out
 . go_wp2_with fail
   exact ⟨rfl,zap.of_stop (HP.out.trans HR.out) Hm.out⟩
theorem z9h (B R:Nat) (c:Mc.Cfg) (w0:World) (s:Mc.St) (a b:Int) (w:World) (h:Mch B R c w0 w s) (ha:fit64 a) (hb:fit64 b) :
 Calls Tryz.prog 182 #[.pointer (some ⟨R,0,none⟩),.agg #[.int .i64 14,.int .i64 a,.int .i64 b]] w (zap B R c w0 (Mc.doI c.mt ⟨14,a,b⟩ s) za3):=by
 have HM:Hid (Mch B R c w0 w s):=h;have HP:Hid (Mc.doI c.mt ⟨14,a,b⟩ s=Mc.enter a b s):=rfl;clear h;go_enter Tryz.func182,Tryz.ntmps182;go_wp2_with fail;refine (enter_any B R c w0 s a b _ (HM.out.alloc _) ha hb).mono ?_;intro e w1 he
 rcases he.parts with ⟨u,s1,HR,rfl,Hm⟩ | ⟨s1,HR,rfl,Hm⟩<;>clear he<;>simp only [za3]
 . go_wp2_with fail
   go_returns
   exact zap.ok (HP.out.trans HR.out) rfl Hm.out
 . go_wp2_with fail
   exact ⟨rfl,zap.of_stop (HP.out.trans HR.out) Hm.out⟩
theorem z9i (B R:Nat) (c:Mc.Cfg) (w0:World) (s:Mc.St) (a b:Int) (w:World) (h:Mch B R c w0 w s) :
 Calls Tryz.prog 182 #[.pointer (some ⟨R,0,none⟩),.agg #[.int .i64 15,.int .i64 a,.int .i64 b]] w (zap B R c w0 (Mc.doI c.mt ⟨15,a,b⟩ s) za3):=by
 have HM:Hid (Mch B R c w0 w s):=h;have HP:Hid (Mc.doI c.mt ⟨15,a,b⟩ s=Mc.ret s):=rfl;clear h;go_enter Tryz.func182,Tryz.ntmps182;go_wp2_with fail;refine (z3p B R c w0 s _ (HM.out.alloc _)).mono ?_;intro e w1 he
 rcases he.parts with ⟨u,s1,HR,rfl,Hm⟩ | ⟨s1,HR,rfl,Hm⟩<;>clear he<;>simp only [za3]
 . go_wp2_with fail
   go_returns
   exact zap.ok (HP.out.trans HR.out) rfl Hm.out
 . go_wp2_with fail
   exact ⟨rfl,zap.of_stop (HP.out.trans HR.out) Hm.out⟩
theorem z9j (B R:Nat) (c:Mc.Cfg) (w0:World) (s:Mc.St) (a b:Int) (w:World) (h:Mch B R c w0 w s) :
 Calls Tryz.prog 182 #[.pointer (some ⟨R,0,none⟩),.agg #[.int .i64 16,.int .i64 a,.int .i64 b]] w (zap B R c w0 (Mc.doI c.mt ⟨16,a,b⟩ s) za3):=by
 have HM:Hid (Mch B R c w0 w s):=h;have HP:Hid (Mc.doI c.mt ⟨16,a,b⟩ s=Mc.tick c.mt s):=rfl;clear h;go_enter Tryz.func182,Tryz.ntmps182;go_wp2_with fail;refine (tick_any B R c w0 s _ (HM.out.alloc _)).mono ?_;intro e w1 he
 rcases he.parts with ⟨u,s1,HR,rfl,Hm⟩ | ⟨s1,HR,rfl,Hm⟩<;>clear he<;>simp only [za3]
 . go_wp2_with fail
   go_returns
   exact zap.ok (HP.out.trans HR.out) rfl Hm.out
 . go_wp2_with fail
   exact ⟨rfl,zap.of_stop (HP.out.trans HR.out) Hm.out⟩
theorem do9 (B R:Nat) (c:Mc.Cfg) (w0:World) (s:Mc.St) (a b:Int) (w:World) (h:Mch B R c w0 w s) :
 Calls Tryz.prog 182 #[.pointer (some ⟨R,0,none⟩),.agg #[.int .i64 9,.int .i64 a,.int .i64 b]] w (zap B R c w0 (Mc.doI c.mt ⟨9,a,b⟩ s) za3):=by
 have HM:Hid (Mch B R c w0 w s):=h;have HP:Hid (Mc.doI c.mt ⟨9,a,b⟩ s=(Mc.pop s).bind fun n s=>Mc.push (Mc.truth (n == 0)) s):=rfl;clear h;go_enter Tryz.func182,Tryz.ntmps182;go_wp2_with fail;refine (zft B R c w0 s _ (HM.out.alloc _)).mono ?_;intro e w1 he
 rcases he.parts with ⟨x,s1,HR,rfl,Hm⟩ | ⟨s1,HR,rfl,Hm⟩<;>clear he<;>simp only [intV]
 . have Bc:=hid (HP.out.trans (bind_ok _ HR.out))
   clear HP HR;go_wp2_with fail;refine (zg3 _ _).mono ?_;rintro e w' ⟨rfl,rfl⟩;go_wp2_with fail;refine (zdv B R c w0 s1 _ _ Hm.out).mono ?_;intro e w2 he
   rcases he.parts with ⟨u,s2,HR,rfl,BV⟩ | ⟨s2,HR,rfl,BV⟩<;>clear he<;>simp only [za3]
   . go_wp2_with fail
     go_returns
     exact zap.ok (Bc.out.trans HR.out) rfl BV.out
   . go_wp2_with fail
     exact ⟨rfl,zap.of_stop (Bc.out.trans HR.out) BV.out⟩
 . go_wp2_with fail
   exact ⟨rfl,zap.of_stop (HP.out.trans (za6 _ HR.out)) Hm.out⟩
theorem z9k (B R:Nat) (c:Mc.Cfg) (w0:World) (s:Mc.St) (a b:Int) (w:World) (h:Mch B R c w0 w s) :
 Calls Tryz.prog 182 #[.pointer (some ⟨R,0,none⟩),.agg #[.int .i64 22,.int .i64 a,.int .i64 b]] w (zap B R c w0 (Mc.doI c.mt ⟨22,a,b⟩ s) za3):=by
 have HM:Hid (Mch B R c w0 w s):=h;have HP:Hid (Mc.doI c.mt ⟨22,a,b⟩ s=(Mc.pop s).bind fun n s=>Mc.push (Mc.truth (n != 0)) s):=rfl;clear h;go_enter Tryz.func182,Tryz.ntmps182;go_wp2_with fail;refine (zft B R c w0 s _ (HM.out.alloc _)).mono ?_;intro e w1 he
 rcases he.parts with ⟨x,s1,HR,rfl,Hm⟩ | ⟨s1,HR,rfl,Hm⟩<;>clear he<;>simp only [intV]
 . have Bc:=hid (HP.out.trans (bind_ok _ HR.out))
   clear HP HR;go_wp2_with fail;refine (zg3 _ _).mono ?_;rintro e w' ⟨rfl,rfl⟩;go_wp2_with fail;refine (zdv B R c w0 s1 _ _ Hm.out).mono ?_;intro e w2 he
   rcases he.parts with ⟨u,s2,HR,rfl,BV⟩ | ⟨s2,HR,rfl,BV⟩<;>clear he<;>simp only [za3]
   . go_wp2_with fail
     go_returns
     exact zap.ok (Bc.out.trans HR.out) rfl BV.out
   . go_wp2_with fail
     exact ⟨rfl,zap.of_stop (Bc.out.trans HR.out) BV.out⟩
 . go_wp2_with fail
   exact ⟨rfl,zap.of_stop (HP.out.trans (za6 _ HR.out)) Hm.out⟩
theorem z9l (B R:Nat) (c:Mc.Cfg) (w0:World) (s:Mc.St) (a b:Int) (w:World) (h:Mch B R c w0 w s) :
 Calls Tryz.prog 182 #[.pointer (some ⟨R,0,none⟩),.agg #[.int .i64 18,.int .i64 a,.int .i64 b]] w (zap B R c w0 (Mc.doI c.mt ⟨18,a,b⟩ s) za3):=by
 have HM:Hid (Mch B R c w0 w s):=h;have HP:Hid (Mc.doI c.mt ⟨18,a,b⟩ s=(Mc.next s).bind Mc.push):=rfl;clear h;go_enter Tryz.func182,Tryz.ntmps182;go_wp2_with fail;refine (next_any B R c w0 s _ (HM.out.alloc _)).mono ?_;intro e w1 he
 rcases he.parts with ⟨x,s1,HR,rfl,Hm⟩ | ⟨s1,HR,rfl,Hm⟩<;>clear he<;>simp only [intV]
 . have Bc:=hid (HP.out.trans (bind_ok _ HR.out))
   clear HP HR;go_wp2_with fail;refine (zdv B R c w0 s1 _ _ Hm.out).mono ?_;intro e w2 he
   rcases he.parts with ⟨u,s2,HR,rfl,BV⟩ | ⟨s2,HR,rfl,BV⟩<;>clear he<;>simp only [za3]
   . go_wp2_with fail
     go_returns
     exact zap.ok (Bc.out.trans HR.out) rfl BV.out
   . go_wp2_with fail
     exact ⟨rfl,zap.of_stop (Bc.out.trans HR.out) BV.out⟩
 . go_wp2_with fail
   exact ⟨rfl,zap.of_stop (HP.out.trans (za6 _ HR.out)) Hm.out⟩
theorem z9m (B R:Nat) (c:Mc.Cfg) (w0:World) (s:Mc.St) (a b:Int) (w:World) (h:Mch B R c w0 w s) :
 Calls Tryz.prog 182 #[.pointer (some ⟨R,0,none⟩),.agg #[.int .i64 19,.int .i64 a,.int .i64 b]] w (zap B R c w0 (Mc.doI c.mt ⟨19,a,b⟩ s) za3):=by
 have HM:Hid (Mch B R c w0 w s):=h;have HP:Hid (Mc.doI c.mt ⟨19,a,b⟩ s=(Mc.pop s).bind Mc.tell):=rfl;clear h;go_enter Tryz.func182,Tryz.ntmps182;go_wp2_with fail;refine (zft B R c w0 s _ (HM.out.alloc _)).mono ?_;intro e w1 he
 rcases he.parts with ⟨x,s1,HR,rfl,Hm⟩ | ⟨s1,HR,rfl,Hm⟩<;>clear he<;>simp only [intV]
 . have Bc:=hid (HP.out.trans (bind_ok _ HR.out))
   clear HP HR;go_wp2_with fail;refine (tell_any B R c w0 s1 _ _ Hm.out).mono ?_;intro e w2 he
   rcases he.parts with ⟨u,s2,HR,rfl,BV⟩ | ⟨s2,HR,rfl,BV⟩<;>clear he<;>simp only [za3]
   . go_wp2_with fail
     go_returns
     exact zap.ok (Bc.out.trans HR.out) rfl BV.out
   . go_wp2_with fail
     exact ⟨rfl,zap.of_stop (Bc.out.trans HR.out) BV.out⟩
 . go_wp2_with fail
   exact ⟨rfl,zap.of_stop (HP.out.trans (za6 _ HR.out)) Hm.out⟩
theorem z9n (B R:Nat) (c:Mc.Cfg) (w0:World) (s:Mc.St) (a b:Int) (w:World) (h:Mch B R c w0 w s) :
 Calls Tryz.prog 182 #[.pointer (some ⟨R,0,none⟩),.agg #[.int .i64 17,.int .i64 a,.int .i64 b]] w (zap B R c w0 (Mc.doI c.mt ⟨17,a,b⟩ s) za3):=by
 have HM:Hid (Mch B R c w0 w s):=h;have HP:Hid (Mc.doI c.mt ⟨17,a,b⟩ s=(Mc.pop s).bind fun _ s=>.ok () s):=rfl;clear h;go_enter Tryz.func182,Tryz.ntmps182;go_wp2_with fail;refine (zft B R c w0 s _ (HM.out.alloc _)).mono ?_;intro e w1 he
 rcases he.parts with ⟨x,s1,HR,rfl,Hm⟩ | ⟨s1,HR,rfl,Hm⟩<;>clear he<;>simp only [intV]
 . go_wp2_with fail
   go_returns
   exact zap.ok (HP.out.trans (bind_ok _ HR.out)) rfl Hm.out
 . go_wp2_with fail
   exact ⟨rfl,zap.of_stop (HP.out.trans (za6 _ HR.out)) Hm.out⟩
theorem Mch.pc {B R:Nat} {c:Mc.Cfg} {w0 w:World} {s:Mc.St} (h:Mch B R c w0 w s) (e:Int):Mch B R c w0 (w.setCell ⟨R,1,none⟩ (.int .i64 e)) { s with pc:=e }:=by
 obtain ⟨T,v,h⟩:=h;exact ⟨T,v,h.setPc e⟩
theorem Mch.cell1 {B R:Nat} {c:Mc.Cfg} {w0 w:World} {s:Mc.St} (h:Mch B R c w0 w s):w.cell? ⟨R,1,none⟩=some (.int .i64 s.pc)/\w.frozen? ⟨R,1,none⟩=false/\R<w.heap.size:=by
 obtain ⟨T,v,h⟩:=h;exact ⟨h.cell.2.1,h.cell.2.2.2.2.2.2.2.2.2.2.2.2.2 1,h.ltR⟩
theorem z9o (B R:Nat) (c:Mc.Cfg) (w0:World) (s:Mc.St) (a b:Int) (w:World) (h:Mch B R c w0 w s) :
 Calls Tryz.prog 182 #[.pointer (some ⟨R,0,none⟩),.agg #[.int .i64 11,.int .i64 a,.int .i64 b]] w (zap B R c w0 (Mc.doI c.mt ⟨11,a,b⟩ s) za3):=by
 have HM:Hid (Mch B R c w0 w s):=h;have HP:Hid (Mc.doI c.mt ⟨11,a,b⟩ s = .ok () { s with pc:=a }):=rfl;obtain ⟨c1,f1,hl⟩:=h.cell1;clear h;go_enter Tryz.func182,Tryz.ntmps182;go_wp2_with fail
 go_returns
 exact zap.ok HP.out rfl ((HM.out.pc a).alloc _)
theorem z9p (B R:Nat) (c:Mc.Cfg) (w0:World) (s:Mc.St) (a b:Int) (w:World) (h:Mch B R c w0 w s) :
 Calls Tryz.prog 182 #[.pointer (some ⟨R,0,none⟩),.agg #[.int .i64 12,.int .i64 a,.int .i64 b]] w (zap B R c w0 (Mc.doI c.mt ⟨12,a,b⟩ s) za3):=by
 have HM:Hid (Mch B R c w0 w s):=h;have HP:Hid (Mc.doI c.mt ⟨12,a,b⟩ s=(Mc.pop s).bind fun n s=>.ok () (if n=0 then { s with pc:=a } else s)):=rfl;have Bk:=h.get.2.2;clear h;obtain ⟨T,v,h⟩:=HM.out;have HA:=hid h;clear h;go_enter Tryz.func182,Tryz.ntmps182;go_wp2_with fail;refine (zf5 B R c w0 s _ T v (HA.out.alloc _)).mono ?_;rintro e w1 ⟨he,hk⟩
 have d1:w1.cell? ⟨w.heap.size,1,none⟩=some (.int .i64 a):=((World.cell?_of_block (w:=w.alloc _) (hk w.heap.size (by omega))).trans (by simp))
 rcases he.plain.parts with ⟨x,s1,HR,rfl,Hm⟩ | ⟨s1,HR,rfl,Hm⟩<;>clear he hk<;>simp only [intV]
 . have Bc:=hid (HP.out.trans (bind_ok _ HR.out))
   clear HP HR;obtain ⟨c1,f1,hl⟩:=Hm.out.cell1
   by_cases hx:x=0
   . have BM:Hid (Mc.doI c.mt ⟨12,a,b⟩ s = .ok () { s1 with pc:=a }):=by
      have:=Bc.out;rw [if_pos hx] at this;exact this
     subst hx;clear Bc;go_wp2_with fail
     go_returns
     exact zap.ok BM.out rfl (Hm.out.pc a)
   . have BM:Hid (Mc.doI c.mt ⟨12,a,b⟩ s = .ok () s1):=by
      have:=Bc.out;rw [if_neg hx] at this;exact this
     have Bz:(x == 0)=false:=beq_eq_false_iff_ne.2 hx;clear Bc hx;go_wp2_with fail
     go_returns
     exact zap.ok BM.out rfl Hm.out
 . go_wp2_with fail
   exact ⟨rfl,zap.of_stop (HP.out.trans (za6 _ HR.out)) Hm.out⟩
theorem z9q (B R:Nat) (c:Mc.Cfg) (w0:World) (s:Mc.St) (a b:Int) (w:World) (h:Mch B R c w0 w s) :
 Calls Tryz.prog 182 #[.pointer (some ⟨R,0,none⟩),.agg #[.int .i64 20,.int .i64 a,.int .i64 b]] w (zap B R c w0 (Mc.doI c.mt ⟨20,a,b⟩ s) za3):=by
 have HM:Hid (Mch B R c w0 w s):=h;have HP:Hid (Mc.doI c.mt ⟨20,a,b⟩ s = .stop { s with en:=0 }):=rfl;clear h;go_enter Tryz.func182,Tryz.ntmps182;go_wp2_with fail;refine (zg6 0 _ (HM.out.alloc _)).mono ?_;rintro e w2 ⟨rfl,hm⟩;go_wp2_with fail;exact ⟨rfl,zap.stop HP.out rfl hm⟩
theorem z9r (B R:Nat) (c:Mc.Cfg) (w0:World) (s:Mc.St) (a b:Int) (w:World) (h:Mch B R c w0 w s) :
 Calls Tryz.prog 182 #[.pointer (some ⟨R,0,none⟩),.agg #[.int .i64 21,.int .i64 a,.int .i64 b]] w (zap B R c w0 (Mc.doI c.mt ⟨21,a,b⟩ s) za3):=by
 have HM:Hid (Mch B R c w0 w s):=h;have HP:Hid (Mc.doI c.mt ⟨21,a,b⟩ s = .ok () s):=rfl;clear h;go_enter Tryz.func182,Tryz.ntmps182;go_wp2_with fail
 go_returns
 exact zap.ok HP.out rfl (HM.out.alloc _)
end Mx
end Go.Proofs.YtndkhgakfodldaaGreatDoor
