import Derived.Test.YtndkhgakfodldaaGreatDoorHm
namespace Go.Proofs.YtndkhgakfodldaaGreatDoor
set_option maxRecDepth 100000
set_option maxHeartbeats 12800000
open Go.RowKit Go.Maps Go.WideMaps
set_option linter.unusedSimpArgs false
set_option linter.unusedVariables false
theorem zqu (v:Sv):∀ (l:List Ex) (E:Int),(∀ x ∈ l,∀ E,zed (exsT v x.args E).1/\(exsT v x.args E).1.length<=5000)->zed (exsT v l E).1/\(exsT v l E).1.length=l.length
 | [],E,_=>by rw [exsT];exact ⟨by unfold zed;trivial,rfl⟩
 | x :: r,E,h=>by
   have h1:=h x (vbg ..) (ndT v x E).2;have h2:=zqu v r (exT v x E).2 (fun y hy=>h y (vbi _ hy));rw [exsT];refine ⟨?_,by simp [h2.2]⟩;unfold zed;refine ⟨?_,h2.1⟩;rw [zrv];unfold Nd.few;exact ⟨h1.2,h1.1⟩
theorem zt9 (v:Sv):∀ (k:Nat) (l:List Ex) (E:Int),zai k l=false->zed (exsT v l E).1/\(exsT v l E).1.length<=5000
 | 0,l,E,h=>by
   have h0:¬ 0<l.length:=of_decide_eq_false h;have h1:l=[]:=vaj (by omega);subst h1;rw [exsT];exact ⟨by unfold zed;trivial,by simp⟩
 | k+1,l,E,h=>by
   unfold zai at h;rw [vap] at h;have h3:¬ 3<l.length:=of_decide_eq_false h.1;have h2:=zqu v l E (fun x hx E=>zt9 v k x.args E (by have:=vau.1 h.2 x hx;simpa using this));exact ⟨h2.1,by rw [h2.2];omega⟩
theorem zqv (v:Sv):∀ (l:List St) (E:Int),(∀ x ∈ l,∀ E,(zed (exsT v x.args E).1/\(exsT v x.args E).1.length<=5000)/\(zcl (blT v x.body E).1/\(blT v x.body E).1.length<=5000)/\zcl (blT v x.other E).1/\(blT v x.other E).1.length<=5000)->zcl (blT v l E).1/\(blT v l E).1.length=l.length
 | [],E,_=>by rw [blT];exact ⟨by unfold zcl;trivial,rfl⟩
 | x :: r,E,h=>by
   have h1:=(h x (vbg ..) (acT v x E).2).1;have h3:=(h x (vbg ..) (exsT v x.args (acT v x E).2).2).2.1;have h4:=(h x (vbg ..) (blT v x.body (exsT v x.args (acT v x E).2).2).2).2.2;have h2:=zqv v r (stT v x E).2 (fun y hy=>h y (vbi _ hy));rw [blT];refine ⟨?_,by simp [h2.2]⟩;unfold zcl;refine ⟨?_,h2.1⟩;rw [zrw];unfold Ac.few;exact ⟨⟨h1.2,h1.1⟩,⟨h3.2,h3.1⟩,h4.2,h4.1⟩
theorem zmg (v:Sv):∀ (k:Nat) (l:List St) (E:Int),zag k l=false->zcl (blT v l E).1/\(blT v l E).1.length<=5000
 | 0,l,E,h=>by cases h
 | k+1,l,E,h=>by
   unfold zag at h;rw [vap] at h;have h3:¬ 10<l.length:=of_decide_eq_false h.1
   have hn:∀ E,zcl (blT v [] E).1/\(blT v [] E).1.length<=5000:=fun E=>by rw [blT];exact ⟨by unfold zcl;trivial,by simp⟩
   have h2:=zqv v l E (fun x hx E=>by
    have h2:=vau.1 h.2 x hx;simp only [vdx,not_or,van,not_and,vce,decide_eq_true_eq] at h2;refine ⟨zt9 v 6 x.args E h2.1,?_,?_⟩
    . by_cases h0:0<x.body.length
      . exact zmg v k x.body E (h2.2.1 (Or.inr h0))
      . rw [vaj (by omega:x.body.length=0)];exact hn E
    . by_cases h0:0<x.other.length
      . exact zmg v k x.other E (h2.2.2 h0)
      . rw [vaj (by omega:x.other.length=0)];exact hn E)
   exact ⟨h2.1,by rw [h2.2];omega⟩
structure UnFew (u:Un):Prop where
 uses:u.uses.length<=5000
 parts:u.parts.length<=5000
 body:∀ p ∈ u.parts,p.body.length<=5000/\zcl p.body
 main:u.main.length<=5000/\zcl u.main
theorem zyx (m:Mo) (l:List Fc):∀ (ps:List Pr) (E:Int),(∀ p ∈ ps,zag 6 p.body=false)->(psT m l ps E).1.length=ps.length/\∀ q ∈ (psT m l ps E).1,q.body.length<=5000/\zcl q.body
 | [],E,_=>⟨rfl,fun q hq=>by cases hq⟩
 | p :: r,E,h=>by
   have h1:=zmg (svM m l p.own) 6 p.body (dupR p.own E) (h p (vbg ..));have h2:=zyx m l r (prT m l p E).2 (fun y hy=>h y (vbi _ hy));refine ⟨by show (_ :: _:List Pt).length=_;simp [h2.1],fun q hq=>?_⟩
   rcases vbo.1 hq with rfl | hq
   . exact ⟨h1.2,h1.1⟩
   . exact h2.2 q hq
theorem z01 {m:Mo} (l:List Fc) (h:m.err=0):UnFew (unT m l).1:=by
 have hp:=zc5 h;have h1:=zyx m l m.procs 0 (fun p hp'=>(hp.2.2.2.1 p hp').2.2);have h2:=zmg (svM m l []) 6 m.main (psT m l m.procs 0).2 hp.2.2.2.2;exact ⟨by show m.uses.length<=5000;have:=hp.1;omega,by show (psT m l m.procs 0).1.length<=5000;rw [h1.1];have:=hp.2.2.1;omega,h1.2,h2.2,h2.1⟩
theorem zo7 {m:Mo} {l:List Fc} {u:Un} (h:resolveM m l = .ok u):UnFew u:=by
 rw [← zig] at h;unfold ziy at h
 split at h
 . cases h
 . rename_i hc
   split at h
   . cases h
   . split at h
     . split at h
       . rw [← vcv h]
         exact z01 l (zfq (by simpa using hc))
       . cases h
     . cases h
theorem EAt.str {w:World} {A:Nat->Prop} {a:OA} {l:List ByteArray} (h:EAt w A a l.length (zan l)) (i:Nat) (hi:i<l.length):∃ b off,a=some ⟨b,off,none⟩/\b<w.heap.size/\w.cell? ⟨b,off+i,none⟩=some (.string l[i]):=by
 obtain ⟨b,off,ha,hb,hc⟩:=h.place (by omega);obtain ⟨v,hv,hd⟩:=hc i (.str l[i]) (by simp [zan,hi]);obtain ⟨rfl,_⟩:=zp6 hd;exact ⟨b,off,ha,hb,hv⟩
theorem EAt.pt {w:World} {A:Nat->Prop} {a:OA} {l:List Pt} (h:EAt w A a l.length (ptsD l)) (i:Nat) (hi:i<l.length):∃ b off a1 k1,a=some ⟨b,off,none⟩/\b<w.heap.size/\w.cell? ⟨b,off+i*3,none⟩=some (.int .i64 l[i].params)/\w.cell? ⟨b,off+i*3+1,none⟩=some (.int .i64 l[i].locals)/\w.cell? ⟨b,off+i*3+2,none⟩=some (.slice a1 l[i].body.length k1)/\EAt w A a1 l[i].body.length (zc2 l[i].body):=by
 obtain ⟨b,off,ha,hb,hc⟩:=h.place (by omega);generalize hx:l[i]=x;obtain ⟨pa,lo,body⟩:=x
 have g:∀ j d,j<3->(Pt.mk pa lo body).ds[j]? = some d->∃ v,w.cell? ⟨b,off+i*3+j,none⟩=some v/\zez w A d v:=fun j d hj hd=>by
  rw [vbj];exact hc (i*3+j) d ((zd8 Pt.ds 3 (fun _=>rfl) l i hi j hj).trans (by rw [hx];exact hd))
 obtain ⟨v0,q0,d0⟩:=g 0 (.int pa) (by omega) (by simp [Pt.ds]);obtain ⟨v1,q1,d1⟩:=g 1 (.int lo) (by omega) (by simp [Pt.ds]);obtain ⟨v2,q2,d2⟩:=g 2 (.list body.length (zc2 body)) (by omega) (by simp [Pt.ds]);obtain rfl:=zdf d0;obtain rfl:=zdf d1;obtain ⟨a1,k1,rfl,h1⟩:=zhk d2;exact ⟨b,off,a1,k1,ha,hb,q0,q1,q2,h1⟩
theorem zr9 (A A':Nat->Prop) (a b:OA) (c1 c2:Nat) (l:List ByteArray) (w:World) (hbd:l.length<=5000) (ha:EAt w A a l.length (zan l)) (hb:EAt w A' b l.length (zan l)) :
 Calls Tryz.prog 67 #[.slice a l.length c1,.slice b l.length c2] w fun e w'=>e = .returned (.bool true)/\∃ m,w'=w.drewN m:=by
 have HA:=hid ha;have HB:=hid hb;clear ha hb;go_enter Tryz.func67,Tryz.ntmps67;go_wp2_with fail
 go_loopw [5] (fun i wr=>∃ k m:Nat,k<=l.length/\i = .int .i64 k/\wr=w.drewN m) (fun i _=>l.length - (intOf i).toNat)
 case atStart=>exact ⟨0,0,vad _,rfl,rfl⟩
 case round=>
  obtain ⟨k,m,hk,rfl,rfl⟩:=hrel
  by_cases hlt:k<l.length
  . obtain ⟨b1,o1,rfl,hl1,p0⟩:=(EAt.str (l:=l) (HA.out.later (bdN (Below.refl _ _) m))) k hlt
    obtain ⟨b2,o2,rfl,hl2,q0⟩:=(EAt.str (l:=l) (HB.out.later (bdN (Below.refl _ _) m))) k hlt;generalize l[k]=lk at *;generalize hW:w.drewN m=W at *;have HW:=hid hW;clear hW;go_wp2_with fail
    go_quiet ((fail))
    go_wp2_with fail;go_roundw
    case rel=>exact ⟨k+1,m+nq,by omega,by go_num,by rw [← HW.out,vei]⟩
    case measure=>simp [intOf];omega
  . go_wp2_with fail
    go_ret;exact ⟨rfl,m,rfl⟩
theorem zg0 (u:Un) (hf:UnFew u) (A A':Nat->Prop) (x1 x2 x3 z1 z2 z3:OA) (x4 x5 x6 z4 z5 z6:Nat) (w:World) (hx1:EAt w A x1 u.uses.length (zan u.uses)) (hx2:EAt w A x2 u.parts.length (ptsD u.parts)) (hx3:EAt w A x3 u.main.length (zc2 u.main))
 (hz1:EAt w A' z1 u.uses.length (zan u.uses)) (hz2:EAt w A' z2 u.parts.length (ptsD u.parts)) (hz3:EAt w A' z3 u.main.length (zc2 u.main)) :
 Calls Tryz.prog 23 #[.agg #[.string u.name,.slice x1 u.uses.length x4,.int .i64 u.data,.slice x2 u.parts.length x5,.slice x3 u.main.length x6],.agg #[.string u.name,.slice z1 u.uses.length z4,.int .i64 u.data,.slice z2 u.parts.length z5,.slice z3 u.main.length z6]] w fun e w'=>e = .returned (.bool true)/\Below w.heap.size w w':=by
 obtain ⟨W0,hW0⟩:∃ W0,W0=(w.alloc (.cells #[.string u.name,.slice x1 u.uses.length x4,.int .i64 u.data,.slice x2 u.parts.length x5,.slice x3 u.main.length x6] 42)).alloc (.cells #[.string u.name,.slice z1 u.uses.length z4,.int .i64 u.data,.slice z2 u.parts.length z5,.slice z3 u.main.length z6] 42):=⟨_,rfl⟩
 have hB:Below w.heap.size w W0:=by rw [hW0];exact bl2 _ _ _
 have hX:W0.heap[w.heap.size]? = some (.cells #[.string u.name,.slice x1 u.uses.length x4,.int .i64 u.data,.slice x2 u.parts.length x5,.slice x3 u.main.length x6] 42):=by rw [hW0];exact zad (heap_newP _ _)
 have hY:W0.heap[w.heap.size+1]? = some (.cells #[.string u.name,.slice z1 u.uses.length z4,.int .i64 u.data,.slice z2 u.parts.length z5,.slice z3 u.main.length z6] 42):=by rw [hW0];simpa using heap_newP (w.alloc (.cells #[.string u.name,.slice x1 u.uses.length x4,.int .i64 u.data,.slice x2 u.parts.length x5,.slice x3 u.main.length x6] 42)) (.cells #[.string u.name,.slice z1 u.uses.length z4,.int .i64 u.data,.slice z2 u.parts.length z5,.slice z3 u.main.length z6] 42)
 have hn1:=hf.uses;have hn2:=hf.parts;have hn3:=hf.main.1;have HF:=hid hf;have H1:=hid (hx1.later hB);have H2:=hid (hx2.later hB);have H3:=hid (hx3.later hB);have G1:=hid (hz1.later hB);have G2:=hid (hz2.later hB);have G3:=hid (hz3.later hB);have HB:=hid hB;have HX:=hid hX;have HY:=hid hY;have HW:=hid hW0;obtain ⟨q0,q1,q2,q3,q4,qz⟩:=zac hX;obtain ⟨r0,r1,r2,r3,r4,rz⟩:=zac hY;have hst:(u.name.toList == u.name.toList)=true:=beq_self_eq_true _;clear hx1 hx2 hx3 hz1 hz2 hz3 hB hX hY hW0 hf;go_enter Tryz.func23,Tryz.ntmps23;go_wp2_with fail;rw [← HW.out];clear HW;go_wp2_with fail;refine (zr9 A A' x1 z1 x4 z4 u.uses W0 hn1 H1.out G1.out).mono ?_;rintro e W1 ⟨rfl,m1,h1⟩
 have hB1:Below W0.heap.size W0 W1:=by rw [h1];exact bdN (Below.refl _ _) _
 have HB1:=hid hB1;clear h1 hB1 q0 q1 q2 q3 q4 qz r0 r1 r2 r3 r4 rz;obtain ⟨q0,q1,q2,q3,q4,qz⟩:=zac ((HB1.out.block _ (zaa HX.out)).trans HX.out);obtain ⟨r0,r1,r2,r3,r4,rz⟩:=zac ((HB1.out.block _ (zaa HY.out)).trans HY.out);have HC2:=hid (zif _ u.main A A' x3 z3 x6 z6 W1 (vda _) HF.out.main.1 HF.out.main.2 (H3.out.later HB1.out) (G3.out.later HB1.out));go_wp2_with fail;refine HC2.out.mono ?_;rintro e W2 ⟨rfl,m2,h2⟩
 have hB2:Below W1.heap.size W1 W2:=by rw [h2];exact bdN (Below.refl _ _) _
 have HB2:=hid (thenB HB1.out hB2);clear h2 hB2 HC2 q0 q1 q2 q3 q4 qz r0 r1 r2 r3 r4 rz;have HXY:=hid (fun k=>(⟨(bdN HB2.out k).block _ (zaa HX.out) |>.trans HX.out,(bdN HB2.out k).block _ (zaa HY.out) |>.trans HY.out⟩:(W2.drewN k).heap[w.heap.size]? = some (.cells #[.string u.name,.slice x1 u.uses.length x4,.int .i64 u.data,.slice x2 u.parts.length x5,.slice x3 u.main.length x6] 42)/\(W2.drewN k).heap[w.heap.size+1]? = some (.cells #[.string u.name,.slice z1 u.uses.length z4,.int .i64 u.data,.slice z2 u.parts.length z5,.slice z3 u.main.length z6] 42)));obtain ⟨q0,q1,q2,q3,q4,qz⟩:=zac (HXY.out 0).1;obtain ⟨r0,r1,r2,r3,r4,rz⟩:=zac (HXY.out 0).2
 replace q3:W2.cell? _=_:=q3
 replace r3:W2.cell? _=_:=r3
 clear q0 q1 q2 q4 qz r0 r1 r2 r4 rz;go_wp2_with fail;clear q3 r3
 go_loopw [5] (fun i wr=>∃ k d:Nat,k<=u.parts.length/\i = .int .i64 k/\wr=W2.drewN d) (fun i _=>u.parts.length - (intOf i).toNat)
 case atStart=>exact ⟨0,0,vad _,rfl,zo5 _⟩
 case round=>
  obtain ⟨j,d,hj,rfl,hd⟩:=hrel;have HE:=hid hd;obtain ⟨_,_,_,q3,_,qz⟩:=zac (HXY.out d).1;obtain ⟨_,_,_,r3,_,rz⟩:=zac (HXY.out d).2;have hl0:=zaa (HXY.out d).1;have hl1:=zaa (HXY.out d).2
  have hb:Below W0.heap.size W0 wr:=by rw [hd];exact bdN HB2.out _
  rw [← hd] at q3 r3 qz rz hl0 hl1;clear hd
  by_cases hlt:j<u.parts.length
  . obtain ⟨b,off,a1,k1,rfl,hbl,t0,t1,t2,h1⟩:=(H2.out.later hb).pt j hlt
    obtain ⟨b',off',a1',k1',rfl,hbl',y0,y1,y2,h1'⟩:=(G2.out.later hb).pt j hlt;have HFp:=HF.out.body u.parts[j] (vah _);have HC:=hid (fun (k:Nat)=>zif _ u.parts[j].body A A' a1 a1' k1 k1' (wr.drewN k) (vda _) HFp.1 HFp.2 (h1.later (bdN (Below.refl _ _) _)) (h1'.later (bdN (Below.refl _ _) _)));have hal:=HFp.1;clear h1 h1' HFp hb;generalize u.parts[j]=x at *;obtain ⟨pa,lo,body⟩:=x;simp only [] at t0 t1 t2 y0 y1 y2 HC hal
    have HS:Hid (∀ k,(wr.drewN k).cell? ⟨b,off+j*3,none⟩=some (.int .i64 pa)/\(wr.drewN k).cell? ⟨b,off+j*3+1,none⟩=some (.int .i64 lo)/\(wr.drewN k).cell? ⟨b,off+j*3+2,none⟩=some (.slice a1 body.length k1)/\(wr.drewN k).cell? ⟨b',off'+j*3,none⟩=some (.int .i64 pa)/\(wr.drewN k).cell? ⟨b',off'+j*3+1,none⟩=some (.int .i64 lo)/\(wr.drewN k).cell? ⟨b',off'+j*3+2,none⟩=some (.slice a1' body.length k1')/\(wr.drewN k).cell? ⟨w.heap.size,3,none⟩=some (.slice (some ⟨b,off,none⟩) u.parts.length x5)/\(wr.drewN k).cell? ⟨w.heap.size+1,3,none⟩=some (.slice (some ⟨b',off',none⟩) u.parts.length z5)):=fun k=>⟨t0,t1,t2,y0,y1,y2,q3,r3⟩
    clear t0 t1 t2 y0 y1 y2 qz rz;go_upto_region 6 with fail
    go_cut [93] from 43 to 93 (fun v wc=>v = .bool false/\∃ k,wc=wr.drewN k)
    case first=>
     clear q3 r3;refine wp_region_held_drew (S:=(fun W=>W.cell? ⟨b,off+j*3,none⟩=some (.int .i64 pa)/\W.cell? ⟨b,off+j*3+1,none⟩=some (.int .i64 lo)/\W.cell? ⟨b,off+j*3+2,none⟩=some (.slice a1 body.length k1)/\W.cell? ⟨b',off'+j*3,none⟩=some (.int .i64 pa)/\W.cell? ⟨b',off'+j*3+1,none⟩=some (.int .i64 lo)/\W.cell? ⟨b',off'+j*3+2,none⟩=some (.slice a1' body.length k1')/\W.cell? ⟨w.heap.size,3,none⟩=some (.slice (some ⟨b,off,none⟩) u.parts.length x5)/\W.cell? ⟨w.heap.size+1,3,none⟩=some (.slice (some ⟨b',off',none⟩) u.parts.length z5))) (by kernel_rfl) (HS.out 1) (fun hHeld=>?_);refine tkh 0 (.pointer (some ⟨w.heap.size,3,none⟩)) rfl (by kernel_rfl) (fun _ _ _ h=>h) (fun W hW=>by kernel_rfl) hHeld ?_;refine tkh 1 (.slice (some ⟨b,off,none⟩) u.parts.length x5) rfl (by kernel_rfl) (fun _ _ _ h=>h) (fun W hW=>by obtain ⟨s0,s1,s2,s3,s4,s5,s6,s7⟩:=hW;go_simp) hHeld ?_
     refine tkh 2 (.int .i64 j) rfl (by kernel_rfl) (fun _ _ _ h=>h) (fun W hW=>by kernel_rfl) hHeld ?_;refine tkh 3 (.pointer (some ⟨b,off+j*3,none⟩)) rfl (by kernel_rfl) (fun _ _ _ h=>h) (fun W hW=>by go_simp) hHeld ?_;refine tkh 4 (.pointer (some ⟨b,off+j*3,none⟩)) rfl (by kernel_rfl) (fun _ _ _ h=>h) (fun W hW=>by kernel_rfl) hHeld ?_;refine tkh 5 (.int .i64 pa) rfl (by kernel_rfl) (fun _ _ _ h=>h) (fun W hW=>by obtain ⟨s0,s1,s2,s3,s4,s5,s6,s7⟩:=hW;go_simp) hHeld ?_;refine tkh 6 (.pointer (some ⟨w.heap.size+1,3,none⟩)) rfl (by kernel_rfl) (fun _ _ _ h=>h) (fun W hW=>by kernel_rfl) hHeld ?_;refine tkh 7 (.slice (some ⟨b',off',none⟩) u.parts.length z5) rfl (by kernel_rfl) (fun _ _ _ h=>h) (fun W hW=>by obtain ⟨s0,s1,s2,s3,s4,s5,s6,s7⟩:=hW;go_simp) hHeld ?_;refine tkh 8 (.int .i64 j) rfl (by kernel_rfl) (fun _ _ _ h=>h) (fun W hW=>by kernel_rfl) hHeld ?_
     refine tkh 9 (.pointer (some ⟨b',off'+j*3,none⟩)) rfl (by kernel_rfl) (fun _ _ _ h=>h) (fun W hW=>by go_simp) hHeld ?_
     (try simp only [Act.put,vab,vae,vaf])
     refine tkh 10 (.pointer (some ⟨b',off'+j*3,none⟩)) rfl (by kernel_rfl) (fun _ _ _ h=>h) (fun W hW=>by kernel_rfl) hHeld ?_;refine tkh 11 (.int .i64 pa) rfl (by kernel_rfl) (fun _ _ _ h=>h) (fun W hW=>by obtain ⟨s0,s1,s2,s3,s4,s5,s6,s7⟩:=hW;go_simp) hHeld ?_;refine tkh 12 (.bool false) rfl (by kernel_rfl) (fun _ _ _ h=>h) (fun W hW=>by go_simp) hHeld ?_;refine tkh 13 (.bool false) rfl (by kernel_rfl) (fun _ _ _ h=>h) (fun W hW=>by kernel_rfl) hHeld ?_;refine tkh 14 (.pointer (some ⟨w.heap.size,3,none⟩)) rfl (by kernel_rfl) (fun _ _ _ h=>h) (fun W hW=>by kernel_rfl) hHeld ?_;refine tkh 15 (.slice (some ⟨b,off,none⟩) u.parts.length x5) rfl (by kernel_rfl) (fun _ _ _ h=>h) (fun W hW=>by obtain ⟨s0,s1,s2,s3,s4,s5,s6,s7⟩:=hW;go_simp) hHeld ?_;refine tkh 16 (.int .i64 j) rfl (by kernel_rfl) (fun _ _ _ h=>h) (fun W hW=>by kernel_rfl) hHeld ?_
     refine tkh 17 (.pointer (some ⟨b,off+j*3,none⟩)) rfl (by kernel_rfl) (fun _ _ _ h=>h) (fun W hW=>by go_simp) hHeld ?_;refine tkh 18 (.pointer (some ⟨b,off+j*3+1,none⟩)) rfl (by kernel_rfl) (fun _ _ _ h=>h) (fun W hW=>by kernel_rfl) hHeld ?_;refine tkh 19 (.int .i64 lo) rfl (by kernel_rfl) (fun _ _ _ h=>h) (fun W hW=>by obtain ⟨s0,s1,s2,s3,s4,s5,s6,s7⟩:=hW;go_simp) hHeld ?_
     (try simp only [Act.put,vab,vae,vaf])
     refine tkh 20 (.pointer (some ⟨w.heap.size+1,3,none⟩)) rfl (by kernel_rfl) (fun _ _ _ h=>h) (fun W hW=>by kernel_rfl) hHeld ?_;refine tkh 21 (.slice (some ⟨b',off',none⟩) u.parts.length z5) rfl (by kernel_rfl) (fun _ _ _ h=>h) (fun W hW=>by obtain ⟨s0,s1,s2,s3,s4,s5,s6,s7⟩:=hW;go_simp) hHeld ?_;refine tkh 22 (.int .i64 j) rfl (by kernel_rfl) (fun _ _ _ h=>h) (fun W hW=>by kernel_rfl) hHeld ?_;refine tkh 23 (.pointer (some ⟨b',off'+j*3,none⟩)) rfl (by kernel_rfl) (fun _ _ _ h=>h) (fun W hW=>by go_simp) hHeld ?_;refine tkh 24 (.pointer (some ⟨b',off'+j*3+1,none⟩)) rfl (by kernel_rfl) (fun _ _ _ h=>h) (fun W hW=>by kernel_rfl) hHeld ?_;refine tkh 25 (.int .i64 lo) rfl (by kernel_rfl) (fun _ _ _ h=>h) (fun W hW=>by obtain ⟨s0,s1,s2,s3,s4,s5,s6,s7⟩:=hW;go_simp) hHeld ?_;refine tkh 26 (.bool false) rfl (by kernel_rfl) (fun _ _ _ h=>h) (fun W hW=>by go_simp) hHeld ?_
     refine tkh 27 (.bool false) rfl (by kernel_rfl) (fun _ _ _ h=>h) (fun W hW=>by kernel_rfl) hHeld ?_;refine tkh 28 (.bool false) rfl (by kernel_rfl) (fun _ _ _ h=>h) (fun W hW=>by kernel_rfl) hHeld ?_;refine tkh 29 (.pointer (some ⟨w.heap.size,3,none⟩)) rfl (by kernel_rfl) (fun _ _ _ h=>h) (fun W hW=>by kernel_rfl) hHeld ?_
     (try simp only [Act.put,vab,vae,vaf])
     refine tkh 30 (.slice (some ⟨b,off,none⟩) u.parts.length x5) rfl (by kernel_rfl) (fun _ _ _ h=>h) (fun W hW=>by obtain ⟨s0,s1,s2,s3,s4,s5,s6,s7⟩:=hW;go_simp) hHeld ?_;refine tkh 31 (.int .i64 j) rfl (by kernel_rfl) (fun _ _ _ h=>h) (fun W hW=>by kernel_rfl) hHeld ?_;refine tkh 32 (.pointer (some ⟨b,off+j*3,none⟩)) rfl (by kernel_rfl) (fun _ _ _ h=>h) (fun W hW=>by go_simp) hHeld ?_;refine tkh 33 (.pointer (some ⟨b,off+j*3+2,none⟩)) rfl (by kernel_rfl) (fun _ _ _ h=>h) (fun W hW=>by kernel_rfl) hHeld ?_;refine tkh 34 (.slice a1 body.length k1) rfl (by kernel_rfl) (fun _ _ _ h=>h) (fun W hW=>by obtain ⟨s0,s1,s2,s3,s4,s5,s6,s7⟩:=hW;go_simp) hHeld ?_;refine tkh 35 (.pointer (some ⟨w.heap.size+1,3,none⟩)) rfl (by kernel_rfl) (fun _ _ _ h=>h) (fun W hW=>by kernel_rfl) hHeld ?_;refine tkh 36 (.slice (some ⟨b',off',none⟩) u.parts.length z5) rfl (by kernel_rfl) (fun _ _ _ h=>h) (fun W hW=>by obtain ⟨s0,s1,s2,s3,s4,s5,s6,s7⟩:=hW;go_simp) hHeld ?_
     refine tkh 37 (.int .i64 j) rfl (by kernel_rfl) (fun _ _ _ h=>h) (fun W hW=>by kernel_rfl) hHeld ?_;refine tkh 38 (.pointer (some ⟨b',off'+j*3,none⟩)) rfl (by kernel_rfl) (fun _ _ _ h=>h) (fun W hW=>by go_simp) hHeld ?_;refine tkh 39 (.pointer (some ⟨b',off'+j*3+2,none⟩)) rfl (by kernel_rfl) (fun _ _ _ h=>h) (fun W hW=>by kernel_rfl) hHeld ?_
     (try simp only [Act.put,vab,vae,vaf])
     refine tkh 40 (.slice a1' body.length k1') rfl (by kernel_rfl) (fun _ _ _ h=>h) (fun W hW=>by obtain ⟨s0,s1,s2,s3,s4,s5,s6,s7⟩:=hW;go_simp) hHeld ?_
     (try simp only [Act.put,vab,vae,vaf])
     refine wpAnyH_ready (rs:=[41]) (by kernel_rfl) (by simp) ?_;refine AllReadyH.cons rfl ?_ AllReadyH.nil;intro Kq hK;go_simp
     go_wp2_with (go_at_call 68;refine (HC.out 1).mono ?_;rintro e w1 ⟨rfl,m1,rfl⟩)
     refine hK.out _ _ (HS.out _) (fun hHeld=>?_);clear hK Kq;refine tkh 42 (.bool false) rfl (by kernel_rfl) (fun _ _ _ h=>h) (fun W hW=>by kernel_rfl) hHeld ?_;refine tkh 43 (.bool false) rfl (by kernel_rfl) (fun _ _ _ h=>h) (fun W hW=>by kernel_rfl) hHeld ?_;refine wpAnyH_done (by kernel_rfl) ?_ _;clear hHeld;go_simp;go_wp2_with fail;go_meet;exact ⟨rfl,_,rfl⟩
    case rest=>
     obtain ⟨rfl,k,hk⟩:=hcut;have HK:=hid hk;clear hk HC HS q3 r3;go_wp2_with fail;go_roundw
     case rel=>exact ⟨j+1,d+k,by omega,by go_num,by rw [HK.out,HE.out,vei]⟩
     case measure=>simp [intOf];omega
  . obtain rfl:j=u.parts.length:=by omega
    go_wp2_with fail;go_ret;exact ⟨rfl,by rw [HE.out];exact bdN (thenB HB.out HB2.out) _⟩
set_option maxHeartbeats 6400000
theorem zua:UnFew ⟨⟨#[]⟩,[],0,[],[]⟩:=⟨by decide,by decide,fun p hp=>(by cases hp),by decide,by unfold zcl;trivial⟩
theorem zh0 (hSB:z2b 17) (m:Mo) (v:Value) (a1:OA) (c1:Nat) (a2:OA) (c2:Nat) (a3:OA) (c3:Nat) (a4:OA) (c4:Nat) (l:List Fc) (al:OA) (cl:Nat) (w:World) (hM:MoAt w Tt m v a1 c1 a2 c2 a3 c3 a4 c4) (hs:Small m) (hF:DAt w Tt al l.length (ztt l)) :
 Calls Tryz.prog 4 #[v,.slice al l.length cl] w fun e w'=>e = .returned (.bool true)/\Below w.heap.size w w':=by
 obtain rfl:=hM.val;have HS:=hid hSB;have HC:=hid (zfa m _ a1 c1 a2 c2 a3 c3 a4 c4 l al cl (w.alloc (.cells #[.string m.name,.slice a1 m.uses.length c1,.slice a2 m.decls.length c2,.slice a3 m.procs.length c3,.slice a4 m.main.length c4] 27)) (hM.later (al1 _ _)) (hF.later (al1 _ _)));have HRo:=hid (fun W (hW:Below w.heap.size w W)=>zmf m _ a1 c1 a2 c2 a3 c3 a4 c4 l al cl W (hM.later hW) hs (hF.later hW));have hub:=hM.uses.bound;have hfb:=hF.bound;have HOk:=hid (fun u (h:resolveM m l = .ok u)=>zo7 h);clear hSB hM hs hF;generalize resolveM m l=r at *;go_enter Tryz.func4,Tryz.ntmps4;go_wp2_with fail;refine HC.out.mono ?_;rintro e w1 ⟨hend,hb1⟩;have HB1:=hid (thenB (al1 w _) hb1);have hz1:=hb1.size;simp at hz1;have HX1:=hid ((hb1.block w.heap.size (by simp)).trans (heap_newP w (.cells #[.string m.name,.slice a1 m.uses.length c1,.slice a2 m.decls.length c2,.slice a3 m.procs.length c3,.slice a4 m.main.length c4] 27)))
 obtain ⟨q0,q1,q2,q3,q4,_⟩:=zac HX1.out;have qz:=zaa HX1.out;clear hb1 HC
 cases r with
 | error c=>
   obtain ⟨rfl,hc⟩:=hend;clear HOk;go_wp2_with fail;refine (HRo.out _ (thenB HB1.out (al1 _ _))).mono ?_;rintro e w2 ⟨hend,hb2⟩;have HBb:=hid (thenB (al1 w1 _) hb2);have HB2:=hid (thenB HB1.out HBb.out);have hz2:=HBb.out.size;have HA2:=hid ((hb2.block w1.heap.size (by simp)).trans (heap_newP w1 (.cells #[.string ⟨#[]⟩,.slice none 0 0,.int .i64 0,.slice none 0 0,.slice none 0 0] 42)));obtain ⟨rfl, -⟩:=hend;have HA3:Hid ((w2.alloc (.cells #[.string ⟨#[]⟩,.slice none 0 0,.int .i64 0,.slice none 0 0,.slice none 0 0] 42)).heap[w1.heap.size]? = some (.cells #[.string ⟨#[]⟩,.slice none 0 0,.int .i64 0,.slice none 0 0,.slice none 0 0] 42)):=zad HA2.out;have HG0:Hid ((w2.alloc (.cells #[.string ⟨#[]⟩,.slice none 0 0,.int .i64 0,.slice none 0 0,.slice none 0 0] 42)).heap[w2.heap.size]? = some (.cells #[.string ⟨#[]⟩,.slice none 0 0,.int .i64 0,.slice none 0 0,.slice none 0 0] 42)):=heap_newP _ _
   have hl2:=zaa HA2.out;clear hb2 q0 q1 q2 q3 q4 qz;go_wp2_with fail;refine (HS.out _).mono ?_;rintro e W3 ⟨rfl,hb3⟩;have HBg:=hid (thenB (al1 w2 _) hb3);have HBe:=hid (thenB HBb.out HBg.out);have HBw:=hid (thenB HB2.out HBg.out);obtain ⟨q0,q1,q2,q3,q4,_⟩:=zac ((hb3.block _ (zaa HA3.out)).trans HA3.out);obtain ⟨r0,r1,r2,r3,r4,_⟩:=zac ((hb3.block _ (zaa HG0.out)).trans HG0.out);have hl3:=hb3.size;simp at hl3;clear hb3;go_wp2_with fail;refine (zg0 ⟨⟨#[]⟩,[],0,[],[]⟩ zua (fun _=>True) (fun _=>True) none none none none none none 0 0 0 0 0 0 _ (Or.inl rfl) (Or.inl rfl) (Or.inl rfl) (Or.inl rfl) (Or.inl rfl) (Or.inl rfl)).mono ?_;rintro e W4 ⟨rfl,hb4⟩;have HB4:=hid (thenB HBw.out hb4);clear hb4 q0 q1 q2 q3 q4 r0 r1 r2 r3 r4;go_wp2_with fail;go_ret;exact ⟨rfl,HB4.out⟩
 | ok u=>
   have HFw:=hid (HOk.out u rfl);obtain ⟨x1,y1,x2,y2,x3,y3,rfl,hx1,hx2,hx3⟩:=hend;have HE1:=hid hx1;have HE2:=hid hx2;have HE3:=hid hx3;clear hx1 hx2 hx3;have hn1:=HFw.out.uses;have hn2:=HFw.out.parts;have hn3:=HFw.out.main.1;clear HOk;go_wp2_with fail;refine (HRo.out _ (thenB HB1.out (al1 _ _))).mono ?_;rintro e w2 ⟨hend,hb2⟩;have HBb:=hid (thenB (al1 w1 _) hb2);have HB2:=hid (thenB HB1.out HBb.out);have hz2:=HBb.out.size;have HA2:=hid ((hb2.block w1.heap.size (by simp)).trans (heap_newP w1 (.cells #[.string u.name,.slice x1 u.uses.length y1,.int .i64 u.data,.slice x2 u.parts.length y2,.slice x3 u.main.length y3] 42)));obtain ⟨z1,v1,z2,v2,z3,v3,rfl,hx1,hx2,hx3⟩:=hend;have HG1:=hid hx1;have HG2:=hid hx2;have HG3:=hid hx3;clear hx1 hx2 hx3;have HA3:Hid ((w2.alloc (.cells #[.string u.name,.slice z1 u.uses.length v1,.int .i64 u.data,.slice z2 u.parts.length v2,.slice z3 u.main.length v3] 42)).heap[w1.heap.size]? = some (.cells #[.string u.name,.slice x1 u.uses.length y1,.int .i64 u.data,.slice x2 u.parts.length y2,.slice x3 u.main.length y3] 42)):=zad HA2.out
   have HG0:Hid ((w2.alloc (.cells #[.string u.name,.slice z1 u.uses.length v1,.int .i64 u.data,.slice z2 u.parts.length v2,.slice z3 u.main.length v3] 42)).heap[w2.heap.size]? = some (.cells #[.string u.name,.slice z1 u.uses.length v1,.int .i64 u.data,.slice z2 u.parts.length v2,.slice z3 u.main.length v3] 42)):=heap_newP _ _;have hl2:=zaa HA2.out;clear hb2 q0 q1 q2 q3 q4 qz;go_wp2_with fail;refine (HS.out _).mono ?_;rintro e W3 ⟨rfl,hb3⟩;have HBg:=hid (thenB (al1 w2 _) hb3);have HBe:=hid (thenB HBb.out HBg.out);have HBw:=hid (thenB HB2.out HBg.out);obtain ⟨q0,q1,q2,q3,q4,_⟩:=zac ((hb3.block _ (zaa HA3.out)).trans HA3.out);obtain ⟨r0,r1,r2,r3,r4,_⟩:=zac ((hb3.block _ (zaa HG0.out)).trans HG0.out);have hl3:=hb3.size;simp at hl3;clear hb3;go_wp2_with fail;refine (zg0 u HFw.out _ _ x1 x2 x3 z1 z2 z3 y1 y2 y3 v1 v2 v3 W3 (HE1.out.later HBe.out) (HE2.out.later HBe.out) (HE3.out.later HBe.out) (HG1.out.later HBg.out) (HG2.out.later HBg.out) (HG3.out.later HBg.out)).mono ?_
   rintro e W4 ⟨rfl,hb4⟩;have HB4:=hid (thenB HBw.out hb4);clear hb4 q0 q1 q2 q3 q4 r0 r1 r2 r3 r4;go_wp2_with fail;go_ret;exact ⟨rfl,HB4.out⟩
end Go.Proofs.YtndkhgakfodldaaGreatDoor
