import Derived.RowKit
import Derived.Lib.Strings
namespace Go.Proofs.YtndkhgakfodldaaGreatDoor
theorem ae{P:Prop}(h:P:=by omega):P:=h
theorem aq{P:Prop}(h:P:=by decide):P:=h
theorem aA{P:Prop}(h:P:=by simp):P:=h
theorem aD{P:Prop}(h:P:=by (first | exact bl2 _ _ _ | exact (bl2 _ _ _).drew | exact thenB (zbg _ _) (al1 _ _) | exact thenB (al1 _ _) (zbg _ _))):P:=h
theorem aE{P:Prop}(h:P:=by (rw [← HR.out];first | (simp;omega) | (simp;done) | (simp [*];done))):P:=h
theorem aF{P:Prop}(h:P:=by (simp;omega)):P:=h
theorem aH{P:Prop}(h:P:=by rfl):P:=h
theorem aJ{P:Prop}(h:P:=by (first | exact HR.out.symm | (rw [HR.out];first | (simp;omega) | (simp [*];done)))):P:=h
theorem aK{P:Prop}(h:P:=by (simp only [IntKind.wrap,IntKind.bits,IntKind.signed];simp;omega)):P:=h
theorem aL{P:Prop}(h:P:=by (rw [HR.out];first | done | rfl)):P:=h
theorem aP{P:Prop}(h:P:=by (unfold maxLen;omega)):P:=h
theorem aS{P:Prop}(h:P:=by (unfold Addr.add;split<;>simp_all)):P:=h
theorem aT{P:Prop}(h:P:=by (show _<=w.heap.size+1;omega)):P:=h
theorem aU{P:Prop}(h:P:=by (show _<=w1.heap.size;omega)):P:=h
theorem aW{P:Prop}(h:P:=by (first | exact Bj.out.symm | (rw [Bj.out];first | (simp;omega) | (simp [*];done)))):P:=h
theorem bb{P:Prop}(h:P:=by (simp only [zae,zal,zac];omega)):P:=h
theorem bg{P:Prop}(h:P:=by (show w.heap.size≠w1.heap.size;omega)):P:=h
theorem bh{P:Prop}(h:P:=by (show _<=w4.heap.size;omega)):P:=h
theorem bi{P:Prop}(h:P:=by (first | exact HT.out.symm | (rw [HT.out]<;>first | (simp;omega) | (simp [*];done)))):P:=h
theorem bj{P:Prop}(h:P:=by (rw [G1.out,vaj,Ov.out];exact zaf EG.out (fun k hk=>heap_set_ne (p:=(qa M 1)) (by show k≠M;intro e;exact Hg.out J7.out (by have:=Ap.out.size;omega) (by rw [hk,e])) _))):P:=h
theorem bn{P:Prop}(h:P:=by (show k≠M;intro e;exact Hg.out J7.out (by have:=Ap.out.size;omega) (by rw [hk,e]))):P:=h
theorem bo{P:Prop}(h:P:=by (first | exact B9.out.symm | (rw [B9.out];first | (simp;omega) | (simp [*];done)))):P:=h
theorem bq{P:Prop}(h:P:=by (show w.heap.size≠w.heap.size+1;omega)):P:=h
theorem br{P:Prop}(h:P:=by (rw [← Eq];exact zaf Bw.out (fun k hk=>heap_set_ne (p:=(qa M 0)) (by show k≠M;intro e;exact Hg.out J7.out (by have:=Ap.out.size;omega) (by rw [hk,e])) _))):P:=h
theorem bw{P:Prop}(h:P:=by (rw [HV.out];rfl)):P:=h
theorem bx{P:Prop}(h:P:=by (simp only [vaq])):P:=h
theorem bz{P:Prop}(h:P:=by (show w.heap.size<=w1.heap.size;omega)):P:=h
theorem bC{P:Prop}(h:P:=by (first | exact HR.out.symm | (rw [HR.out]<;>first | (simp;omega) | (simp [*];done)))):P:=h
theorem bD{P:Prop}(h:P:=by (first | exact Bj.out.symm | (rw [Bj.out]<;>first | (simp;omega) | (simp [*];done)))):P:=h
theorem bE{P:Prop}(h:P:=by (have:=Ap.out.size;omega)):P:=h
theorem bG{P:Prop}(h:P:=by (rw [← Eq];exact (heap_set_ne (p:=(qa M 0)) (by show wr.heap.size≠M;omega) _).trans ((Ax.out _ _ AZ Js.out).trans AZ.symm))):P:=h
theorem bH{P:Prop}(h:P:=by (rw [Oc.out];exact ⟨a5,c5,rfl,IZ.out.moves ⟨vaa _,fun b _ h=>⟨by have:w.heap.size+1<=b:=h;show w.heap.size<=b;omega,rfl⟩⟩⟩)):P:=h
theorem bI{P:Prop}(h:P:=by (show w.heap.size<=w.heap.size+1;omega)):P:=h
theorem bJ{P:Prop}(h:P:=by (rw [hx];exact hd)):P:=h
theorem bK{P:Prop}(h:P:=by (simp [Region.wanted,BK])):P:=h
theorem bO{P:Prop}(h:P:=by (rw [HR.out];rfl)):P:=h
theorem bP{P:Prop}(h:P:=by (rw [HF.out];exact ⟨_,_,_,_,_,_,_,_,_,_,_,_,_,rfl,Ai⟩)):P:=h
theorem bQ{P:Prop}(h:P:=by (have:w.heap.size+1<=b:=h;show w.heap.size<=b;omega)):P:=h
theorem bR{P:Prop}(h:P:=by (have:=HT.out;omega)):P:=h
theorem bT{P:Prop}(h:P:=by simpa using h):P:=h
theorem bU{P:Prop}(h:P:=by (simp only [zac,za3] at hr;omega)):P:=h
theorem bV{P:Prop}(h:P:=by (show w.heap.size≠w4.heap.size;omega)):P:=h
theorem bW{P:Prop}(h:P:=by (intro k _ hk;omega)):P:=h
theorem bY{P:Prop}(h:P:=by (simp only [zae,zal,zac,za3];omega)):P:=h
theorem bZ{P:Prop}(h:P:=by (unfold wrap64;omega)):P:=h
theorem ce{P:Prop}(h:P:=by (rw [HE.out,show zbt o fa=false from decide_eq_false (by have:=HT.out;omega)];simp)):P:=h
theorem cg{P:Prop}(h:P:=by (simp [Act.eval,Array.replicate])):P:=h
theorem cq{P:Prop}(h:P:=by (intro b _ hb;show b≠w.heap.size+1;omega)):P:=h
theorem ct{P:Prop}(h:P:=by (rw [hX];exact heap_newP _ _)):P:=h
theorem cw{P:Prop}(h:P:=by (rw [vaj];rw [show zak (A5++[y])=zak A5++[.str y] from by simp [zak]];exact Ol.out)):P:=h
theorem cB{P:Prop}(h:P:=by (rw [← Eq];exact At.out.setCell (p:=(qa M 0)) (by show w2.heap.size<=M;omega) _)):P:=h
theorem cC{P:Prop}(h:P:=by (rw [h1,h2,h3,HG.out,HO.out,h7,h8];rfl)):P:=h
theorem cD{P:Prop}(h:P:=by (simp only [false_or] at h;omega)):P:=h
theorem cE{P:Prop}(h:P:=by (simpa [Value.ownBlock] using e)):P:=h
theorem cJ{P:Prop}(h:P:=by (simp [h1])):P:=h
theorem cK{P:Prop}(h:P:=by (rw [B9.out];first | done | rfl)):P:=h
theorem cM{P:Prop}(h:P:=by (simp [s1])):P:=h
theorem cP{P:Prop}(h:P:=by (unfold ptB;rw [decide_eq_true ⟨Dh,E0⟩,decide_eq_false (by omega)];rfl)):P:=h
theorem cT{P:Prop}(h:P:=by (intro b _ hb;omega)):P:=h
theorem cU{P:Prop}(h:P:=by (intro b _ hb;show b≠w.heap.size+1+1;have:w1.heap.size+1<=b:=hb;omega)):P:=h
theorem cY{P:Prop}(h:P:=by (simp [Value.ownBlock] at hk)):P:=h
theorem cZ{P:Prop}(h:P:=by (simp only [zac] at hr;omega)):P:=h
theorem df{P:Prop}(h:P:=by (intro b _ hb;show b≠w1.heap.size;have:w1.heap.size+1<=b:=hb;omega)):P:=h
theorem dg{P:Prop}(h:P:=by (rw [HV.out];exact ⟨rfl,by decide⟩)):P:=h
theorem dh{P:Prop}(h:P:=by (intro b _ hb;have:w2.heap.size<=b:=hb;show b≠w.heap.size+1;omega)):P:=h
theorem di{P:Prop}(h:P:=by (rw [HR.out];exact ⟨rfl,by decide⟩)):P:=h
theorem dk{P:Prop}(h:P:=by (simp [Value.ownBlock] at e)):P:=h
theorem dp{P:Prop}(h:P:=by (simp [St.op])):P:=h
theorem dq{P:Prop}(h:P:=by (rw [hX];exact al1 _ _)):P:=h
theorem du{P:Prop}(h:P:=by (show _=_;rw [HG.out];unfold zcw;rw [if_pos hs,hx];cases g<;>rfl)):P:=h
theorem dw{P:Prop}(h:P:=by (simp only [Value.ownBlock,vbf] at hk;omega)):P:=h
theorem dy{P:Prop}(h:P:=by (show K.D≠B;exact fun e=>h.ro.BD e.symm)):P:=h
theorem dz{P:Prop}(h:P:=by simpa using h2):P:=h
theorem dA{P:Prop}(h:P:=by (rw [HE.out.1];exact Or.inl rfl)):P:=h
theorem dC{P:Prop}(h:P:=by (rw [← zaz hg.1 (by decide) hs])):P:=h
theorem dD{P:Prop}(h:P:=by (rw [HR.out];simp [*]<;>omega)):P:=h
theorem dE{P:Prop}(h:P:=by (rw [HR.out,HT.out])):P:=h
theorem dF{P:Prop}(h:P:=by (unfold zbp;rw [if_neg hk,if_neg AA,if_neg Bq,if_pos CU,hn])):P:=h
theorem dH{P:Prop}(h:P:=by simp at h):P:=h
theorem dI{P:Prop}(h:P:=by simpa using hi):P:=h
theorem dK{P:Prop}(h:P:=by (show _=_;unfold zvw;rw [decide_eq_true t1,vbq,vad t2];rfl)):P:=h
theorem dL{P:Prop}(h:P:=by (have:=hf 2 _ rfl;simpa [cI] using this)):P:=h
theorem dM{P:Prop}(h:P:=by (show w2.heap.size<=M;omega)):P:=h
theorem dN{P:Prop}(h:P:=by (simp at c2;omega)):P:=h
theorem dT{P:Prop}(h:P:=by (simpa using heap_newP (w.alloc _) _)):P:=h
theorem dU{P:Prop}(h:P:=by (simp [h2])):P:=h
theorem dV{P:Prop}(h:P:=by (show wr.heap.size≠M;omega)):P:=h
theorem dW{P:Prop}(h:P:=by (rw [G1.out,QI.out,hp];exact (JE.out _ Bb.out).2.2.2 fv)):P:=h
theorem ee{P:Prop}(h:P:=by (rw [HR.out];exact all_not l _ j A0 h)):P:=h
theorem eg{P:Prop}(h:P:=by (simpa using heap_newP (w.alloc o) p)):P:=h
theorem eh{P:Prop}(h:P:=by (rw [← Eq];exact heap_set (Ax.out _ _ Hq.out IF.out) _)):P:=h
theorem ek{P:Prop}(h:P:=by (rw [HS.out,HA.out];simp [Lx.zea,hc])):P:=h
theorem el{P:Prop}(h:P:=by (rw [HS.out,HA.out];simp [Lx.zea,hd])):P:=h
theorem et{P:Prop}(h:P:=by (have:=HP.out;simp [Mo.bodies];omega)):P:=h
theorem eu{P:Prop}(h:P:=by (have:=A6.size;simp;omega)):P:=h
theorem ew{P:Prop}(h:P:=by (rw [HE.out.1,HE.out.2];rfl)):P:=h
theorem ey{P:Prop}(h:P:=by (show w.heap.size<_;omega)):P:=h
theorem ez{P:Prop}(h:P:=by (show zb2 l=_;rw [CY.out,if_pos zs])):P:=h
theorem eA{P:Prop}(h:P:=by (rw [HR.out,Bj.out])):P:=h
theorem eB{P:Prop}(h:P:=by (rw [hk,e])):P:=h
theorem eC{P:Prop}(h:P:=by (rw [CY.out,if_neg (by simp [zs])])):P:=h
theorem eD{P:Prop}(h:P:=by (simp [Ac.ds])):P:=h
theorem eE{P:Prop}(h:P:=by (simp [hs])):P:=h
theorem eF{P:Prop}(h:P:=by (rw [HR.out,HF.out];rfl)):P:=h
theorem eG{P:Prop}(h:P:=by (rw [hk];exact congrArg some e)):P:=h
theorem eH{P:Prop}(h:P:=by (unfold zdg at h;exact h)):P:=h
theorem eJ{P:Prop}(h:P:=by (rw [HH.out])):P:=h
theorem eK{P:Prop}(h:P:=by (show _<=w1.heap.size+1;omega)):P:=h
theorem eL{P:Prop}(h:P:=by (obtain ⟨D,h1,_⟩:=h;exact h1.lt)):P:=h
theorem eM{P:Prop}(h:P:=by (simp [Un.ds,zlu])):P:=h
theorem eN{P:Prop}(h:P:=by (rw [zfs,vaj,hacc];exact Ba.out)):P:=h
theorem eO{P:Prop}(h:P:=by (have:=HB.out.size;simp;omega)):P:=h
theorem eP{P:Prop}(h:P:=by (simp [zs])):P:=h
theorem eQ{P:Prop}(h:P:=by (unfold zbr;exact zdc)):P:=h
theorem eR{P:Prop}(h:P:=by (have:=h.jb k hk;omega)):P:=h
theorem eS{P:Prop}(h:P:=by (simp only [zi8];omega)):P:=h
theorem eT{P:Prop}(h:P:=by (first | rfl | trivial)):P:=h
theorem eV{P:Prop}(h:P:=by (simp [St.ds])):P:=h
theorem eW{P:Prop}(h:P:=by (show _=_;simp [okF,t0,t1,t2])):P:=h
theorem eX{P:Prop}(h:P:=by (cases hj;exact vaa _)):P:=h
theorem eY{P:Prop}(h:P:=by (rw [ziu];omega)):P:=h
theorem eZ{P:Prop}(h:P:=by (rw [HR.out])):P:=h
theorem fe{P:Prop}(h:P:=by (rw [hc];rfl)):P:=h
theorem fg{P:Prop}(h:P:=by (rw [vep hb];rfl)):P:=h
theorem fh{P:Prop}(h:P:=by (intro b;omega)):P:=h
theorem fi{P:Prop}(h:P:=by (simp [hacc])):P:=h
theorem fj{P:Prop}(h:P:=by (simp [zak])):P:=h
theorem fF{P:Prop}(h:P:=by
 rintro e AC ⟨hk,⟨h,_⟩ | ⟨y',l',u,h,rfl,hr,hd⟩⟩
 . rw [hx] at h;cases h
 . rw [hx] at h
   obtain ⟨rfl,rfl⟩:=vap (vab h);exact ⟨u,rfl,hk,hr,hd⟩):P:=h
theorem fI{P:Prop}(h:P:=by
 intro g cap w' Cz AM AH A0
 have Iq:Below base w w':=((Below.refl base w).alloc AQ _).grown AM ae (fun k hk=>(Ag.lt k hk).1);have Nk:=AM.size;refine h g cap w' ⟨xs++cs.toList,Cz,?_⟩ Iq ae
 have Gh:∀ A':Nat->Prop,(∀ b,b<w.heap.size->A' b->ze5 base v b)->zad w A' w' (ze5 base (.slice (some (qa g 0)) (n+1) cap)):=by
  intro A' hA';refine ⟨ae,fun b hb ha=>⟨⟨(hA' b hb ha).1,fun Nn=>?_⟩,?_⟩⟩
  . have Id:g=b:=by simpa [Value.ownBlock] using Nn
    rcases AH with h1 | h1
    . exact (hA' b hb ha).2 (by rw [h1,Id])
    . omega
  . refine (AM.block b ae (fun h=>(hA' b hb ha).2 h.symm)).trans ?_
    exact ((Below.refl w.heap.size w).alloc (vaa _) (.cells cs e)).block b hb
 exact (Km.moves (Gh _ (fun _ _ h=>h))).append (Jf.moves (Gh A hA))):P:=h
theorem fM{P:Prop}(h:P:=by
 rintro e AC ⟨hk,⟨_,rfl⟩ | ⟨_,_,_,h,_⟩⟩
 . exact ⟨rfl,hk⟩
 . rw [hx] at h;cases h):P:=h
theorem fR{P:Prop}(h:P:=by
 rcases vbi b w.heap.size with h' | h'
 . exact h'
 . simp [World.cell?,vbb h'] at z0):P:=h
theorem fW{P:Prop}(h:P:=by
 exact (G3.out.setCell (p:=(qa w.heap.size 0)) (vaa _) _).setCell (p:=(qa w.heap.size 1)) (vaa _) _):P:=h
theorem fZ{P:Prop}(h:P:=by
 intro j u hj
 subst hH
 have:((qa w.heap.size 0):Addr).add j=(qa w.heap.size j):=aS
 rw [this,vep (heap_newP w _)];simpa using hj):P:=h
theorem gj{P:Prop}(h:P:=by
 intro g cap w' Cz AM AH A0
 have Nk:=AM.size;refine h g cap w' ⟨Cz,((Below.refl base w).alloc AQ _).grown AM ae (fun k hk=>(Aa.lt k hk).1),ae,fun b x hb Ai=>?_,AH.imp id (fun e=>ae)⟩;have B6:(w.alloc (.cells cs e)).heap[b]? = some x:=zab hb;exact (AM.block b (lt_of_heap B6) (fun e=>Ai e.symm)).trans B6):P:=h
theorem gy{P:Prop}(h:P:=by
 obtain ⟨_,rfl⟩:=vap (vab h);omega):P:=h
theorem gz{P:Prop}(h:P:=by
 refine hK _ _ ?_;clear hK K;refine wpAny_ready (rs:=[6]) ah aA ?_;refine ver rfl (fun K hK=>?_) veu;refine zh0 aH 194 _ _ aH en35 _ aH zai (O4.out _) ?_;intro w3 A9;exact (TokWorld.caught ((HW.out.drewT.later Ab).later A9) _ rfl rfl (fun W' hB=>⟨none,0,ew,dA,hB⟩))):P:=h
theorem gC{P:Prop}(h:P:=by
 unfold zio;rw [List.length_flatMap]
 have:∀ l:List Pr,(l.map (fun x=>x.ds.length)).sum=l.length*5:=by
  intro l
  induction l with
  | nil=>rfl
  | cons x r ih=>rw [vco,List.sum_cons,ih,vaw];have:x.ds.length=5:=rfl;omega
 exact this _):P:=h
theorem gK{P:Prop}(h:P:=by
 refine wpList_plain hg fun K' NJ=>?_
 obtain ⟨w',hrun,r1,r2⟩:=hS.put hn hk ⟨x1,x2,x3,x4,x5,x6⟩;simp only [Sh.val] at hrun;unfold Oper.wp;simp [execOp,BC,hm,hx,hv,hrun,Result.andThen];exact NJ _ _ (hK w' r1 r2)):P:=h
theorem gL{P:Prop}(h:P:=by
 have hf:a.eval (.func f) = .func (.func f) #[] #[]:=rfl;simp [execOp,ho,resolve,invoke,hx,hf,h,Deferred.ofValue]):P:=h
theorem gS{P:Prop}(h:P:=by
 intro x h1 h2;refine Cp (k+1) x h1 (fun y hy=>?_);rw [show zgy c (k+1) x.args=x.args.all (fun x=>zay c x&&zgy c k x.args) from rfl,vas] at h2;have h4:=h2 y hy;rw [vac] at h4;exact ih y h4.1 h4.2):P:=h
theorem gT{P:Prop}(h:P:=by
 first | exact zdv (A8.out.alloc A8.out.size _) ae _ _ _ _ | exact (zdv A8.out ae _ _ _ _).alloc aF _):P:=h
theorem gV{P:Prop}(h:P:=by
 exact (((below_drewN ((Below.refl _ _).alloc (vaa _) _) _).setCell (p:=(qa w.heap.size 0)) (vaa _) _).setCell (p:=(qa w.heap.size 1)) (vaa _) _).setCell (p:=(qa w.heap.size 2)) (vaa _) _):P:=h
theorem g8{P:Prop}(h:P:=by
 exact .cons (zdt rfl) (.cons (zdt rfl) (.cons (ze7 aq) (.cons (ze7 aq) (.cons (zqg) (.nil)))))):P:=h
theorem hZ{P:Prop}(h:P:=by
 exact (zd6 A8.out ae _ _ _ _ _).alloc aF _):P:=h
theorem ib{P:Prop}(h:P:=by
 exact .cons (zdt rfl) (.cons (zdt rfl) (.cons (ze7 aq) (.cons (ze7 aq) (.cons (zqg) (.cons (zdt rfl) (.cons (zdt rfl) (.cons (ze7 aq) (.cons (ze7 aq) (.cons (zqg) (.nil))))))))))):P:=h
theorem ic{P:Prop}(h:P:=by
 have hw:Region.wanted o (yielded ops a.tmps)=true:=bK
 rw [if_pos hw];unfold Oper.wp;rw [run_call1 f x ty ho Ci v hx,vdu];refine hC.mono ?_;rintro e w' ⟨rfl,hR⟩;exact h w' hR):P:=h
theorem ig{P:Prop}(h:P:=by
 obtain ⟨q0,q1,q2,q3,q4, -⟩:=zaa hW.head;obtain ⟨z0,z1,z2,z3,z4⟩:=hc W hW.below;obtain ⟨y0,y1,y2,y3,y4⟩:=hd W hW.below;exact ⟨q4,z0,z1,z2,z3,z4,y0,y1,y2,y3,y4⟩):P:=h
theorem ii{P:Prop}(h:P:=by
 rcases h with h | ⟨b,off,e,hl,h⟩
 . exact Or.inl h
 . exact Or.inr ⟨b,off,e,vai hl hb.size,fun i hi=>(hb.cell (p:=⟨b,off+i,none⟩) hl).trans (h i hi)⟩):P:=h
theorem ij{P:Prop}(h:P:=by
 exact (zpp A8.out ae _ _ _ _ _ _ _).alloc aF _):P:=h
theorem ik{P:Prop}(h:P:=by
 obtain ⟨k,_,rfl,_⟩:=h.idx;have:=h.len
 rw [vbz];omega):P:=h
theorem iu{P:Prop}(h:P:=by
 exact zaf (zaf O7.out (fun k hk=>heap_set_ne (p:=(qa w.heap.size 0)) (KP.out k hk) _)) (fun k hk=>heap_set_ne (p:=(qa w.heap.size 1)) (KP.out k hk) _)):P:=h
theorem iB{P:Prop}(h:P:=by
 have:=(h.alloc (kzF x.op x.n x.m x.at_ ax x.args.length cx)).box (kzF y.op y.n y.m y.at_ ay y.args.length cy);rw [vcn] at this;exact this):P:=h
theorem iD{P:Prop}(h:P:=by
 obtain ⟨v,hv,Fo⟩:=hx.get (i*4+j) d ((zcp itD 4 (fun _=>rfl) l i hi j hj).trans hd);exact ⟨v,by rw [vbn];exact hc _ v hv,Fo⟩):P:=h
theorem iH{P:Prop}(h:P:=by
 obtain ⟨rfl,w0⟩:=za4 d0;obtain ⟨rfl,w1⟩:=za4 d1;obtain ⟨rfl,w2⟩:=za4 d2;exact ⟨b,off,ha,hb,q0,q1,q2,w0,w1,w2⟩):P:=h
theorem iI{P:Prop}(h:P:=by
 rw [vci];simp only [beq_iff_eq,decide_eq_true_eq]
 constructor
 . intro h
   rw [vay,vay] at h;exact zi0 h
 . rintro rfl;rfl):P:=h
theorem iO{P:Prop}(h:P:=by
 have:=h.cells (g:=g) rfl j u hj;rw [show ((qa g 0):Addr).add j=(qa g j) from aS] at this
 rw [vaz];exact this):P:=h
theorem iQ{P:Prop}(h:P:=by
 refine ⟨h,?_⟩
 unfold zlo;rw [if_pos HE.out,h]):P:=h
theorem iS{P:Prop}(h:P:=by
 intro b _ hb
 have B6:wr.heap.size+1<=b:=hb;exact ⟨ae,fun h=>by have:=L6.out b h;omega⟩):P:=h
theorem iZ{P:Prop}(h:P:=by
 unfold okF at hb;simp only [vac,decide_eq_true_eq] at hb;exact ⟨hp.1,hp.2,ae,hb.1,ae,hb.2.2.1,ae⟩):P:=h
theorem i7{P:Prop}(h:P:=by
 exact (A8.out.setCell (p:=(qa w.heap.size 0)) (vaa _) _).setCell (p:=(qa w.heap.size 1)) (vaa _) _):P:=h
theorem ja{P:Prop}(h:P:=by
 rcases h with h | ⟨b,off,e,h⟩
 . exact Or.inl h
 . exact Or.inr ⟨b,off,e,h.below hb h.lt⟩):P:=h
theorem jf{P:Prop}(h:P:=by
 rintro e w' ⟨rfl,hb⟩;exact ⟨rfl,((Below.refl _ _).alloc (vaa _) _).trans (hb.mono aA)⟩):P:=h
theorem ji{P:Prop}(h:P:=by
 rcases h with h | ⟨b,off,e,hl,h⟩
 . subst h;simp at hk
 . exact ⟨b,off,e,hl,h k hk⟩):P:=h
theorem jj{P:Prop}(h:P:=by
 obtain ⟨es,clock,B6,r⟩:=h1;exact ⟨D,⟨es,clock,(hb.block b A0).trans B6,r⟩,h2⟩):P:=h
theorem jn{P:Prop}(h:P:=by
 by_cases he:k=j
 . subst he;exact hz
 . exact HA.out k h ae):P:=h
theorem js{P:Prop}(h:P:=by
 obtain ⟨z0,z1,z2,z3,z4⟩:=hc W hW.below;exact ⟨q1,q2,q3,q4,z0,z1,z2,z3,z4⟩):P:=h
theorem jt{P:Prop}(h:P:=by
 obtain ⟨h0,h1,h2,h3,h4,h5⟩:=zaa h;exact ⟨h0,h1,h2,h3,h4,h5,lt_of_heap h⟩):P:=h
theorem jv{P:Prop}(h:P:=by
 simp [zay,Nd.op,Nd.args] at h;rw [h.1];simp):P:=h
theorem jw{P:Prop}(h:P:=by
 have:l=[]:=vam h
 subst this;exact ⟨Or.inl rfl,fun i hi=>by cases hi⟩):P:=h
theorem jx{P:Prop}(h:P:=by
 intro w8 hk8;exact ⟨rfl,BZ.out.ke.drew.trans hk8,Or.inl ⟨HP.out,rfl⟩⟩):P:=h
theorem jy{P:Prop}(h:P:=by
 intro w8 hk8;exact ⟨rfl,Cd.out.ke.drew.trans hk8,Or.inl ⟨HP.out,rfl⟩⟩):P:=h
theorem jz{P:Prop}(h:P:=by
 exact ⟨rfl,EL.out.ke.trans KK,Or.inl ⟨by rw [CY.out,if_neg cM],rfl⟩⟩):P:=h
theorem jC{P:Prop}(h:P:=by
 intro w8 hk8;exact ⟨rfl,DR.out.drew.trans hk8,Or.inl ⟨HP.out,rfl⟩⟩):P:=h
theorem jD{P:Prop}(h:P:=by
 rw [(za4 hd).1] at hv;exact hv):P:=h
theorem jE{P:Prop}(h:P:=by
 show _=_
 rw [all_snoc m.bodies _ j A0,HA.out,h1];rfl):P:=h
theorem jF{P:Prop}(h:P:=by
 by_cases e2:op=2
 . have:=l2 e2;omega
 . have:=l1 e2 e3;omega):P:=h
theorem jG{P:Prop}(h:P:=by
 exact zpp (Co.out.setCell (p:=(qa w1.heap.size 6)) bz _) ae _ _ _ _ _ _ _):P:=h
theorem jI{P:Prop}(h:P:=by
 simpa using this):P:=h
theorem jL{P:Prop}(h:P:=by
 intro b _ hb
 exact ⟨ae,fun h=>by have:=HL.out b h;omega⟩):P:=h
theorem jQ{P:Prop}(h:P:=by
 exact ⟨rfl,DQ.out.trans KK,Or.inl ⟨by rw [Dx.out,hn],rfl⟩⟩):P:=h
theorem jV{P:Prop}(h:P:=by
 unfold lexT lexE;rw [if_neg h,if_neg h,hn];exact ⟨rfl,rfl⟩):P:=h
theorem jW{P:Prop}(h:P:=by
 rw [vax,vad (by rw [vbz];omega),Option.getD_some,vea]
 rfl):P:=h
theorem jY{P:Prop}(h:P:=by
 have:∀ x ∈ opTexts,0<x.size:=aq
 exact this _ (vah hk)):P:=h
abbrev vaa:=@Nat.le_refl
abbrev vab:=@Option.some.inj
abbrev vac:=@Bool.and_eq_true
abbrev vad:=@List.getElem?_eq_getElem
abbrev vae:=@List.setIfInBounds_toArray
abbrev vaf:=@Nat.zero_le
abbrev vag:=@List.take_succ_eq_append_getElem
abbrev vah:=@List.getElem_mem
abbrev vai:=@Nat.lt_of_lt_of_le
abbrev vaj:=@List.length_append
abbrev vak:=@List.mem_cons_of_mem
abbrev vam:=@List.eq_nil_of_length_eq_zero
abbrev van:=@List.set_cons_zero
abbrev vao:=@List.set_cons_succ
abbrev vap:=@Prod.mk.inj
abbrev vaq:=@Go.World.size_setCell
abbrev var:=@List.mem_cons_self
abbrev vas:=@List.all_eq_true
abbrev vat:=@Bool.or_eq_false_iff
abbrev vau:=@List.take_length
abbrev vav:=@List.take_of_length_le
abbrev vaw:=@List.length_cons
abbrev vax:=@List.getD_eq_getElem?_getD
abbrev vay:=@Go.Lib.toList_data
abbrev vaz:=@Nat.zero_add
abbrev vba:=@List.getElem_of_mem
abbrev vbb:=@Array.getElem?_eq_none
abbrev vbc:=@List.getElem?_append_left
abbrev vbd:=@Nat.le_trans
abbrev vbe:=@Nat.not_lt_zero
abbrev vbf:=@Option.some.injEq
abbrev vbg:=@List.length_take
abbrev vbh:=@List.getElem?_append_right
abbrev vbi:=@Nat.lt_or_ge
abbrev vbj:=@List.flatMap_cons
abbrev vbk:=@Nat.zero_mul
abbrev vbl:=@List.findIdx?_eq_some_iff_getElem
abbrev vbm:=@List.getElem_cons_zero
abbrev vbn:=@Nat.add_assoc
abbrev vbo:=@List.foldl_append
abbrev vbp:=@List.all_append
abbrev vbq:=@Int.toNat_natCast
abbrev vbr:=@Array.getElem?_eq_getElem
abbrev vbs:=@Bool.eq_false_iff
abbrev vbt:=@Nat.add_zero
abbrev vbu:=@List.getElem_cons_succ
abbrev vbv:=@List.getElem?_eq_none
abbrev vbw:=@List.map_append
abbrev vbx:=@Go.World.cell?_setCell_other
abbrev vby:=@List.mem_cons
abbrev vbz:=@List.length_drop
abbrev vca:=@List.any_eq_false
abbrev vcb:=@Go.World.cell?_setCell_same
abbrev vcc:=@List.mem_append_right
abbrev vcd:=@List.mem_singleton
abbrev vce:=@List.mem_append
abbrev vcf:=@Int.ediv_ediv_of_nonneg
abbrev vcg:=@List.getElem?_eq_some_iff
abbrev vch:=@List.append_nil
abbrev vci:=@Bool.eq_iff_iff
abbrev vcj:=@List.contains_iff_mem
abbrev vck:=@List.take_append_drop
abbrev vcl:=@List.getElem_append_left
abbrev vcm:=@Go.DataW.trod_int
abbrev vcn:=@Go.World.size_alloc
abbrev vco:=@List.map_cons
abbrev vcp:=@List.all_cons
abbrev vcq:=@List.findIdx?_eq_none_iff
abbrev vcr:=@List.length_nil
abbrev vcs:=@List.all_eq_false
abbrev vct:=@List.length_map
abbrev vcu:=@List.find?_cons
abbrev vcv:=@Bool.not_eq_true
abbrev vcw:=@List.drop_eq_nil_of_le
abbrev vcx:=@Bool.false_eq_true
abbrev vcy:=@List.mem_map
abbrev vcz:=@Bool.and_eq_false_iff
abbrev vda:=@List.nodup_iff_pairwise_ne
abbrev vdb:=@Go.DataW.held.injEq
abbrev vdc:=@List.range_succ
abbrev vdd:=@Prod.mk.injEq
abbrev vde:=@Nat.eq_zero_or_pos
abbrev vdf:=@Except.ok.inj
abbrev vdg:=@List.append_assoc
abbrev vdh:=@Bool.not_eq_true'
abbrev vdi:=@List.getElem_take
abbrev vdj:=@List.nodup_append
abbrev vdk:=@List.length_singleton
abbrev vdl:=@List.getElem?_toArray
abbrev vdm:=@Go.DataW.trod_slice
abbrev vdn:=@List.getElem?_modify
abbrev vdo:=@List.mem_of_getElem?
abbrev vdp:=@Nat.mul_le_mul_right
abbrev vdq:=@List.mem_append_left
abbrev vdr:=@List.nodup_cons
abbrev vds:=@List.flatMap_append
abbrev vdt:=@Nat.one_mul
abbrev vdu:=@Go.Oper.upon_enter
abbrev vdv:=@Nat.min_eq_left
abbrev vdw:=@List.length_zip
abbrev vdx:=@List.map_nil
abbrev vdy:=@List.getElem?_take
abbrev vdz:=@Nat.mul_le_mul
abbrev vea:=@List.getElem_drop
abbrev veb:=@Go.DataW.trod_struct
abbrev vec:=@Bool.true_and
abbrev ved:=@List.getElem_map
abbrev vee:=@List.getElem_zip
abbrev vef:=@Bool.or_eq_true
abbrev veg:=@List.nil_append
abbrev veh:=@UInt8.toNat_inj
abbrev vei:=@List.all_nil
abbrev vej:=@Bool.false_and
abbrev vek:=@List.take_zero
abbrev vel:=@Nat.le_succ
abbrev vem:=@ByteArray.ext
abbrev ven:=@Bool.false_or
abbrev veo:=@Ne.symm
abbrev OA:=Option Addr
abbrev L8:=List UInt8
namespace Lx
def zjd (c:UInt8):Bool:=decide (97<=(c.toNat:Int))&&decide ((c.toNat:Int)<=122)
def zi7 (c:UInt8):Bool:=decide (48<=(c.toNat:Int))&&decide ((c.toNat:Int)<=57)
def zea (c:UInt8):Bool:=zjd c||zi7 c
def zpd:L8->Bool
 | []=>false
 | c :: _=>zjd c
def zbw (l:L8):Bool:=zpd l&&decide (l.length<=8)&&l.all zea
def signs:L8:=[123,125,40,41,91,93,44,59,61,46,43,45,42,47,37,60,33,38,124]
def zw3 (c:UInt8):Bool:=signs.contains c
theorem zik (s:ByteArray) (k:Nat) (h:k<s.size):s.data.toList.take (k+1)=s.data.toList.take k++[s[k]]:=by
 rw [vag bT];rfl
theorem za0 (s:ByteArray):s.data.toList.length=s.size:=Array.length_toList
theorem z25 (s:ByteArray) (h:0<s.size):s.toList.isEmpty=false:=by
 rw [vay]
 cases hl:s.data.toList with
 | nil=>have:=za0 s;rw [hl] at this;simp at this;omega
 | cons=>rfl
theorem zz7 (s:ByteArray) (h:0<s.size):zpd s.data.toList=zjd s[0]:=by
 have:=zik s 0 h
 cases hl:s.data.toList with
 | nil=>rw [hl] at this;simp at this
 | cons c r=>rw [hl] at this;simp at this;simp [zpd,this]
theorem zf1 (s:ByteArray) (k:Nat) (h:k<s.size) (p:UInt8->Bool):(s.data.toList.take (k+1)).all p=((s.data.toList.take k).all p&&p s[k]):=by
 rw [zik s k h];simp
theorem zlp (s:ByteArray) (p:UInt8->Bool):(s.data.toList.take s.size).all p=s.data.toList.all p:=by
 rw [vav (by rw [za0];exact vaa _)]
theorem ztj (s:ByteArray) (k:Nat) (h:k<s.size) (p:UInt8->Bool) (hp:p s[k]=false):s.data.toList.all p=false:=by
 have hx:s.data.toList[k]'(by rw [za0];exact h)=s[k]:=rfl;rw [vcs];refine ⟨s[k],?_,by simp [hp]⟩
 rw [← hx];exact vah _
theorem zlq (s:ByteArray) (h:s.size=0):zbw s.data.toList=false:=by
 have:s.data.toList=[]:=vam (by rw [za0];exact h)
 rw [this];rfl
theorem zn0 (s:ByteArray) (h:8<s.size):zbw s.data.toList=false:=by
 unfold zbw;rw [za0,show decide (s.size<=8)=false from aF];simp
theorem zn1 (s:ByteArray) (h:0<s.size) (hl:zjd s[0]=false):zbw s.data.toList=false:=by
 unfold zbw;rw [zz7 s h,hl];simp
theorem zn2 (s:ByteArray) (h:0<s.size) (h8:s.size<=8) (hl:zjd s[0]=true):zbw s.data.toList=s.data.toList.all zea:=by
 unfold zbw;rw [zz7 s h,hl,za0,show decide (s.size<=8)=true from aF];simp
def z7s (l:L8):Nat:=(l.takeWhile zea).length
def z7t (s:ByteArray) (a:Nat):Nat:=z7s (s.data.toList.drop a)
theorem ztk:∀ (l:L8) (k:Nat),(l.take k).all zea=true->k<=l.length->(∀ h:k<l.length,zea l[k]=false)->z7s l=k
 | [],k,_,hk,_=>by simp at hk;subst hk;rfl
 | c :: l,0,_,_,hs=>by have:=hs aA;simp at this;simp [z7s,this]
 | c :: l,k+1,ha,hk,hs=>by
   simp only [List.take_succ_cons,vcp,vac] at ha;have ih:=ztk l k ha.2 (by simp at hk;omega) (fun h=>by have:=hs aF;simpa using this);simp only [z7s] at ih ⊢;rw [List.takeWhile_cons,if_pos ha.1,vaw,ih]
theorem zg3 (s:ByteArray) (a:Nat):(s.data.toList.drop a).length=s.size - a:=by rw [vbz,za0]
theorem zvf (s:ByteArray) (a k:Nat) (h:a+k<s.size):(s.data.toList.drop a)[k]'(by rw [zg3];omega)=s[a+k]:=by
 rw [vea];rfl
theorem zvg (s:ByteArray) (a k:Nat) (h:a+k<s.size):((s.data.toList.drop a).take (k+1)).all zea=(((s.data.toList.drop a).take k).all zea&&zea s[a+k]):=by
 rw [vag (by rw [zg3];omega),zvf s a k h];simp
theorem z26 (s:ByteArray) (a k:Nat) (ha:((s.data.toList.drop a).take k).all zea=true) (h:a+k=s.size):z7t s a=k:=
 ztk _ k ha (by rw [zg3];omega) (fun hk=>by rw [zg3] at hk;omega)
theorem zrb (s:ByteArray) (a k:Nat) (ha:((s.data.toList.drop a).take k).all zea=true) (h:a+k<s.size) (hc:zea s[a+k]=false):z7t s a=k:=
 ztk _ k ha (by rw [zg3];omega) (fun _=>by rw [zvf s a k h];exact hc)
def pieceN (s:ByteArray) (a:Nat):Nat:=if z7t s a=0 then 1 else z7t s a
theorem z6l (s:ByteArray) (a:Nat) (h:a<s.size):((s.data.toList.drop a).take 1).all zea=zea s[a]:=by
 have:=zvg s a 0 ae;exact jI
theorem zrc (s:ByteArray) (a:Nat) (h:a<s.size) (hc:zea s[a]=false):pieceN s a=1:=by
 have:=zrb s a 0 aA ae (by simpa using hc);simp [pieceN,this]
theorem zrd (s:ByteArray) (a k:Nat) (hk:0<k) (h:z7t s a=k):pieceN s a=k:=by
 unfold pieceN;rw [h,if_neg ae]
theorem z6m (s:ByteArray) (a:Nat):z7t s a<=s.size - a:=by
 have:=(List.takeWhile_prefix zea (l:=s.data.toList.drop a)).length_le
 rw [zg3] at this;exact this
theorem zg4 (s:ByteArray) (a:Nat):0<pieceN s a:=by unfold pieceN;split<;>omega
theorem zz8 (s:ByteArray) (a:Nat) (h:a<s.size):a+pieceN s a<=s.size:=by
 have:=z6m s a;unfold pieceN;split<;>omega
end Lx
namespace Fx
def fit64 (n:Int):Prop:=-9223372036854775808<=n/\n<=9223372036854775807
structure It where
 kind:Int
 n:Int
 at_:Int
 name:ByteArray
structure Fc where
 name:ByteArray
 items:List It
def nameOk (s:ByteArray):Bool:=Lx.zbw s.data.toList
def numOkB (i:It):Bool:=
 if i.kind=1 then decide (0<=i.n)&&decide (i.n<=1099511627775)&&decide (i.at_=0)
 else if i.kind=2 then decide (i.n=0)&&decide (0<=i.at_)&&decide (i.at_<=320)
 else if i.kind=3 then decide (1<=i.n)&&decide (i.n<=32)&&decide (0<=i.at_)&&decide (i.at_<=320)
 else if i.kind=4 then decide (0<=i.n)&&decide (i.n<=3)&&decide (0<=i.at_)&&decide (i.at_<=320)
 else false
def zgc (i:It):Bool:=nameOk i.name&&numOkB i
def zil:List (L8)->List (L8):=List.foldl (fun A5 s=>if s ∈ A5 then A5 else A5++[s]) []
def zgd (l:List (L8)):Bool:=decide ((zil l).length<l.length)
theorem zg5 (l:List (L8)) (s:L8):zil (l++[s])=if s ∈ zil l then zil l else zil l++[s]:=by
 unfold zil;rw [vbo];rfl
theorem zeq {α:Type} {p:List α->Prop} (h0:p []) (h1:∀ l a,p l->p (l++[a])):∀ l,p l:=by
 intro l
 have:∀ n (l:List α),l.length=n->p l:=by
  intro n
  induction n with
  | zero=>intro l hl;rw [vam hl];exact h0
  | succ n ih=>
    intro l hl
    have Ai:l≠[]:=fun e=>by rw [e] at hl;simp at hl
    rw [← List.dropLast_concat_getLast Ai];exact h1 _ _ (ih _ (by rw [List.length_dropLast];omega))
 exact this _ l rfl
theorem zim (x:L8):∀ l:List (L8),x ∈ zil l↔x ∈ l:=by
 apply zeq
 . exact Iff.rfl
 . intro l a ih
   rw [zg5]
   by_cases h:a ∈ zil l
   . rw [if_pos h]
     simp only [vce,vcd]
     constructor
     . intro hx;exact Or.inl (ih.1 hx)
     . rintro (hx | rfl)
       . exact ih.2 hx
       . exact h
   . rw [if_neg h]
     simp only [vce,vcd,ih]
theorem zz9:∀ l:List (L8),(zil l).length<=l.length:=by
 apply zeq
 . exact vaa _
 . intro l a ih
   rw [zg5];split
   . rw [vaj];simp;omega
   . rw [vaj,vaj];simp;omega
theorem zin (l:List (L8)) (s:L8):zgd (l++[s])=(zgd l||decide (s ∈ l)):=by
 have h1:=zz9 l
 have h2:(l++[s]).length=l.length+1:=aA
 unfold zgd;rw [zg5,h2]
 by_cases h:s ∈ zil l
 . rw [if_pos h,decide_eq_true ((zim s l).1 h),Bool.or_true]
   exact decide_eq_true ae
 . rw [if_neg h,decide_eq_false (fun e=>h ((zim s l).2 e)),Bool.or_false,show (zil l++[s]).length=(zil l).length+1 from aA]
   exact decide_eq_decide.2 ae
def zew (l:List It):List (L8):=l.map (·.name.data.toList)
def zmp (f:Fc):Int:=
 if 16<f.items.length then 2 else if nameOk f.name && !zgd (zew f.items)&&f.items.all zgc then 0 else 1
theorem z27 {f:Fc} (h:16<f.items.length):zmp f=2:=if_pos h
theorem z28 {f:Fc} (h:¬ 16<f.items.length) (h1:nameOk f.name=false):zmp f=1:=by unfold zmp;rw [if_neg h,h1];rfl
theorem z6n {f:Fc} (h:¬ 16<f.items.length) (h1:zgd (zew f.items)=true):zmp f=1:=by unfold zmp;rw [if_neg h,h1];simp
theorem z29 {f:Fc} (h:¬ 16<f.items.length) (h1:f.items.all zgc=false):zmp f=1:=by unfold zmp;rw [if_neg h,h1];simp
theorem z8p {f:Fc} (h:¬ 16<f.items.length) (h0:nameOk f.name=true) (h1:zgd (zew f.items)=false) (h2:f.items.all zgc=true):zmp f=0:=by unfold zmp;rw [if_neg h,h0,h1,h2];rfl
end Fx
end Go.Proofs.YtndkhgakfodldaaGreatDoor
