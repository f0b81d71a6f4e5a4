import Derived.RowKit
import Derived.Lib.Strings
namespace Go.Proofs.YtndkhgakfodldaaGreatDoor
theorem N7{P:Prop}(h:P:=by omega):P:=h
theorem N9{P:Prop}(h:P:=by decide):P:=h
theorem Ob{P:Prop}(h:P:=by simp):P:=h
theorem Od{P:Prop}(h:P:=by (first | exact e6 _ _ _ | exact (e6 _ _ _).drew | exact dp (gK _ _) (dn _ _) | exact dp (dn _ _) (gK _ _))):P:=h
theorem Oe{P:Prop}(h:P:=by (rw [← z.out];first | (simp;omega) | (simp;done) | (simp [*];done))):P:=h
theorem Of{P:Prop}(h:P:=by (simp;omega)):P:=h
theorem Oh{P:Prop}(h:P:=by (unfold maxLen;omega)):P:=h
theorem Oj{P:Prop}(h:P:=by (simp only [IntKind.wrap,IntKind.bits,IntKind.signed];simp;omega)):P:=h
theorem Om{P:Prop}(h:P:=by (first | exact z.symm | (rw [z.out];first | (simp;omega) | (simp [*];done)))):P:=h
theorem On{P:Prop}(h:P:=by (unfold Addr.add;split<;>simp_all)):P:=h
theorem Oo{P:Prop}(h:P:=by (first | exact v.symm | (rw [v.out]<;>first | (simp;omega) | (simp [*];done)))):P:=h
theorem Oq{P:Prop}(h:P:=by rfl):P:=h
theorem Ov{P:Prop}(h:P:=by (show _<=w.heap.size+1;omega)):P:=h
theorem Ow{P:Prop}(h:P:=by (first | exact aM.symm | (rw [aM.out]<;>first | (simp;omega) | (simp [*];done)))):P:=h
theorem Ox{P:Prop}(h:P:=by (first | exact z.symm | (rw [z.out]<;>first | (simp;omega) | (simp [*];done)))):P:=h
theorem Oz{P:Prop}(h:P:=by (first | exact n.symm | (rw [n.out];first | (simp;omega) | (simp [*];done)))):P:=h
theorem OB{P:Prop}(h:P:=by (show _<=dD.heap.size;omega)):P:=h
theorem OD{P:Prop}(h:P:=by (simp only [fC,fS,eQ];omega)):P:=h
theorem OH{P:Prop}(h:P:=by (simp only [Lit.wf,dO,decide_eq_true_eq];exact ⟨by show (-9223372036854775808:Int)<=_;omega,by show _<=(9223372036854775807:Int);omega⟩)):P:=h
theorem OI{P:Prop}(h:P:=by (show w.heap.size≠w.heap.size+1;omega)):P:=h
theorem OJ{P:Prop}(h:P:=by (show w.heap.size<=dk.heap.size;omega)):P:=h
theorem OL{P:Prop}(h:P:=by (rw [z.out];rfl)):P:=h
theorem ON{P:Prop}(h:P:=by (show w.heap.size<=w.heap.size+1;omega)):P:=h
theorem OO{P:Prop}(h:P:=by (unfold wrap64;omega)):P:=h
theorem OP{P:Prop}(h:P:=by (rw [o.out];exact ⟨V,av,rfl,M.moves ⟨dA _,fun b _ h=>⟨by have:w.heap.size+1<=b:=h;show w.heap.size<=b;omega,rfl⟩⟩⟩)):P:=h
theorem OQ{P:Prop}(h:P:=by (rw [S];exact hd)):P:=h
theorem OR{P:Prop}(h:P:=by (simp [Region.wanted,l])):P:=h
theorem OU{P:Prop}(h:P:=by simpa using h):P:=h
theorem OV{P:Prop}(h:P:=by (rw [aD.out];exact ⟨_,_,_,_,_,_,_,_,_,_,_,_,_,rfl,aX⟩)):P:=h
theorem OW{P:Prop}(h:P:=by (have:w.heap.size+1<=b:=h;show w.heap.size<=b;omega)):P:=h
theorem OZ{P:Prop}(h:P:=by (show w.heap.size≠dD.heap.size;omega)):P:=h
theorem O0{P:Prop}(h:P:=by (rw [j7 _ _ (by omega)];exact eb _)):P:=h
theorem O1{P:Prop}(h:P:=by (rw [show (fs (eg u).entries).length=(eg u).entries.length from by simp [fs],aY];omega)):P:=h
theorem O2{P:Prop}(h:P:=by (simp only [eQ,hQ] at Q;omega)):P:=h
theorem O3{P:Prop}(h:P:=by (show _=_;unfold ij;rw [decide_eq_true b8,ir,ew b7];rfl)):P:=h
theorem O4{P:Prop}(h:P:=by (intro b _ I;show b≠w.heap.size+1;omega)):P:=h
theorem O6{P:Prop}(h:P:=by (simp only [fC,fS,eQ,hQ];omega)):P:=h
theorem O7{P:Prop}(h:P:=by (simp only [false_or] at h;omega)):P:=h
theorem O8{P:Prop}(h:P:=by (simpa [Value.ownBlock] using e)):P:=h
theorem O9{P:Prop}(h:P:=by (simp only [hk])):P:=h
theorem Pg{P:Prop}(h:P:=by simpa using J):P:=h
theorem Pi{P:Prop}(h:P:=by (intro b _ I;show b≠w.heap.size+1+1;have:dk.heap.size+1<=b:=I;omega)):P:=h
theorem Pj{P:Prop}(h:P:=by (unfold iG;rw [decide_eq_true ⟨l,t⟩,decide_eq_false (by omega)];rfl)):P:=h
theorem Pk{P:Prop}(h:P:=by (show k≠b;intro e;exact V aw (by have:=X.size;omega) (by rw [N,e]))):P:=h
theorem Pl{P:Prop}(h:P:=by (intro k _ N;omega)):P:=h
theorem Pn{P:Prop}(h:P:=by (simp [Act.eval,Array.replicate])):P:=h
theorem Po{P:Prop}(h:P:=by (intro b _ I;show b≠dk.heap.size;have:dk.heap.size+1<=b:=I;omega)):P:=h
theorem Pp{P:Prop}(h:P:=by (simp [Value.ownBlock] at e)):P:=h
theorem Pq{P:Prop}(h:P:=by simp at h):P:=h
theorem Pr{P:Prop}(h:P:=by (intro b _ I;have:w2.heap.size<=b:=I;show b≠w.heap.size+1;omega)):P:=h
theorem Pt{P:Prop}(h:P:=by (simp only [eQ] at Q;omega)):P:=h
theorem Pv{P:Prop}(h:P:=by (rw [z.out])):P:=h
theorem Px{P:Prop}(h:P:=by (show (-9223372036854775808:Int)<=_;omega)):P:=h
theorem Py{P:Prop}(h:P:=by (show K.D≠B;exact fun e=>h.ro.BD e.symm)):P:=h
theorem Pz{P:Prop}(h:P:=by (rw [N];exact congrArg some e)):P:=h
theorem PA{P:Prop}(h:P:=by (rw [bh.out];rfl)):P:=h
theorem PB{P:Prop}(h:P:=by (rw [aP.out.1];exact Or.inl rfl)):P:=h
theorem PC{P:Prop}(h:P:=by (show _<=(9223372036854775807:Int);omega)):P:=h
theorem PD{P:Prop}(h:P:=by (rw [n.out];first | done | rfl)):P:=h
theorem PE{P:Prop}(h:P:=by (rw [z.out];simp [*]<;>omega)):P:=h
theorem PF{P:Prop}(h:P:=by (intro b _ I;omega)):P:=h
theorem PI{P:Prop}(h:P:=by (have:=Y 0 _ rfl;simpa [cI] using this)):P:=h
theorem PJ{P:Prop}(h:P:=by (have:=Y 1 _ rfl;simpa [cI] using this)):P:=h
theorem PK{P:Prop}(h:P:=by (have:=Y 2 _ rfl;simpa [cI] using this)):P:=h
theorem PL{P:Prop}(h:P:=by simpa using V):P:=h
theorem PN{P:Prop}(h:P:=by (have:=aq.size;simp;omega)):P:=h
theorem PO{P:Prop}(h:P:=by (rw [aP.out.1,aP.out.2];rfl)):P:=h
theorem PP{P:Prop}(h:P:=by (show w.heap.size<_;omega)):P:=h
theorem PQ{P:Prop}(h:P:=by (have:=A.out;simp [ec.bodies];omega)):P:=h
theorem PR{P:Prop}(h:P:=by (have:=X.size;omega)):P:=h
theorem PS{P:Prop}(h:P:=by (simp [du.ds])):P:=h
theorem PT{P:Prop}(h:P:=by (cases a2;exact dA _)):P:=h
theorem PU{P:Prop}(h:P:=by simpa using a2):P:=h
theorem PW{P:Prop}(h:P:=by (rw [aL.out])):P:=h
theorem PX{P:Prop}(h:P:=by (show _<=dk.heap.size+1;omega)):P:=h
theorem PY{P:Prop}(h:P:=by (simpa using dX (w.alloc _) _)):P:=h
theorem PZ{P:Prop}(h:P:=by (rw [z.out,v.out])):P:=h
theorem P0{P:Prop}(h:P:=by (rw [fM];omega)):P:=h
theorem P1{P:Prop}(h:P:=by (unfold eO at h;exact h)):P:=h
theorem P2{P:Prop}(h:P:=by (simpa using dX (w.alloc o) p)):P:=h
theorem P3{P:Prop}(h:P:=by cases h):P:=h
theorem P4{P:Prop}(h:P:=by (simp [dN.ds,ih])):P:=h
theorem P6{P:Prop}(h:P:=by (simp [St.ds])):P:=h
theorem P7{P:Prop}(h:P:=by (obtain ⟨D,F,_⟩:=h;exact F.lt)):P:=h
theorem P8{P:Prop}(h:P:=by (show s.ticks+1<=H.lim;omega)):P:=h
theorem P9{P:Prop}(h:P:=by simpa using F):P:=h
theorem Qa{P:Prop}(h:P:=by (show _=_;simp [gA,bT,b8,b7])):P:=h
theorem Qb{P:Prop}(h:P:=by (have:=h.jb k N;omega)):P:=h
theorem Qc{P:Prop}(h:P:=by (simp only [fP];omega)):P:=h
theorem Qe{P:Prop}(h:P:=by (simp [a7])):P:=h
theorem Qf{P:Prop}(h:P:=by (simp [ay])):P:=h
theorem Qg{P:Prop}(h:P:=by (rw [E];exact dn _ _)):P:=h
theorem Qh{P:Prop}(h:P:=by (rw [E];exact dX _ _)):P:=h
theorem Qi{P:Prop}(h:P:=by (intro b;omega)):P:=h
theorem Qj{P:Prop}(h:P:=by (rw [ti];omega)):P:=h
theorem Qk{P:Prop}(h:P:=by (rw [W];rfl)):P:=h
theorem Ql{P:Prop}(h:P:=by (simp [fs])):P:=h
theorem Qm{P:Prop}(h:P:=by simpa using U):P:=h
theorem Qn{P:Prop}(h:P:=by (simp [hacc])):P:=h
theorem Qw{P:Prop}(h:P:=by
 intro g q G c f a3 ac
 have b1:Below y w G:=((Below.refl y w).alloc L _).grown f N7 (fun k N=>(T.lt k N).1);have J:=f.size;refine h g q G ⟨ao++cs.toList,c,?_⟩ b1 N7
 have ai:∀ A':Nat->Prop,(∀ b,b<w.heap.size->A' b->ow y v b)->dU w A' G (ow y (.slice (some (dj g 0)) (n+1) q)):=by
  intro A' hA';refine ⟨N7,fun b I a7=>⟨⟨(hA' b I a7).1,fun p=>?_⟩,?_⟩⟩
  . have M:g=b:=by simpa [Value.ownBlock] using p
    rcases a3 with F | F
    . exact (hA' b I a7).2 (by rw [F,M])
    . omega
  . refine (f.block b N7 (fun h=>(hA' b I a7).2 h.symm)).trans ?_
    exact ((Below.refl w.heap.size w).alloc (dA _) (.cells cs e)).block b I
 exact (af.moves (ai _ (fun _ _ h=>h))).append (B.moves (ai A aO))):P:=h
theorem QA{P:Prop}(h:P:=by
 intro j u a2
 subst d
 have:((dj w.heap.size 0):Addr).add j=(dj w.heap.size j):=On
 rw [this,eZ (dX w _)];simpa using a2):P:=h
theorem QD{P:Prop}(h:P:=by
 rcases gZ p w.heap.size with a5 | a5
 . exact a5
 . simp [World.cell?,lF a5] at bf):P:=h
theorem QI{P:Prop}(h:P:=by
 rcases gZ j s.length with ac | E
 . rw [kh ac] at a2;exact U j u a2
 . rw [lC E] at a2
   have Q:j - s.length<k:=by
    rcases gZ (j - s.length) k with h | h
    . exact h
    . rw [mL N7] at a2;cases a2
   have:=hcell (j - s.length) Q;rw [add_add,a2,show m*k+(j - s.length)=j from N7] at this;exact this):P:=h
theorem QS{P:Prop}(h:P:=by
 intro g q G c f a3 ac
 have J:=f.size;refine h g q G ⟨c,((Below.refl y w).alloc L _).grown f N7 (fun k N=>(b5.lt k N).1),N7,fun p x I aX=>?_,a3.imp id (fun e=>N7)⟩;have aB:(w.alloc (.cells cs e)).heap[p]? = some x:=eR I;exact (f.block p (lt_of_heap aB) (fun e=>aX e.symm)).trans aB):P:=h
theorem Q2{P:Prop}(h:P:=by
 rw [F];have K:b<=b*k:=Nat.le_mul_of_pos_right _ N;refine BT N7 N7 trivial ?_ (fun j u a2=>?_) aa
 . have:=World.block_lt_of_cell? M _ O
   simpa [Addr.add] using this
 . have:=U j u a2
   rw [add_plain] at this;exact this):P:=h
theorem Q3{P:Prop}(h:P:=by
 have F:(i.length+rest.length)*(8*k)<=reachBytes:=fZ (Nat.mul_le_mul_left _ R) aE;have J:i.length*(8*k)<=(i.length+rest.length)*(8*k):=uR _ N7
 have U:i.length*(8*k)=8*(b*k):=by rw [b1];rw [Nat.mul_left_comm]
 unfold reachBytes at F;omega):P:=h
theorem Q4{P:Prop}(h:P:=by
 unfold jq;rw [List.length_flatMap]
 have:∀ l:List fa,(l.map (fun x=>x.ds.length)).sum=l.length*5:=by
  intro l
  induction l with
  | nil=>rfl
  | cons x r ay=>rw [md,xC,ay,gY];have:x.ds.length=5:=rfl;omega
 exact this _):P:=h
theorem Q5{P:Prop}(h:P:=by
 unfold nh at e
 revert e
 cases dI (dT H n) H c.u P 6 (dq O 0) s with
 | stop e t=>intro e;cases e
 | ok v t=>
   intro e;have e:ite (m = -1) (Rr.ok (false,_) _) (Rr.ok (false,_) _)=Rr.ok b s':=e
   split at e<;>(cases e;rfl)):P:=h
theorem Q7{P:Prop}(h:P:=by
 show (dI E H u P k (dq O 1) t).bind _=((dI E H u P k (dq O 1) t).bind _).bind _
 cases dI E H u P k (dq O 1) t with
 | ok v t=>show Rr.ok (gj (decide (v≠0))) _=Rr.ok (gj (v != 0)) _;rw [wl]
 | stop e t=>rfl):P:=h
theorem Rc{P:Prop}(h:P:=by
 have Y:a.eval (.func f) = .func (.func f) #[] #[]:=rfl;simp [execOp,ap,resolve,invoke,S,Y,h,Deferred.ofValue]):P:=h
theorem Re{P:Prop}(h:P:=by
 refine wpList_plain ak fun d c=>?_
 obtain ⟨G,E,bp,bx⟩:=aE.put Z N ⟨a4,am,a5,ax,aG,u⟩;simp only [Sh.val] at E;unfold Oper.wp;simp [execOp,aw,a1,S,af,E,Result.andThen];exact c _ _ (aO G bp bx)):P:=h
theorem Ri{P:Prop}(h:P:=by
 rintro e a7 ⟨N,⟨h,_⟩ | ⟨bE,L,u,h,rfl,Q,hd⟩⟩
 . rw [S] at h;cases h
 . rw [S] at h
   obtain ⟨rfl,rfl⟩:=g0 (eX h);exact ⟨u,rfl,N,Q,hd⟩):P:=h
theorem Rj{P:Prop}(h:P:=by
 exact ⟨rfl,((Below.refl _ _).alloc (dA _) _).trans (I.mono Ob)⟩):P:=h
theorem Rl{P:Prop}(h:P:=by
 intro x F J;refine A (k+1) x F (fun y a4=>?_);rw [show fO c (k+1) x.args=x.args.all (fun x=>eC c x&&fO c k x.args) from rfl,e1] at J;have aa:=J y a4;rw [dO] at aa;exact ay y aa.1 aa.2):P:=h
theorem Rm{P:Prop}(h:P:=by
 exact (((below_drewN ((Below.refl _ _).alloc (dA _) _) _).setCell (p:=(dj w.heap.size 0)) (dA _) _).setCell (p:=(dj w.heap.size 1)) (dA _) _).setCell (p:=(dj w.heap.size 2)) (dA _) _):P:=h
theorem Rp{P:Prop}(h:P:=by
 exact ⟨rfl,Sa.no ((dR.below (dn w _)).trans Y).gm (hI Q) aj⟩):P:=h
theorem Rv{P:Prop}(h:P:=by
 exact .cons (eY rfl) (.cons (eY rfl) (.cons (fz N9) (.cons (fz N9) (.cons (jc) (.nil)))))):P:=h
theorem Rw{P:Prop}(h:P:=by
 have aj:Region.wanted o (yielded ops a.tmps)=true:=OR
 rw [if_pos aj];unfold Oper.wp;rw [run_call1 f x d ap n v S,uV];refine bj.mono ?_;rintro e G ⟨rfl,H⟩;exact h G H):P:=h
theorem Rx{P:Prop}(h:P:=by
 exact .cons (eY rfl) (.cons (eY rfl) (.cons (fz N9) (.cons (fz N9) (.cons (jc) (.cons (eY rfl) (.cons (eY rfl) (.cons (fz N9) (.cons (fz N9) (.cons (jc) (.nil))))))))))):P:=h
theorem Ry{P:Prop}(h:P:=by
 obtain ⟨aH,az,aK,aW,bg, -⟩:=ep ai.head;obtain ⟨bf,be,b9,bm,bk⟩:=W M ai.below;obtain ⟨D,ad,f,bi,b4⟩:=hd M ai.below;exact ⟨bg,bf,be,b9,bm,bk,D,ad,f,bi,b4⟩):P:=h
theorem Rz{P:Prop}(h:P:=by
 exact ⟨rfl,Sr.no ((dR.below (dn w _)).trans Y) (hI Q) aj⟩):P:=h
theorem RA{P:Prop}(h:P:=by
 rw [Y] at ar;simp only [Rr.bind] at ar
 split at ar
 . cases ar
 . injection ar with ar _
   omega):P:=h
theorem RB{P:Prop}(h:P:=by
 first | exact qJ (B.alloc B.size _) N7 _ _ _ _ | exact (qJ B N7 _ _ _ _).alloc Of _):P:=h
theorem RF{P:Prop}(h:P:=by
 intro e;have e:ite (v<0\/nn<=v) (Rr.stop 2 t) (Rr.ok (e8 H c.u m g+v) t) = .ok p s':=e
 split at e
 . cases e
 . cases e
   omega):P:=h
theorem RI{P:Prop}(h:P:=by
 exact (je B N7 _ _ _ _ _).alloc Of _):P:=h
theorem RL{P:Prop}(h:P:=by
 rcases h with h | ⟨p,C,e,X,h⟩
 . exact Or.inl h
 . exact Or.inr ⟨p,C,e,e4 X I.size,fun i V=>(I.cell (p:=⟨p,C+i,none⟩) X).trans (h i V)⟩):P:=h
theorem RP{P:Prop}(h:P:=by
 exact (oR B N7 _ _ _ _ _ _ _).alloc Of _):P:=h
theorem RU{P:Prop}(h:P:=by
 have:=(h.alloc (fg x.op x.n x.m x.at_ z x.args.length H)).box (fg y.op y.n y.m y.at_ aT y.args.length cy);rw [pv] at this;exact this):P:=h
theorem RX{P:Prop}(h:P:=by
 have:(n+1)*bytes<=2000001*200:=rP N7 R
 omega):P:=h
theorem R1{P:Prop}(h:P:=by
 obtain ⟨v,af,z⟩:=S.get (i*4+j) d ((mg js 4 (fun _=>rfl) l i V j a2).trans hd);exact ⟨v,by rw [ie];exact W _ v af,z⟩):P:=h
theorem R2{P:Prop}(h:P:=by
 rw [qC];simp only [beq_iff_eq,decide_eq_true_eq]
 constructor
 . intro h
   rw [kj,kj] at h;exact yk h
 . rintro rfl;rfl):P:=h
theorem R3{P:Prop}(h:P:=by
 unfold iG at this;simp only [dO,decide_eq_true_eq] at this;omega):P:=h
theorem R4{P:Prop}(h:P:=by
 obtain ⟨rfl,w0⟩:=gR bE;obtain ⟨rfl,dk⟩:=gR aT;obtain ⟨rfl,w2⟩:=gR aU;exact ⟨p,C,a7,I,aH,az,aK,w0,dk,w2⟩):P:=h
theorem R5{P:Prop}(h:P:=by
 obtain ⟨_,rfl⟩:=g0 (eX h);omega):P:=h
theorem R6{P:Prop}(h:P:=by
 have:=h.cells (g:=al) rfl j u a2;rw [show ((dj al 0):Addr).add j=(dj al j) from On] at this
 rw [fY];exact this):P:=h
theorem R8{P:Prop}(h:P:=by
 obtain ⟨k,_,rfl,_⟩:=h.idx;have:=h.len
 rw [qB];omega):P:=h
theorem Sb{P:Prop}(h:P:=by
 intro b _ I
 have aB:wr.heap.size+1<=b:=I;exact ⟨N7,fun h=>by have:=ce b h;omega⟩):P:=h
theorem Si{P:Prop}(h:P:=by
 unfold gA at I;simp only [dO,decide_eq_true_eq] at I;exact ⟨aA.1,aA.2,N7,I.1,N7,I.2.2.1,N7⟩):P:=h
theorem Sl{P:Prop}(h:P:=by
 exact absurd (show r = .error 1 from aY.trans (if_neg (by rw [s.out k.out];decide))) (y _)):P:=h
theorem Sn{P:Prop}(h:P:=by
 simp only [dO] at W;exact wpAnyH_take V W.1 W.2.1 W.2.2.1 b (Or.inl ⟨W.2.2.2,a4⟩) aE h):P:=h
theorem Sp{P:Prop}(h:P:=by
 rename_i e;rw [if_pos e] at h;simp only [dO] at h ⊢;exact ⟨h.1,h.2.1,Z _ _ _ h.2.2⟩):P:=h
theorem Sq{P:Prop}(h:P:=by
 by_cases X:s.ticks=H.lim
 . rw [sw X] at Q;cases Q
 . rw [q0 X] at Q;cases Q;rfl):P:=h
theorem SC{P:Prop}(h:P:=by
 obtain ⟨p,clock,aB,r⟩:=F;exact ⟨D,⟨p,clock,(I.block b ac).trans aB,r⟩,J⟩):P:=h
theorem SE{P:Prop}(h:P:=by
 rcases h with h | ⟨p,C,e,X,h⟩
 . subst h;simp at N
 . exact ⟨p,C,e,X,h k N⟩):P:=h
theorem SH{P:Prop}(h:P:=by
 obtain ⟨bf,be,b9,bm,bk⟩:=W M ai.below;exact ⟨az,aK,aW,bg,bf,be,b9,bm,bk⟩):P:=h
theorem SJ{P:Prop}(h:P:=by
 rw [uO]
 simp only [ki,List.flatMap_nil,qD];exact aa.append b2):P:=h
theorem SK{P:Prop}(h:P:=by
 simp [eC,dB.op,dB.args] at h;rw [h.1];simp):P:=h
theorem SL{P:Prop}(h:P:=by
 have:l=[]:=hF h
 subst this;exact ⟨Or.inl rfl,fun i V=>by cases V⟩):P:=h
theorem SN{P:Prop}(h:P:=by
 show (Mx.Mc.pop _).bind _=_;rw [kV]
 rfl):P:=h
theorem SO{P:Prop}(h:P:=by
 obtain ⟨ab,F,J,U,aa,aB⟩:=ep h;exact ⟨ab,F,J,U,aa,aB,lt_of_heap h⟩):P:=h
theorem SR{P:Prop}(h:P:=by
 rw [(gR hd).1] at af;exact af):P:=h
theorem SS{P:Prop}(h:P:=by
 rw [iq N7] at this;exact this):P:=h
theorem ST{P:Prop}(h:P:=by
 by_cases aI:T=2
 . have:=j aI;omega
 . have:=P aI bq;omega):P:=h
theorem SV{P:Prop}(h:P:=by
 exact oR (bW.setCell (p:=(dj dk.heap.size 6)) OJ _) N7 _ _ _ _ _ _ _):P:=h
theorem SZ{P:Prop}(h:P:=by
 intro bw hk8;exact ⟨rfl,aF.drew.trans hk8,Or.inl ⟨A,rfl⟩⟩):P:=h
theorem S2{P:Prop}(h:P:=by
 simpa using this):P:=h
theorem S8{P:Prop}(h:P:=by
 exact gr.bind (fun _ _ _=>gr.bind (fun _ _ _=>gr.same c _))):P:=h
abbrev dA:=@Nat.le_refl
abbrev dO:=@Bool.and_eq_true
abbrev ew:=@List.getElem?_eq_getElem
abbrev eb:=@List.getElem_mem
abbrev eM:=@List.length_append
abbrev gn:=@List.take_succ_eq_append_getElem
abbrev dY:=@Nat.zero_le
abbrev fV:=@List.getD_eq_getElem?_getD
abbrev fh:=@List.mem_cons_of_mem
abbrev e4:=@Nat.lt_of_lt_of_le
abbrev e1:=@List.all_eq_true
abbrev eX:=@Option.some.inj
abbrev hF:=@List.eq_nil_of_length_eq_zero
abbrev fI:=@List.mem_cons_self
abbrev fM:=@List.length_map
abbrev hG:=@Bool.or_eq_false_iff
abbrev iq:=@List.take_of_length_le
abbrev gu:=@List.take_length
abbrev gE:=@Option.getD_some
abbrev hk:=@Go.World.size_setCell
abbrev j1:=@List.setIfInBounds_toArray
abbrev gY:=@List.length_cons
abbrev kh:=@List.getElem?_append_left
abbrev fY:=@Nat.zero_add
abbrev fZ:=@Nat.le_trans
abbrev ir:=@Int.toNat_natCast
abbrev lC:=@List.getElem?_append_right
abbrev gF:=@Nat.zero_mul
abbrev gQ:=@Nat.add_zero
abbrev lE:=@List.getElem_append_left
abbrev gZ:=@Nat.lt_or_ge
abbrev lF:=@Array.getElem?_eq_none
abbrev ie:=@Nat.add_assoc
abbrev kI:=@List.getElem_of_mem
abbrev g0:=@Prod.mk.inj
abbrev jE:=@List.length_take
abbrev ki:=@List.flatMap_cons
abbrev ig:=@List.mem_map
abbrev jF:=@List.mem_append
abbrev k7:=@List.set_cons_zero
abbrev kJ:=@Option.some.injEq
abbrev j2:=@List.map_append
abbrev mL:=@List.getElem?_eq_none
abbrev lG:=@List.foldl_append
abbrev lH:=@List.set_cons_succ
abbrev kj:=@Go.Lib.toList_data
abbrev nD:=@List.getElem_cons_succ
abbrev l8:=@List.mem_singleton
abbrev pu:=@List.getElem?_eq_some_iff
abbrev oz:=@List.getElem_cons_zero
abbrev k8:=@List.all_append
abbrev ma:=@List.any_eq_false
abbrev oA:=@List.length_singleton
abbrev oC:=@List.take_append_drop
abbrev kk:=@List.mem_cons
abbrev qw:=@List.drop_eq_getElem_cons
abbrev qx:=@Array.getElem?_eq_getElem
abbrev mM:=@List.getElem_map
abbrev rJ:=@Go.World.cell?_setCell_other
abbrev mc:=@Go.DataW.trod_int
abbrev nE:=@Bool.not_eq_true
abbrev oE:=@List.append_assoc
abbrev oF:=@List.getElem?_map
abbrev rK:=@Go.World.cell?_setCell_same
abbrev qy:=@List.mem_append_right
abbrev md:=@List.map_cons
abbrev uN:=@List.findIdx?_eq_some_iff_getElem
abbrev rL:=@Int.ediv_ediv_of_nonneg
abbrev qz:=@List.mem_of_getElem?
abbrev rM:=@List.drop_eq_nil_of_le
abbrev oG:=@List.length_set
abbrev qA:=@Bool.false_eq_true
abbrev pv:=@Go.World.size_alloc
abbrev pw:=@List.prefix_refl
abbrev rN:=@List.mem_append_left
abbrev pz:=@Nat.not_lt_zero
abbrev pA:=@List.length_nil
abbrev qB:=@List.length_drop
abbrev sX:=@Bool.and_eq_false_iff
abbrev mN:=@Int.le_refl
abbrev qC:=@Bool.eq_iff_iff
abbrev qD:=@List.append_nil
abbrev qE:=@List.find?_cons
abbrev nF:=@Nat.one_mul
abbrev uO:=@List.flatMap_append
abbrev uP:=@List.getElem?_toArray
abbrev uQ:=@List.contains_iff_mem
abbrev rO:=@Option.map_some
abbrev sY:=@List.all_eq_false
abbrev sZ:=@List.getElem_take
abbrev xh:=@List.getElem_concat_length
abbrev uR:=@Nat.mul_le_mul_right
abbrev xi:=@List.findIdx?_eq_none_iff
abbrev rP:=@Nat.mul_le_mul
abbrev s2:=@Go.DataW.held.injEq
abbrev qF:=@List.map_nil
abbrev xj:=@Nat.add_sub_cancel_left
abbrev rQ:=@Prod.mk.injEq
abbrev rR:=@List.all_cons
abbrev uS:=@Nat.eq_zero_or_pos
abbrev rS:=@Except.ok.inj
abbrev uT:=@Go.DataW.trod_struct
abbrev s3:=@List.mem_range
abbrev uU:=@Go.DataW.trod_slice
abbrev xk:=@List.getElem?_modify
abbrev s4:=@Bool.true_and
abbrev rT:=@Nat.le_succ
abbrev uV:=@Go.Oper.upon_enter
abbrev uW:=@Nat.min_eq_left
abbrev uX:=@List.length_zip
abbrev xl:=@List.getElem?_take
abbrev ta:=@List.all_nil
abbrev xm:=@Bool.not_eq_true'
abbrev xn:=@List.getElem_drop
abbrev xo:=@Nat.lt_succ_self
abbrev xq:=@List.getElem_zip
abbrev xr:=@List.cons_append
abbrev xt:=@List.sum_append
abbrev xu:=@List.nodup_cons
abbrev xv:=@List.range_succ
abbrev xw:=@UInt8.toNat_inj
abbrev xx:=@Int.natCast_add
abbrev xy:=@Bool.or_eq_true
abbrev xA:=@Bool.false_and
abbrev xB:=@List.take_zero
abbrev xC:=@List.sum_cons
abbrev xD:=@Nat.sub_self
abbrev xE:=@List.map_set
abbrev xF:=@Nat.le_of_lt
abbrev xG:=@Nat.succ_mul
abbrev xH:=@Bool.or_true
abbrev OA:=Option Addr
abbrev L8:=List UInt8
namespace Lx
def zob (c:UInt8):Bool:=decide (97<=(c.toNat:Int))&&decide ((c.toNat:Int)<=122)
def zlj (c:UInt8):Bool:=decide (48<=(c.toNat:Int))&&decide ((c.toNat:Int)<=57)
def ze8 (c:UInt8):Bool:=zob c||zlj c
def xI:L8->Bool
 | []=>false
 | an :: _=>zob an
def zck (l:L8):Bool:=xI l&&decide (l.length<=8)&&l.all ze8
def tb:L8:=[123,125,40,41,91,93,44,59,61,46,43,45,42,47,37,60,33,38,124]
def rU (c:UInt8):Bool:=tb.contains c
theorem uY (s:ByteArray) (k:Nat) (h:k<s.size):s.data.toList.take (k+1)=s.data.toList.take k++[s[k]]:=by
 rw [gn OU];rfl
theorem zbb (s:ByteArray):s.data.toList.length=s.size:=Array.length_toList
theorem z5k (s:ByteArray) (h:0<s.size):s.toList.isEmpty=false:=by
 rw [kj]
 cases X:s.data.toList with
 | nil=>have:=zbb s;rw [X] at this;simp at this;omega
 | cons=>rfl
theorem BN (s:ByteArray) (h:0<s.size):xI s.data.toList=zob s[0]:=by
 have:=uY s 0 h
 cases X:s.data.toList with
 | nil=>rw [X] at this;simp at this
 | cons an r=>rw [X] at this;simp at this;simp [xI,this]
theorem zik (s:ByteArray) (k:Nat) (h:k<s.size) (p:UInt8->Bool):(s.data.toList.take (k+1)).all p=((s.data.toList.take k).all p&&p s[k]):=by
 rw [uY s k h];simp
theorem zuv (s:ByteArray) (p:UInt8->Bool):(s.data.toList.take s.size).all p=s.data.toList.all p:=by
 rw [iq (by rw [zbb];exact dA _)]
theorem z1x (s:ByteArray) (k:Nat) (h:k<s.size) (p:UInt8->Bool) (aA:p s[k]=false):s.data.toList.all p=false:=by
 have S:s.data.toList[k]'(by rw [zbb];exact h)=s[k]:=rfl;rw [sY];refine ⟨s[k],?_,by simp [aA]⟩
 rw [← S];exact eb _
theorem zuw (s:ByteArray) (h:s.size=0):zck s.data.toList=false:=by
 have:s.data.toList=[]:=hF (by rw [zbb];exact h)
 rw [this];rfl
theorem zyi (s:ByteArray) (h:8<s.size):zck s.data.toList=false:=by
 unfold zck;rw [zbb,show decide (s.size<=8)=false from Of];simp
theorem zyj (s:ByteArray) (h:0<s.size) (X:zob s[0]=false):zck s.data.toList=false:=by
 unfold zck;rw [BN s h,X];simp
theorem zyk (s:ByteArray) (h:0<s.size) (p:s.size<=8) (X:zob s[0]=true):zck s.data.toList=s.data.toList.all ze8:=by
 unfold zck;rw [BN s h,X,zbb,show decide (s.size<=8)=true from Of];simp
def uZ (l:L8):Nat:=(l.takeWhile ze8).length
def rV (s:ByteArray) (a:Nat):Nat:=uZ (s.data.toList.drop a)
theorem xJ:∀ (g:L8) (k:Nat),(g.take k).all ze8=true->k<=g.length->(∀ h:k<g.length,ze8 g[k]=false)->uZ g=k
 | [],k,_,N,_=>by simp at N;subst N;rfl
 | an :: g,0,_,_,a8=>by have:=a8 Ob;simp at this;simp [uZ,this]
 | an :: g,k+1,a7,N,a8=>by
   simp only [List.take_succ_cons,rR,dO] at a7;have ay:=xJ g k a7.2 (by simp at N;omega) (fun h=>by have:=a8 Of;simpa using this);simp only [uZ] at ay ⊢;rw [List.takeWhile_cons,if_pos a7.1,gY,ay]
theorem rW (s:ByteArray) (a:Nat):(s.data.toList.drop a).length=s.size - a:=by rw [qB,zbb]
theorem BO (s:ByteArray) (a k:Nat) (h:a+k<s.size):(s.data.toList.drop a)[k]'(by rw [rW];omega)=s[a+k]:=by
 rw [xn];rfl
theorem zwv (s:ByteArray) (a k:Nat) (h:a+k<s.size):((s.data.toList.drop a).take (k+1)).all ze8=(((s.data.toList.drop a).take k).all ze8&&ze8 s[a+k]):=by
 rw [gn (by rw [rW];omega),BO s a k h];simp
theorem z5l (s:ByteArray) (a k:Nat) (a7:((s.data.toList.drop a).take k).all ze8=true) (h:a+k=s.size):rV s a=k:=
 xJ _ k a7 (by rw [rW];omega) (fun N=>by rw [rW] at N;omega)
theorem zsh (s:ByteArray) (a k:Nat) (a7:((s.data.toList.drop a).take k).all ze8=true) (h:a+k<s.size) (W:ze8 s[a+k]=false):rV s a=k:=
 xJ _ k a7 (by rw [rW];omega) (fun _=>by rw [BO s a k h];exact W)
def pieceN (s:ByteArray) (a:Nat):Nat:=if rV s a=0 then 1 else rV s a
theorem z9m (s:ByteArray) (a:Nat) (h:a<s.size):((s.data.toList.drop a).take 1).all ze8=ze8 s[a]:=by
 have:=zwv s a 0 N7;exact S2
theorem zsi (s:ByteArray) (a:Nat) (h:a<s.size) (W:ze8 s[a]=false):pieceN s a=1:=by
 have:=zsh s a 0 Ob N7 (by simpa using W);simp [pieceN,this]
theorem zsj (s:ByteArray) (a k:Nat) (N:0<k) (h:rV s a=k):pieceN s a=k:=by
 unfold pieceN;rw [h,if_neg N7]
theorem I6 (s:ByteArray) (a:Nat):rV s a<=s.size - a:=by
 have:=(List.takeWhile_prefix ze8 (l:=s.data.toList.drop a)).length_le
 rw [rW] at this;exact this
theorem zje (s:ByteArray) (a:Nat):0<pieceN s a:=by unfold pieceN;split<;>omega
theorem z1y (s:ByteArray) (a:Nat) (h:a<s.size):a+pieceN s a<=s.size:=by
 have:=I6 s a;unfold pieceN;split<;>omega
end Lx
namespace Fx
def fit64 (n:Int):Prop:=-9223372036854775808<=n/\n<=9223372036854775807
structure It where
 kind:Int
 n:Int
 at_:Int
 name:ByteArray
structure Fc where
 name:ByteArray
 items:List It
def nameOk (s:ByteArray):Bool:=Lx.zck s.data.toList
def numOkB (i:It):Bool:=
 if i.kind=1 then decide (0<=i.n)&&decide (i.n<=1099511627775)&&decide (i.at_=0)
 else if i.kind=2 then decide (i.n=0)&&decide (0<=i.at_)&&decide (i.at_<=320)
 else if i.kind=3 then decide (1<=i.n)&&decide (i.n<=32)&&decide (0<=i.at_)&&decide (i.at_<=320)
 else if i.kind=4 then decide (0<=i.n)&&decide (i.n<=3)&&decide (0<=i.at_)&&decide (i.at_<=320)
 else false
def me (i:It):Bool:=nameOk i.name&&numOkB i
def zhv:List (L8)->List (L8):=List.foldl (fun H o=>if o ∈ H then H else H++[o]) []
def zhf (l:List (L8)):Bool:=decide ((zhv l).length<l.length)
theorem va (l:List (L8)) (s:L8):zhv (l++[s])=if s ∈ zhv l then zhv l else zhv l++[s]:=by
 unfold zhv;rw [lG];rfl
theorem zbs {α:Type} {p:List α->Prop} (ab:p []) (F:∀ g a,p g->p (g++[a])):∀ g,p g:=by
 intro g
 have:∀ n (g:List α),g.length=n->p g:=by
  intro n
  induction n with
  | zero=>intro g X;rw [hF X];exact ab
  | succ n ay=>
    intro g X
    have aX:g≠[]:=fun e=>by rw [e] at X;simp at X
    rw [← List.dropLast_concat_getLast aX];exact F _ _ (ay _ (by rw [List.length_dropLast];omega))
 exact this _ g rfl
theorem vc (x:L8):∀ g:List (L8),x ∈ zhv g↔x ∈ g:=by
 apply zbs
 . exact Iff.rfl
 . intro g a ay
   rw [va]
   by_cases h:a ∈ zhv g
   . rw [if_pos h]
     simp only [jF,l8]
     constructor
     . intro S;exact Or.inl (ay.1 S)
     . rintro (S | rfl)
       . exact ay.2 S
       . exact h
   . rw [if_neg h]
     simp only [jF,l8,ay]
theorem I7:∀ g:List (L8),(zhv g).length<=g.length:=by
 apply zbs
 . exact dA _
 . intro g a ay
   rw [va];split
   . rw [eM];simp;omega
   . rw [eM,eM];simp;omega
theorem z5m (l:List (L8)) (s:L8):zhf (l++[s])=(zhf l||decide (s ∈ l)):=by
 have F:=I7 l
 have J:(l++[s]).length=l.length+1:=Ob
 unfold zhf;rw [va,J]
 by_cases h:s ∈ zhv l
 . rw [if_pos h,decide_eq_true ((vc s l).1 h),xH]
   exact decide_eq_true N7
 . rw [if_neg h,decide_eq_false (fun e=>h ((vc s l).2 e)),Bool.or_false,show (zhv l++[s]).length=(zhv l).length+1 from Ob]
   exact decide_eq_decide.2 N7
def zec (l:List It):List (L8):=l.map (·.name.data.toList)
def zq9 (f:Fc):Int:=
 if 16<f.items.length then 2 else if nameOk f.name && !zhf (zec f.items)&&f.items.all me then 0 else 1
theorem I8 {f:Fc} (h:16<f.items.length):zq9 f=2:=if_pos h
theorem I9 {f:Fc} (h:¬ 16<f.items.length) (F:nameOk f.name=false):zq9 f=1:=by unfold zq9;rw [if_neg h,F];rfl
theorem Ja {f:Fc} (h:¬ 16<f.items.length) (F:zhf (zec f.items)=true):zq9 f=1:=by unfold zq9;rw [if_neg h,F];simp
theorem Jb {f:Fc} (h:¬ 16<f.items.length) (F:f.items.all me=false):zq9 f=1:=by unfold zq9;rw [if_neg h,F];simp
theorem Jc {f:Fc} (h:¬ 16<f.items.length) (ab:nameOk f.name=true) (F:zhf (zec f.items)=false) (J:f.items.all me=true):zq9 f=0:=by unfold zq9;rw [if_neg h,ab,F,J];rfl
end Fx
end Go.Proofs.YtndkhgakfodldaaGreatDoor
