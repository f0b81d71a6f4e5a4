import Derived.Test.YtndkhgakfodldaaGreatDoorBc
import Derived.Test.YtndkhgakfodldaaGreatDoorUt
set_option maxRecDepth 100000
set_option maxHeartbeats 12800000
set_option linter.unusedSectionVars false
set_option linter.unusedSimpArgs false
set_option linter.unusedVariables false
open Go.Proofs.Tryz
namespace Go.Proofs.YtndkhgakfodldaaGreatDoor
open Go.RowKit Go.Shelf
section
variable {α:Type} {p:L8->Option (α × L8)} {H:List α} {n:Nat} {l r:L8} {i:α}
end
variable {A:Nat->Prop} {B b y:Nat} {K:Wk} {H:Cx} {r:List Int} {av:Value} {w:World} {x:Int}
theorem zv (x:Int):∀ u ∈ (#[Value.int .i64 x]:Array Value).toList,u.oneCell'=true:=by simp;rfl
theorem dx.tailI {C:Nat} (h:dx w A (some (dj b C)) (x :: r).length (fs (x :: r))):dx w A (some ⟨b,C+1,none⟩) r.length (fs r):=by
 obtain ⟨F,J,U⟩:=h;have e:fs (x :: r) = .int x :: fs r:=rfl;rw [e] at F J U;refine ⟨by simp only [gY] at F;omega,by simp only [gY] at J;omega,?_⟩
 rcases U with aa | ⟨aL,c0,s,a7,X,I,W,S⟩
 . simp at aa
 . cases a7
   unfold eu at S;obtain ⟨v,t,rfl,_,S⟩:=S;refine Or.inr ⟨b,C+1,t,rfl,X,I,fun j u a2=>?_,S⟩;have:=W (j+1) u PU;rw [show C+1+j=C+(j+1) from N7];exact this
theorem e7.fromIn {s:Sw} {e:Int} {bD P:OA} {p o:Nat} (h:e7 w B y H K av s e) (a8:s.inp=x :: r) (I:w.heap[B]? = some (.cells (nR H K bD p av s e) 128 (0,0))) (V:dx w (·<y) P r.length (fs r)) (W:r.length<=o):e7 (w.setCell (dj B 4) (.slice P r.length o)) B y H K av { s with inp:=r } e:=by
 have bj:=h.ro.lB;refine ⟨⟨P,o,heap_set I _,V.moves ⟨Ob,fun b _ ac=>⟨ac,eh (by show b≠B;omega) _⟩⟩,W⟩,?_,?_,h.ro.moves Ob (fun b _ Z _=>eh (by show b≠B;exact Z) _),h.cd,h.dl,h.tl,h.tm,h.cl,h.ol⟩
 . exact (eh Py _).trans h.data
 . exact iZ h.out (fun k N=>eh (fun e=>h.oB Pz) _)
theorem next_any (B y:Nat) (H:Cx) (K:Wk) (av:Value) (s:Sw) (w:World) (h:e7 w B y H K av s 0) :
 dw 290 #[dF B 0] w fun e G=>Sr fB B y H K w av (ka s) e G:=by
 obtain ⟨bD,p,I,V,W⟩:=h.blk;have aS:=hid h
 cases a8:s.inp with
 | nil=>
   have z:Hid (ka s = .ok 0 s):=by show _=_;unfold ka;rw [a8]
   have aB:=I;unfold nR at aB;rw [a8] at aB;obtain ⟨aH,az,aK,aW,bg,q5,q6,q7,q8,q9,b5,qf⟩:=jt aB;clear h I aB V W a8;go_enter func290,ntmps290;go_wp2_with fail
   go_returns
   exact ⟨av,dR.refl _ _ _ _,Or.inl ⟨0,s,z,rfl,aS⟩⟩
 | cons x r=>
   have z:Hid (ka s = .ok x { s with inp:=r }):=by show _=_;unfold ka;rw [a8]
   have d:=V;rw [a8] at d;obtain ⟨b,C,rfl,bb,bt,hwx⟩:=d.num 0 Ob;rw [a8] at W;simp only [gY] at W;have aM:=hid d.tailI;have A:=hid (fun P o (F:dx w (·<y) P r.length (fs r)) (J:r.length<=o)=>aS.fromIn a8 I F J);have aB:=I;unfold nR at aB;rw [a8] at aB;have bK:=d.bound;obtain ⟨aH,az,aK,aW,bg,q5,q6,q7,q8,q9,b5,qf⟩:=jt aB;simp only [gY,gQ,oz] at bg bt bK;clear h I aB V d a8
   by_cases aO:p=1
   . subst aO
     obtain rfl:r=[]:=hF N7;simp only [pA,fY] at bg;go_enter func290,ntmps290;go_wp2_with fail
     go_returns
     exact ⟨av,dR.grown sn,Or.inl ⟨x,_,z,rfl,A _ _ ⟨Ql,Ql,Or.inl rfl⟩ Ob⟩⟩
   . have bp:¬ p - 1=0:=by omega
     have M:¬ p<=1:=N7
     go_enter func290,ntmps290;go_wp2_with fail
     go_returns
     exact ⟨av,dR.grown sn,Or.inl ⟨x,_,z,rfl,A _ _ aM N7⟩⟩
theorem e7.told {dk:World} {s:Sw} {o:Obj} {n:Int} {q c:Nat} (h:e7 w B y H K av s 0) (ak:(w.alloc o).grownBy dk av.ownBlock) (a3:av.ownBlock=some q\/q=w.heap.size+1) (ap:dk.ownsRow K.S 3 1 (.slice (some (dj q 0)) (s.out.length+1) c) (s.out.length+1) (intV s.out++[di n])) (X:s.out.length≠200) :
 e7 (dk.setCell (dj B 5) (.slice (some (dj q 0)) (s.out.length+1) c)) B y H K (.slice (some (dj q 0)) (s.out.length+1) c) { s with out:=s.out++[n] } 0/\dR B K.D av (.slice (some (dj q 0)) (s.out.length+1) c) w (dk.setCell (dj B 5) (.slice (some (dj q 0)) (s.out.length+1) c)):=by
 obtain ⟨bD,p,I,V,W⟩:=h.blk;have bb:=lt_of_heap I;have bZ:=lt_of_heap h.data
 have k:∀ b,b<w.heap.size->av.ownBlock≠some b->dk.heap[b]? = w.heap[b]?:=fun b I Z=>(ak.block b Of (fun e=>Z e.symm)).trans ((dn w o).block b I)
 have a:q≠B:=by
  rcases a3 with e | e
  . exact fun x=>h.oB (by rw [e,x])
  . omega
 have d:q≠K.D:=by
  rcases a3 with e | e
  . exact fun x=>h.oD (by rw [e,x])
  . omega
 have aE:=h.ro.zS;have g:=h.ro.BS;have f:=h.ro.lB
 have M:∀ b,b<K.S->dk.heap[b]? = w.heap[b]?:=fun b ac=>k b N7 (fun e=>by have:=(h.out.lt b e).1;omega)
 have am:w.heap.size<=dk.heap.size:=fZ Ob ak.size;have l:=h.ol;refine ⟨⟨⟨bD,p,?_,V.moves ⟨by simpa using am,fun b aB ac=>⟨ac,(eh (by show b≠B;omega) _).trans (M b N7)⟩⟩,W⟩,?_,?_,h.ro.moves (by simpa using am) (fun b F Z _=>(eh (by show b≠B;exact Z) _).trans (M b F)),h.cd,h.dl,h.tl,h.tm,h.cl,?_⟩,⟨ak.os,ak.tape,ak.output,by simpa using am,fun b F J _ aa=>(eh (by show b≠B;exact J) _).trans (k b F aa),fun x e S=>?_⟩⟩
 . exact heap_set ((k B bb h.oB).trans I) _
 . exact (eh Py _).trans ((k K.D bZ h.oD).trans h.data)
 . show (dk.setCell _ _).ownsRow K.S 3 1 _ (s.out++[n]).length (intV (s.out++[n]))
   rw [eM,oA,D5];exact iZ ap (fun k N=>eh (fun e=>a ((eX N).trans e)) _)
 . show (s.out++[n]).length<=200
   rw [eM,oA];omega
 . obtain rfl:q=x:=eX e
   rcases a3 with F | F
   . exact F
   . omega
theorem tell_any (B y:Nat) (H:Cx) (K:Wk) (av:Value) (s:Sw) (n:Int) (w:World) (h:e7 w B y H K av s 0) :
 dw 266 #[dF B 0,di n] w fun e G=>Sr tw B y H K w av (jO n s) e G:=by
 obtain ⟨bD,p,I,_,_⟩:=h.blk;obtain ⟨o,aA,hvo,_,_⟩:=hS h.out;obtain ⟨aH,az,aK,aW,bg,q5,q6,q7,q8,q9,b5,qf⟩:=jt I;have l:=h.ol;have aS:=hid h
 by_cases ax:s.out.length=200
 . have z:Hid (jO n s = .stop 5 s):=if_pos ax
   have aQ:=hid (stop_any B y H K av s 5 w h);subst hvo;rw [ax] at q5;clear h I;go_enter func266,ntmps266;go_wp2_with fail;refine aQ.mono ?_;rintro e dk ⟨rfl,ak,aj⟩;exact ⟨rfl,_,dR.grown ak,Or.inr ⟨5,s,z,rfl,aj⟩⟩
 . have z:Hid (jO n s = .ok () { s with out:=s.out++[n] }):=if_neg ax
   have a:¬ (s.out.length:Int)=200:=N7
   have k:((s.out.length:Int) == 200)=false:=by rw [beq_eq_false_iff_ne];exact a
   obtain ⟨aY,V,a9,ba,bA⟩:=info_parts Tryz.infoInt;have aZ:=hid (ownsRow_later h.out (dn w (.cells #[di n] 3)));have bW:K.S<=w.heap.size:=h.ro.zS;subst hvo;have b:=hid (fun dk R c ak a3 ap=>h.told (dk:=dk) (o:=.cells #[di n] 3) (n:=n) (q:=R) (c:=c) ak a3 ap ax);have cv:=hid (fun dk (ak:(w.alloc (.cells #[di n] 3)).grownBy dk (Value.ownBlock (.slice o s.out.length aA)))=>(ak.block B Of (fun e=>h.oB e.symm)).trans (((dn w (.cells #[di n] 3)).block B (lt_of_heap I)).trans I));clear h I;go_enter func266,ntmps266
   go_wp2_with (at_builtin;refine wpList_append_lies _ rfl (.tmp 16) (.tmp 18) _ rfl K.S 3 aY _ 1 8 Tryz.underlying49 V a9 ba bA rfl N7 (.slice o s.out.length aA) s.out.length (intV s.out) rfl aZ (dj _ 0) 1 1 [di n] rfl rfl (Fx.zmf Ob) (by simp;rfl) N7 Oh N7 Of _ rfl ?_;intro q9' aw dk hown1 ak a3 be;have aM:=hid (b dk q9' aw ak (by simpa using a3) hown1);have E:=cv dk ak;obtain ⟨bF,bo,ei,e2,ty,vK,yF,Dv,p8,p9,bw,bV⟩:=jt E;clear E hown1 ak a3)
   go_end0;exact ⟨_,aM.2,Or.inl ⟨(),_,z,rfl,aM.1⟩⟩
def Cl (w:World) (B C u:Nat) (lv:Value) (ret:Int):Prop:=w.heap[C]? = some (.cells #[dF B 0,di u,lv,di ret] 257 (0,0))
theorem il {af a4 am a5:Value} {t:TypeId} (h:w.heap[b]? = some (.cells #[af,a4,am,a5] t (0,0))) :
 w.cell? (dj b 0)=some af/\w.cell? (dj b 1)=some a4/\w.cell? (dj b 2)=some am/\w.cell? (dj b 3)=some a5/\b<w.heap.size/\∀ j,w.frozen? (dj b j)=false:=by
 refine ⟨?_,?_,?_,?_,lt_of_heap h,fun j=>hD h j⟩<;>(rw [eZ h];rfl)
theorem dx.row {a:OA} {l:List (List Nat)} (h:dx w A a l.length (pT l)) (i:Nat) (V:i<l.length):∃ b C E a9,a=some (dj b C)/\b<w.heap.size/\w.cell? ⟨b,C+i,none⟩=some (.slice E l[i].length a9)/\dx w A E l[i].length (fs (hO l[i])):=by
 obtain ⟨b,C,a7,I,W⟩:=h.cell N7;obtain ⟨v,af,hd⟩:=W i (.list l[i].length (fs (hO l[i]))) (by simp [pT,V]);obtain ⟨E,a9,rfl,F⟩:=ho hd;exact ⟨b,C,E,a9,a7,I,af,F⟩
theorem EQ (B y:Nat) (H:Cx) (K:Wk) (av:Value) (s:Sw) (C u:Nat) (lv:Value) (ret m g:Int) (w:World) (h:e7 w B y H K av s 0) (bj:Cl w B C u lv ret) (aL:u<H.near.length) (a1:0<=m) (Z:m.toNat<H.near[u].length) (aj:H.near[u][m.toNat]<H.beg.length) (Y : -9223372036854775808<=e8 H u m g/\e8 H u m g<=9223372036854775807) :
 dw 289 #[dF C 0,di m,di g] w fun e G=>e = .returned (di (e8 H u m g))/\∃ R,G=w.drewN R:=by
 obtain ⟨a6,rfl⟩:∃ k:Nat,m=k:=⟨m.toNat,N7⟩
 have b:a6<H.near[u].length:=by simpa using Z
 have i:H.near[u][a6]<H.beg.length:=by simpa using aj
 clear Z aj a1;obtain ⟨bD,p,I, -, -⟩:=h.blk;obtain ⟨aH,az,aK,aW,bg,q5,q6,q7,q8,q9,b5,qf⟩:=jt I;obtain ⟨bF,bo,ei,e2,bw,bV⟩:=il bj;obtain ⟨bt,bE,E,a9,aq,ba,ah,aJ⟩:=h.ro.near.row u aL
 have bK:(hO H.near[u]).length=H.near[u].length:=by simp [hO]
 have bQ:=aJ;rw [← bK] at bQ;obtain ⟨bv,ab,rfl,bA,ae, -⟩:=bQ.num a6 (by rw [bK];exact b);obtain ⟨aR,V,T,bX,c3, -⟩:=h.ro.beg.num H.near[u][a6] i;have cm:=h.ro.near.bound;have cb:=bQ.bound;have cj:=h.ro.beg.bound
 have aP:Hid (e8 H u (a6:Int) g=H.beg[H.near[u][a6]]+g):=by
  show _=_;unfold e8 fT;rw [ir,fV,fV,fV,ew aL,gE,ew b,gE,ew i,gE]
 rw [aP.out] at Y ⊢
 have aI:(hO H.near[u])[a6]'(by rw [bK];exact b)=(H.near[u][a6]:Int):=by simp [hO]
 rw [aI] at ae;rw [aq] at az;rw [T] at aK;rw [bK] at cb;clear h I bj aJ bQ aP
 have c7:wrap64 (H.beg[H.near[u][a6]]+g)=H.beg[H.near[u][a6]]+g:=OO
 generalize H.beg[H.near[u][a6]]=a5 at *;clear aI;generalize H.near[u][a6]=am at *;clear bK;generalize H.near[u].length=ap at *;clear aq T;go_enter func289,ntmps289;go_wp2_with fail
 go_quiet ((fail))
 go_wp2_with fail
 go_returns
 exact ⟨by first | rfl | simp [*],_,rfl⟩
end Go.Proofs.YtndkhgakfodldaaGreatDoor

namespace Go.Proofs.YtndkhgakfodldaaGreatDoor
def ji (H:Cx) (u sz:Nat) (m g n:Int):Prop:=
 0<=m/\0<=g/\∃ (F:u<H.near.length) (J:m.toNat<H.near[u].length) (U:H.near[u][m.toNat]<H.beg.length),0<=H.beg[H.near[u][m.toNat]]/\H.beg[H.near[u][m.toNat]]+g+n<=sz
def kW (H:Cx) (u k:Nat) (m g:Int):Prop:=
 0<=m/\0<=g/\∃ (F:u<H.near.length) (J:m.toNat<H.near[u].length) (U:H.near[u][m.toNat]<H.us.length) (aa:g.toNat<H.us[H.near[u][m.toNat]].parts.length),(H.us[H.near[u][m.toNat]].parts[g.toNat]).params=k
def f8 (H:Cx) (u nl sz:Nat):Nat->dB->Prop
 | 0,_=>False
 | k+1,x=>
   x.op=1\/x.op=2\/(x.op=16/\0<=x.at_/\x.at_<nl)\/(x.op=3/\ji H u sz x.m x.at_ 1)
   \/(x.op=4/\1<=x.n/\ji H u sz x.m x.at_ x.n/\x.args.length=1/\∀ a3 ∈ x.args,f8 H u nl sz k a3)
   \/(x.op=5/\kW H u x.args.length x.m x.at_/\∀ a3 ∈ x.args,f8 H u nl sz k a3)
   \/(x.op=6/\x.args.length=1/\∀ a3 ∈ x.args,f8 H u nl sz k a3)
   \/(7<=x.op/\x.op<=15/\x.args.length=2/\∀ a3 ∈ x.args,f8 H u nl sz k a3)
def gM (H:Cx) (u nl sz:Nat):Nat->du->Prop
 | 0,_=>False
 | k+1,a=>
   (∀ a3 ∈ a.args,f8 H u nl sz 6 a3)/\
   ((a.op=1/\a.args.length=1/\((a.m = -1/\0<=a.at_/\a.at_<nl)\/(a.m≠-1/\ji H u sz a.m a.at_ 1)))
   \/(a.op=2/\a.args.length=2/\1<=a.n/\ji H u sz a.m a.at_ a.n)
   \/(a.op=3/\kW H u a.args.length a.m a.at_)
   \/(a.op=4/\a.args.length=1/\(∀ b ∈ a.body,gM H u nl sz k b)/\∀ b ∈ a.other,gM H u nl sz k b)
   \/(a.op=5/\a.args.length=1/\∀ b ∈ a.body,gM H u nl sz k b)
   \/(a.op=6/\a.args.length=1)\/(a.op=7/\a.args.length=1))
def mB (H:Cx) (sz:Nat):Prop:=
 ∀ u (h:u<H.us.length),(∀ a ∈ H.us[u].main,gM H u 0 sz 6 a)/\∀ p ∈ H.us[u].parts,0<=p.params/\0<=p.locals/\p.params+p.locals<=16/\∀ a ∈ p.body,gM H u (p.params+p.locals).toNat sz 6 a
def Lo (w:World) (lv:Value) (L:Nat) (P:List Int):Prop:=(P=[]/\∃ a,lv = .slice a 0 0)\/(lv = .slice (some (dj L 0)) P.length P.length/\w.heap[L]? = some (.cells (intV P).toArray 3 (0,0)))
theorem dR.keep {B D b:Nat} {av q:Value} {w G:World} {x:Obj} (h:dR B D av q w G) (I:w.heap[b]? = some x) (F:b≠B) (J:b≠D) (U:av.ownBlock≠some b):G.heap[b]? = some x/\q.ownBlock≠some b:=
 ⟨(h.block b (lt_of_heap I) F J U).trans I,fun e=>U (h.own b e (lt_of_heap I))⟩
end Go.Proofs.YtndkhgakfodldaaGreatDoor

namespace Go.Proofs.YtndkhgakfodldaaGreatDoor
open Go.RowKit
variable {B B' a5 b q nl sz:Nat} {A:dB->Nat->List ey} {S:i2} {g m:Int} {c:Fr} {H:Cx} {M a2:ey->Ins} {gs:List (List Int × Int)} {G:List Int} {α:Type}
def i6 (C:List Ins) (b:Nat) (M:ey->Ins) (n:Nat) (L:List ey):Prop:=∀ j (h:j<L.length),C[b+n+j]? = some (M L[j])
theorem i6.app {C:List Ins} {n:Nat} {A B:List ey} (h:i6 C b M n (A++B)):i6 C b M n A/\i6 C b M (n+A.length) B:=by
 refine ⟨fun j a2=>?_,fun j a2=>?_⟩
 . rw [h j Of,lE a2]
 . have:=h (A.length+j) Of
   rw [List.getElem_append_right N7] at this;simp only [xj] at this;rw [← this]
   congr 1
   omega
theorem i6.cons {C:List Ins} {n:Nat} {x:ey} {B:List ey} (h:i6 C b M n (x :: B)):C[b+n]? = some (M x)/\i6 C b M (n+1) B:=by
 refine ⟨h 0 Ob,fun j a2=>?_⟩;have:=h (j+1) Of;rw [nD] at this;rw [← this]
 congr 1
 omega
structure sC (cx:Cx) (C:List Ins) (base:Nat->Nat) (fin:Nat->ey->Ins) (ent:Nat->Nat->Nat) (sz:Nat):Prop where
 hp:∀ u op a b,fin u (eL op a b)=⟨op,a,b⟩
 hj:∀ u,u<cx.us.length->∀ op (a:Nat),fin u (eN op a)=⟨op,(base u+a:Nat),0⟩
 hd:∀ u op m a n b,ji cx u sz m a n->fin u (hu 3 m op a b)=⟨op,e8 cx u m a,b⟩
 hc:∀ u k m a,kW cx u k m a->fin u (hu 2 m 13 a 0)=⟨13,(base (fT cx u m)+ent (fT cx u m) a.toNat:Nat),0⟩
 prt:∀ j (h:j<cx.us.length) i (h2:i<cx.us[j].parts.length),i6 C (base j) (fin j) (ent j i) (lp cx.us[j].parts[i] (ent j i))
 pr3:∀ j (h:j<cx.us.length),∀ p ∈ cx.us[j].parts,p.params<=3
 ok:mB cx sz
 few:sz<=512
 len:C.length<=2048
structure hW (cx:Cx) (sz N:Nat) (gs:List (List Int × Int)) (stk:List Int) (B:Nat) (s:Sw):Prop where
 dl:s.data.length=sz
 cl:gs.length=s.calls
 c24:s.calls<=24
 st:stk.length+B+64*(24 - s.calls)<=2000
 tl:s.ticks<=cx.lim
 tn:cx.lim+1<=s.ticks+N
theorem hW.next {b:List Int} {s t:Sw} (h:hW H sz a5 gs G B s) (N:g8 H.lim s t) (a8:b.length+B'<=G.length+B):hW H sz a5 gs b B' t:=
 ⟨N.dl.trans h.dl,by rw [N.cl];exact h.cl,by rw [N.cl];exact h.c24,by rw [N.cl];have:=h.st;omega,N.lm,by have:=h.tn;have:=N.tk;omega⟩
theorem hW.less {s:Sw} (h:hW H sz a5 gs G B s) (aF:B'<=B):hW H sz a5 gs G B' s:=h.next (g8.refl h.tl) N7
theorem hW.room {s:Sw} (h:hW H sz a5 gs G B s):G.length<2048:=by have:=h.st;omega
theorem sD {u:Nat} {a n:Int} (h:ji H u sz m a n):0<=e8 H u m a/\e8 H u m a+n<=sz:=by
 obtain ⟨ab,F,J,U,aa,aB,bj⟩:=h;unfold e8 fT;rw [fV (l:=H.near),ew J,gE,fV (l:=H.near[u]),ew U,gE,fV,ew aa,gE];omega
theorem ER {u k:Nat} {a:Int} (h:kW H u k m a):∃ (F:fT H u m<H.us.length) (J:a.toNat<H.us[fT H u m].parts.length),qY H u m a=H.us[fT H u m].parts[a.toNat]/\H.us[fT H u m].parts[a.toNat].params=k:=by
 obtain ⟨ab,F,J,U,aa,aB,bj⟩:=h
 have e:fT H u m=H.near[u][m.toNat]:=by
  unfold fT;rw [fV (l:=H.near),ew J,gE,fV,ew U,gE]
 unfold qY;simp only [e];refine ⟨aa,aB,?_,bj⟩;rw [ew aa];simp only;rw [fV,ew aB,gE]
def qc (H:Cx) (C:List Ins) (y:Nat->Nat) (M:Nat->ey->Ins) (sz:Nat) (E:kb) (a5:Nat):Prop:=
 ∀ (j:Nat) (p:e5) (aH aE:Nat) (al G:List Int) (gs:List (List Int × Int)) (D:List Int) (g:Int) (s:Sw) (R:Int),
   j<H.us.length->i6 C (y j) (M j) aH (lp p aH)->0<=p.params->0<=p.locals->p.params+p.locals<=16->(∀ a ∈ p.body,gM H j (p.params+p.locals).toNat sz 6 a)->
   C[aE]? = some ⟨13,(y j+aH:Nat),0⟩->(al.length:Int)=p.params->hW H sz a5 gs G 0 s->
   ez C H.lim (em aE (G++al) gs D g s R) 1 s (E j p.body (hh al (p.params+p.locals)) s) (fun v t R=>em (aE+1) (G++[v]) gs D g t R)
theorem zw {f:dB->Sw->Rr Int}:∀ {l:List dB} {s t:Sw} {al:List Int},gW f l s = .ok al t->al.length=l.length
 | [],s,t,al,h=>by
   unfold gW at h
   injection h with h _
   rw [← h];rfl
 | x :: r,s,t,al,h=>by
   unfold gW at h
   cases F:f x s with
   | stop e ay=>rw [F] at h;cases h
   | ok v ay=>
     rw [F] at h;simp only [Rr.bind] at h
     cases J:gW f r ay with
     | stop e b1=>rw [J] at h;cases h
     | ok b b1=>
       rw [J] at h
       injection h with h _
       rw [← h,gY,gY,zw J]
section
variable {H:Cx} {C:List Ins} {y:Nat->Nat} {M:Nat->ey->Ins} {e:Nat->Nat->Nat} {sz a5:Nat} {E:kb} {u:Nat} {P:List Int}
def rh (H:Cx) (C:List Ins) (b:Nat) (M:ey->Ins) (sz a5:Nat) (P:List Int) (f:Sw->Rr Int) (A:Nat->List ey) (B:Nat):Prop:=
 ∀ n G gs g s R,i6 C b M n (A n)->hW H sz a5 gs G B s->ez C H.lim (em (b+n) G gs P g s R) (A n).length s (f s) (fun v t R=>em (b+(n+(A n).length)) (G++[v]) gs P g t R)
theorem zx {f:dB->Sw->Rr Int}:∀ (l:List dB),(∀ x ∈ l,rh H C b a2 sz a5 P (f x) (A x) B)->∀ n G gs g s R,i6 C b a2 n (iL A l n)->hW H sz a5 gs G (B+l.length) s->
 ez C H.lim (em (b+n) G gs P g s R) (iL A l n).length s (gW f l s) (fun al t R=>em (b+(n+(iL A l n).length)) (G++al) gs P g t R)
 | [],_,n,G,gs,g,s,R,_,Q=>ez.ok Q.tl (by simp [iL];rfl)
 | x :: r,h,n,G,gs,g,s,R,W,Q=>by
   unfold iL at W ⊢;obtain ⟨ah,ae⟩:=W.app;have F:=h x (fI ..) n G gs g s R ah (Q.less N7);unfold gW;rw [eM];refine F.bind (fun _ _ _=>rfl) (fun v t p _ N=>?_);have J:=zx r (fun a3 a4=>h a3 (fh _ a4)) (n+(A x n).length) (G++[v]) gs g t p ae (Q.next N Of);refine (J.bind (b':=0) (T':=fun al t R=>em (b+(n+((A x n).length+(iL A r (n+(A x n).length)).length))) (G++al) gs P g t R) (fun _ _ _=>rfl) (fun al b7 ei _ o=>ez.ok o.lm ?_));rw [ie n,oE]
   rfl
variable (aQ:sC H C y M e sz) (aG:qc H C y M sz E a5) (aL:u<H.us.length)
include aQ aL
theorem zy {f:Sw->Rr Int} {A:Nat->List ey} (h:rh H C (y u) (M u) sz a5 P f A B) {w:Int} (b6:ji H u sz m g w) (n:Nat) (G:List Int) (gs:List (List Int × Int)) (bk:Int) (s:Sw) (q:Int)
 (W:i6 C (y u) (M u) n (A n++[hu 3 m 6 g w])) (Q:hW H sz a5 gs G B s) :
 ez C H.lim (em (y u+n) G gs P bk s q) ((A n).length+1) s (hv f (e8 H u m g) w s) (fun v t q=>em (y u+(n+(A n).length+1)) (G++[v]) gs P bk t q):=by
 obtain ⟨ah,ae⟩:=W.app;have c3:=ae.cons.1;rw [aQ.hd u 6 m g w w b6] at c3;obtain ⟨bF,bo⟩:=sD b6;unfold hv;refine (h n G gs bk s q ah Q).bind (fun _ _ _=>rfl) (fun i t p _ N=>?_);have a8:=Q.room
 by_cases V:i<0\/w<=i
 . rw [if_pos V]
   obtain ⟨a9,F,J⟩:=Ez (mt:=H.lim) (gs:=gs) (lo:=P) (bk:=bk) (s:=t) (q:=p) (G:=G) c3 V;exact ez.halt F J (dA _)
 . rw [if_neg V]
   refine ez.step1 ?_ (g8.refl N.lm)
   have aj:wrap64 (e8 H u m g+i)=e8 H u m g+i:=by have:=aQ.few;unfold wrap64;omega
   have:=Ey (mt:=H.lim) (gs:=gs) (lo:=P) (bk:=bk) (s:=t) (q:=p) c3 a8 V;rw [aj] at this;exact this
include aG
theorem zz {f:dB->Sw->Rr Int} {l:List dB} (h:∀ x ∈ l,rh H C (y u) (M u) sz a5 P (f x) (A x) B) (bG:kW H u l.length m g) (n:Nat) (G:List Int) (gs:List (List Int × Int)) (bk:Int) (s:Sw) (q:Int)
 (W:i6 C (y u) (M u) n (iL A l n++[hu 2 m 13 g 0])) (Q:hW H sz a5 gs G (B+3) s) :
 ez C H.lim (em (y u+n) G gs P bk s q) ((iL A l n).length+1) s (kt E H u f m g l s) (fun v t q=>em (y u+(n+(iL A l n).length+1)) (G++[v]) gs P bk t q):=by
 obtain ⟨ah,ae⟩:=W.app;have c3:=ae.cons.1;rw [aQ.hc u l.length m g bG] at c3;obtain ⟨bd,bs,bI,bM⟩:=ER bG;have b:H.us[fT H u m].parts[g.toNat] ∈ H.us[fT H u m].parts:=eb bs;have U:=aQ.pr3 _ bd _ b;obtain ⟨bE,ab,V,au⟩:=(aQ.ok _ bd).2 _ b;unfold kt;refine (zx l h n G gs bk s q ah (Q.less N7)).bind (fun _ _ _=>rfl) (fun al t p a N=>?_);rw [bI];exact aG _ _ _ _ al G gs P bk t p bd (aQ.prt _ bd _ bs) bE ab V au c3 (by rw [zw a,bM]) (Q.next N N7)
theorem tQ:∀ (k:Nat) (x:dB),f8 H u P.length sz k x->rh H C (y u) (M u) sz a5 P (dI E H u P k x) (dW k x) (3*k)
 | 0,x,h=>h.elim
 | k + 1, x,h=>by
   intro n G gs g s R W Q;have a8:=Q.room;have a7:hW H sz a5 gs G (3*k) s:=Q.less N7
   have ay:=fun a3 a4=>tQ k a3 a4
   rcases h with h | h | ⟨h,F,J⟩ | ⟨h,F⟩ | ⟨h,F,J,U,aa⟩ | ⟨h,F,J⟩ | ⟨h,F,J⟩ | ⟨h,ab,F,J⟩
   . have aJ:dW (k+1) x n=[eL 1 x.n 0]:=by rw [dW,if_pos h]
     have aI:dI E H u P (k+1) x s = .ok x.n s:=by rw [dI,if_pos h]
     rw [aJ] at W ⊢;rw [aI];have c:=W.cons.1;rw [aQ.hp] at c;exact ez.step1 (tO c a8) (g8.refl Q.tl)
   . have aJ:dW (k+1) x n=[eL 18 0 0]:=by rw [dW,if_neg N7,if_pos h]
     have aI:dI E H u P (k+1) x s=ka s:=by rw [dI,if_neg N7,if_pos h]
     rw [aJ] at W ⊢;rw [aI];have c:=W.cons.1;rw [aQ.hp] at c;obtain ⟨v,t,bd,bs,bI,bM,bL⟩:=EH (mt:=H.lim) (G:=G) (gs:=gs) (lo:=P) (bk:=g) (s:=s) (q:=R) c a8;rw [bd];exact ez.step1 bL ⟨by rw [bs],bI,N7,by have:=Q.tl;omega⟩
   . have aJ:dW (k+1) x n=[eL 2 x.at_ 0]:=by rw [dW,if_neg N7,if_neg N7,if_pos h]
     have aI:dI E H u P (k+1) x s = .ok (P.getD x.at_.toNat 0) s:=by rw [dI,if_neg N7,if_neg N7,if_pos h]
     rw [aJ] at W ⊢;rw [aI];have c:=W.cons.1;rw [aQ.hp] at c;exact ez.step1 (Eu c a8 F J) (g8.refl Q.tl)
   . have aJ:dW (k+1) x n=[hu 3 x.m 4 x.at_ 0]:=by rw [dW,if_neg N7,if_neg N7,if_neg N7,if_pos h]
     have aI:dI E H u P (k+1) x s = .ok (s.data.getD (e8 H u x.m x.at_).toNat 0) s:=by rw [dI,if_neg N7,if_neg N7,if_neg N7,if_pos h]
     rw [aJ] at W ⊢;rw [aI];have c:=W.cons.1;rw [aQ.hd u 4 x.m x.at_ 1 0 F] at c;obtain ⟨bF,bo⟩:=sD F;exact ez.step1 (Ew c a8 bF (by rw [Q.dl];omega)) (g8.refl Q.tl)
   . have aJ:dW (k+1) x n=dW k (dq x.args 0) n++[hu 3 x.m 6 x.at_ x.n,eL 7 0 0]:=by rw [dW,if_neg N7,if_neg N7,if_neg N7,if_neg N7,if_pos h]
     have aI:dI E H u P (k+1) x s=(hv (dI E H u P k (dq x.args 0)) (e8 H u x.m x.at_) x.n s).bind fun p s=>.ok (s.data.getD p.toNat 0) s:=by
      rw [dI,if_neg N7,if_neg N7,if_neg N7,if_neg N7,if_pos h]
     have a4:=aa (dq x.args 0) O0;rw [aJ,show [hu 3 x.m 6 x.at_ x.n,eL 7 0 0]=[hu 3 x.m 6 x.at_ x.n]++[eL 7 0 0] from rfl,← oE] at W;rw [aJ,aI];obtain ⟨ah,ae⟩:=W.app;have c:=ae.cons.1;rw [aQ.hp] at c
     have X:(dW k (dq x.args 0) n++[hu 3 x.m 6 x.at_ x.n,eL 7 0 0]).length=(dW k (dq x.args 0) n).length+1+1:=Ob
     rw [X];obtain ⟨bF,bo⟩:=sD J;refine (zy aQ aL (ay _ a4) J n G gs g s R ah a7).bind (fun _ _ _=>rfl) (fun p t dF ar N=>?_)
     have aA:0<=p/\p<sz:=by
      unfold hv at ar
      cases Y:dI E H u P k (dq x.args 0) s with
      | stop e t'=>rw [Y] at ar;cases ar
      | ok i t'=>
        exact RA
     have j:C[y u+(n+(dW k (dq x.args 0) n).length+1)]? = some ⟨7,0,0⟩:=by
      rw [← c];congr 1;simp;omega
     exact ez.step1 (EA j a8 aA.1 (by rw [N.dl,Q.dl];exact aA.2)) (g8.refl N.lm)
   . have aJ:dW (k+1) x n=iL (dW k) x.args n++[hu 2 x.m 13 x.at_ 0]:=by rw [dW,if_neg N7,if_neg N7,if_neg N7,if_neg N7,if_neg N7,if_pos h]
     have aI:dI E H u P (k+1) x s=kt E H u (dI E H u P k) x.m x.at_ x.args s:=by
      rw [dI,if_neg N7,if_neg N7,if_neg N7,if_neg N7,if_neg N7,if_pos h]
     rw [aJ] at W ⊢;rw [aI,eM];exact zz aQ aG aL (fun a3 a4=>ay a3 (J a3 a4)) F n G gs g s R W (Q.less N7)
   . have aJ:dW (k+1) x n=dW k (dq x.args 0) n++[eL 9 0 0]:=by rw [dW,if_neg N7,if_neg N7,if_neg N7,if_neg N7,if_neg N7,if_neg N7,if_pos h]
     have aI:dI E H u P (k+1) x s=(dI E H u P k (dq x.args 0) s).bind fun v s=>.ok (gj (decide (v=0))) s:=by
      rw [dI,if_neg N7,if_neg N7,if_neg N7,if_neg N7,if_neg N7,if_neg N7,if_pos h]
     have a4:=J (dq x.args 0) O0;rw [aJ] at W ⊢;rw [aI,eM];obtain ⟨ah,ae⟩:=W.app;have c:=ae.cons.1;rw [aQ.hp] at c;refine (ay _ a4 n G gs g s R ah a7).bind (fun _ _ _=>rfl) (fun v t p _ N=>?_);exact ez.step1 (EC c a8) (g8.refl N.lm)
   . have f:=J (dq x.args 0) O0
     have a0:=J (dq x.args 1) O0
     by_cases d:x.op=7
     . have aJ:dW (k+1) x n=tI (dW k (dq x.args 0) n) (dW k (dq x.args 1) (n+(dW k (dq x.args 0) n).length+1)) n:=by rw [dW,if_neg N7,if_neg N7,if_neg N7,if_neg N7,if_neg N7,if_neg N7,if_neg N7,if_pos d]
       have aI:dI E H u P (k+1) x s=(dI E H u P k (dq x.args 0) s).bind fun v s=>if v=0 then .ok 0 s else (dI E H u P k (dq x.args 1) s).bind fun v s=>.ok (gj (decide (v≠0))) s:=by
        rw [dI,if_neg N7,if_neg N7,if_neg N7,if_neg N7,if_neg N7,if_neg N7,if_neg N7,if_pos d]
       have aY:=ay _ f n G gs g s R;have aE:=ay _ a0 (n+(dW k (dq x.args 0) n).length+1) G gs g;rw [aJ] at W ⊢;rw [aI];generalize dW k (dq x.args 0) n=A at *;generalize dW k (dq x.args 1) (n+A.length+1)=B at *;unfold tI at W ⊢;obtain ⟨ah,ae⟩:=W.app;obtain ⟨c3,K⟩:=ae.cons;obtain ⟨av,aW⟩:=K.app;obtain ⟨aq,c8⟩:=aW.cons;obtain ⟨aw,c10⟩:=c8.cons;have r:=c10.cons.1;rw [aQ.hj u aL] at c3 aw;rw [aQ.hp] at aq r
       have X:(A++eN 12 (n+A.length+1+B.length+2) :: (B++[eL 22 0 0,eN 11 (n+A.length+1+B.length+3),eL 1 0 0])).length=A.length+(B.length+4):=Ob
       rw [X];refine (aY ah a7).bind (fun _ _ _=>rfl) (fun v t p _ N=>?_);have b2:=sB (mt:=H.lim) (G:=G) (gs:=gs) (lo:=P) (bk:=g) (s:=t) (q:=p) (v:=v) _ c3
       by_cases af:v=0
       . rw [if_pos af] at b2 ⊢
         refine (ez.step (b:=1) b2 (ez.step1 ?_ (g8.refl N.lm))).mono N7;have:=tO (mt:=H.lim) (G:=G) (gs:=gs) (lo:=P) (bk:=g) (s:=t) (q:=p+1) r a8;rw [show y u+(n+(A.length+(B.length+4)))=y u+(n+A.length+1+B.length+1+1)+1 by omega];rw [show y u+(n+A.length+1+B.length+2)=y u+(n+A.length+1+B.length+1+1) by omega];exact this
       . rw [if_neg af] at b2 ⊢
         have aB:=(aE t (p+1) av (a7.next N (dA _))).bind (β:=Int) (b':=2) (f:=fun v s=>.ok (gj (decide (v≠0))) s) (T':=fun v t R=>em (y u+(n+(A.length+(B.length+4)))) (G++[v]) gs P g t R) (fun _ _ _=>rfl) (fun w b7 ei _ o=>by
          refine ez.step (b:=1) (zr aq a8) (ez.step1 ?_ (g8.refl o.lm));have:=tP (mt:=H.lim) (G:=G++[gj (decide (w≠0))]) (gs:=gs) (lo:=P) (bk:=g) (s:=b7) (q:=ei+1) _ aw;rw [show y u+(n+(A.length+(B.length+4)))=y u+(n+A.length+1+B.length+3) by omega]
          exact this)
         refine (ez.step b2 ?_).mono (b:=B.length+2+1) N7;exact aB
     by_cases Z:x.op=8
     . have aJ:dW (k+1) x n=tJ (dW k (dq x.args 0) n) (dW k (dq x.args 1) (n+(dW k (dq x.args 0) n).length+3)) n:=by rw [dW,if_neg N7,if_neg N7,if_neg N7,if_neg N7,if_neg N7,if_neg N7,if_neg N7,if_neg N7,if_pos Z]
       have aI:dI E H u P (k+1) x s=(dI E H u P k (dq x.args 0) s).bind fun v s=>if v=0 then (dI E H u P k (dq x.args 1) s).bind fun v s=>.ok (gj (decide (v≠0))) s else .ok 1 s:=by
        rw [dI,if_neg N7,if_neg N7,if_neg N7,if_neg N7,if_neg N7,if_neg N7,if_neg N7,if_neg N7,if_pos Z]
       have aY:=ay _ f n G gs g s R;have aE:=ay _ a0 (n+(dW k (dq x.args 0) n).length+3) G gs g;rw [aJ] at W ⊢;rw [aI];generalize dW k (dq x.args 0) n=A at *;generalize dW k (dq x.args 1) (n+A.length+3)=B at *;unfold tJ at W ⊢;obtain ⟨ah,ae⟩:=W.app;obtain ⟨c3,K⟩:=ae.cons;obtain ⟨av,aW⟩:=K.cons;obtain ⟨aq,c8⟩:=aW.cons;obtain ⟨aw,c10⟩:=c8.app;have r:=c10.cons.1;rw [aQ.hj u aL] at c3 aq;rw [aQ.hp] at av r
       have X:(A++eN 12 (n+A.length+3) :: eL 1 1 0 :: eN 11 (n+A.length+3+B.length+1) :: (B++[eL 22 0 0])).length=A.length+(B.length+4):=Ob
       rw [X];refine (aY ah a7).bind (fun _ _ _=>rfl) (fun v t p _ N=>?_);have b2:=sB (mt:=H.lim) (G:=G) (gs:=gs) (lo:=P) (bk:=g) (s:=t) (q:=p) (v:=v) _ c3
       by_cases af:v=0
       . rw [if_pos af] at b2 ⊢
         have aB:=(aE t (p+1) aw (a7.next N (dA _))).bind (β:=Int) (b':=1) (f:=fun v s=>.ok (gj (decide (v≠0))) s) (T':=fun v t R=>em (y u+(n+(A.length+(B.length+4)))) (G++[v]) gs P g t R) (fun _ _ _=>rfl) (fun w b7 ei _ o=>by
          refine ez.step1 ?_ (g8.refl o.lm);have:=zr (mt:=H.lim) (G:=G) (gs:=gs) (lo:=P) (bk:=g) (s:=b7) (q:=ei) (v:=w) r a8;rw [show y u+(n+(A.length+(B.length+4)))=y u+(n+A.length+1+1+1+B.length)+1 by omega]
          exact this)
         refine (ez.step b2 ?_).mono (b:=B.length+1+1) N7;exact aB
       . rw [if_neg af] at b2 ⊢
         refine (ez.step (b:=2) b2 (ez.step (b:=1) (tO av a8) (ez.step1 ?_ (g8.refl N.lm)))).mono N7;have:=tP (mt:=H.lim) (G:=G++[1]) (gs:=gs) (lo:=P) (bk:=g) (s:=t) (q:=p+1+1) _ aq;rw [show y u+(n+(A.length+(B.length+4)))=y u+(n+A.length+3+B.length+1) by omega];exact this
     . have aJ:dW (k+1) x n=iL (dW k) x.args n++[eL 10 x.op 0]:=by rw [dW,if_neg N7,if_neg N7,if_neg N7,if_neg N7,if_neg N7,if_neg N7,if_neg N7,if_neg d,if_neg Z]
       have aI:dI E H u P (k+1) x s=(dI E H u P k (dq x.args 0) s).bind fun a s=>(dI E H u P k (dq x.args 1) s).bind fun b s=>match kT x.op a b with
        | some n=>.ok n s
        | none=>.stop 1 s:=by
        rw [dI,if_neg N7,if_neg N7,if_neg N7,if_neg N7,if_neg N7,if_neg N7,if_neg N7,if_neg d,if_neg Z]
        rfl
       obtain ⟨D,ad,hargs⟩:∃ D ad,x.args=[D,ad]:=by
        match x.args,F with
        | [D,ad],_=>exact ⟨D,ad,rfl⟩
       rw [hargs] at f a0 aJ aI;have aY:=ay _ f n G gs g s R;have aE:=ay _ a0 (n+(dW k D n).length)
       replace aJ:dW (k+1) x n=dW k D n++(dW k ad (n+(dW k D n).length)++[eL 10 x.op 0]):=by rw [aJ];simp [iL]
       rw [aJ] at W ⊢;rw [aI];have bf:dq [D,ad] 0=D:=rfl;have be:dq [D,ad] 1=ad:=rfl;rw [bf] at aY ⊢;rw [be] at aE ⊢;generalize dW k D n=A at *;generalize dW k ad (n+A.length)=B at *;obtain ⟨ah,ae⟩:=W.app;obtain ⟨c3,K⟩:=ae.app;have av:=K.cons.1;rw [aQ.hp] at av
       have X:(A++(B++[eL 10 x.op 0])).length=A.length+(B.length+1):=Ob
       rw [X];refine (aY ah a7).bind (fun _ _ _=>rfl) (fun a t p _ N=>?_);refine (aE (G++[a]) gs g t p c3 (Q.next N Of)).bind (fun _ _ _=>rfl) (fun b b7 ei _ o=>?_);have a1:=ED (mt:=H.lim) (G:=G) (gs:=gs) (lo:=P) (bk:=g) (s:=b7) (q:=ei) (x:=a) (v:=b) av N7 a8
       cases ap:kT x.op a b with
       | none=>
         rw [ap] at a1;obtain ⟨a9,bB,bH⟩:=a1;exact ez.halt bB bH (dA _)
       | some v=>
         rw [ap] at a1;refine ez.step1 ?_ (g8.refl o.lm);rw [show y u+(n+(A.length+(B.length+1)))=y u+(n+A.length+B.length)+1 by omega];exact a1
end
def tS (b:Nat) (G:List Int) (gs:List (List Int × Int)) (lo:List Int) (bk:Int) (n e:Nat) (d:Bool × Fr) (t:Sw) (q:Int):i2:=
 cond d.1 (em n (G++[d.2.ret]) gs lo bk t q) (em (b+e) G (gs++[(lo,bk)]) d.2.loc (n:Int) t q)
theorem tT {lo:List Int} {bk:Int} {n e:Nat} (d:Bool × Fr) (t:Sw) (q:Int):(tS b G gs lo bk n e d t q).steps=q:=by
 unfold tS;cases d.1<;>rfl
def gr (c:Fr) (r:Rr (Bool × Fr)):Prop:=∀ d t,r = .ok d t->d.2.loc.length=c.loc.length/\(d.1=false->d.2.ret=c.ret)
theorem gr.bind {r:Rr α} {f:α->Sw->Rr (Bool × Fr)} (h:∀ a t,r = .ok a t->gr c (f a t)):gr c (r.bind f):=by
 cases r with
 | stop e t=>intro d t' h;cases h
 | ok a t=>exact h a t rfl
theorem gr.ok {d:Bool × Fr} {s:Sw} (F:d.2.loc.length=c.loc.length) (J:d.1=false->d.2.ret=c.ret):gr c (.ok d s):=fun i t h=>by
 injection h with h _
 subst h;exact ⟨F,J⟩
theorem gr.same (c:Fr) (s:Sw):gr c (.ok (false,c) s):=gr.ok rfl (fun _=>rfl)
def ri (H:Cx) (C:List Ins) (b:Nat) (M:ey->Ins) (sz a5 nl:Nat) (f:Fr->Sw->Rr (Bool × Fr)) (A:Nat->List ey):Prop:=
 ∀ n G gs D g k c s R,c.loc.length=nl->i6 C b M n (A n)->hW H sz a5 (gs++[(D,g)]) G 24 s->
   ez C H.lim (em (b+n) G (gs++[(D,g)]) c.loc ((k:Nat):Int) s R) (A n).length s (f c s) (tS b G gs D g k (n+(A n).length))/\gr c (f c s)
theorem ez.tick {C:List Ins} {c:i2} {b':Nat} {s s1:Sw} {r:Rr α} {T:α->Sw->Int->i2} (W:Mx.Mc.core C q S = .ok () c) (ax:s1.ticks=s.ticks+1) (N:g8 q s s1) (h:ez C q c b s1 r T) (I:b<=b'+2048):ez C q S (b'+1) s r T:=by
 obtain ⟨m,a1,Q⟩:=h;have a8:=wa W
 have e:jR C q (m+1) S=jR C q m c:=by
  show (Mx.Mc.core C q S).bind _=_
  rw [W];rfl
 refine ⟨m+1,N7,?_⟩;rw [e]
 cases r with
 | ok a t=>
   simp only at Q ⊢;rw [a8] at Q;exact ⟨by rw [Q.1];congr 2;omega,N.trans Q.2⟩
 | stop e t=>exact Q
theorem wg {f g:du->Nat->List ey}:∀ {l:List du},(∀ x ∈ l,∀ n,f x n=g x n)->∀ n,hT f l n=hT g l n
 | [],_,_=>rfl
 | x :: r,h,n=>by
   unfold hT;rw [h x (fI ..),wg (fun a3 a4=>h a3 (fh _ a4))]
theorem zD {u:Nat}:∀ (k:Nat) (a:du),gM H u nl sz k a->(∀ n,e3 k a n=e3 (k+1) a n)/\gM H u nl sz (k+1) a
 | 0,a,h=>h.elim
 | k + 1,a,h=>by
   have ay:=zD (u:=u) k;obtain ⟨ab,h⟩:=h
   constructor
   . intro n
     have aJ:∀ {l:List du},(∀ b ∈ l,gM H u nl sz k b)->∀ n,hT (e3 k) l n=hT (e3 (k+1)) l n:=fun X n=>wg (fun x S n=>(ay x (X x S)).1 n) n
     rcases h with ⟨h,_⟩ | ⟨h,_⟩ | ⟨h,_⟩ | ⟨h,F,J,U⟩ | ⟨h,F,J⟩ | ⟨h,_⟩ | ⟨h,_⟩
     . simp only [e3,h,Int.reduceEq,if_true,if_false]
     . simp only [e3,h,Int.reduceEq,if_true,if_false]
     . simp only [e3,h,Int.reduceEq,if_true,if_false]
     . simp only [e3,h,Int.reduceEq,if_true,if_false,aJ J,aJ U]
     . simp only [e3,h,Int.reduceEq,if_true,if_false,aJ J]
     . simp only [e3,h,Int.reduceEq,if_true,if_false]
     . simp only [e3,h,Int.reduceEq,if_true,if_false]
   . refine ⟨ab,?_⟩
     rcases h with h | h | h | ⟨h,F,J,U⟩ | ⟨h,F,J⟩ | h
     . exact Or.inl h
     . exact Or.inr (Or.inl h)
     . exact Or.inr (Or.inr (Or.inl h))
     . exact Or.inr (Or.inr (Or.inr (Or.inl ⟨h,F,fun b I=>(ay b (J b I)).2,fun b I=>(ay b (U b I)).2⟩)))
     . exact Or.inr (Or.inr (Or.inr (Or.inr (Or.inl ⟨h,F,fun b I=>(ay b (J b I)).2⟩))))
     . exact Or.inr (Or.inr (Or.inr (Or.inr (Or.inr h))))
theorem wi {u:Nat} {a:du}:∀ (d k:Nat),gM H u nl sz k a->(∀ n,e3 k a n=e3 (k+d) a n)/\gM H u nl sz (k+d) a
 | 0,k,h=>⟨fun _=>rfl,h⟩
 | d+1,k,h=>by
   obtain ⟨F,J⟩:=wi d k h;obtain ⟨U,aa⟩:=zD (k+d) a J;exact ⟨fun n=>(F n).trans (U n),aa⟩
section
variable {H:Cx} {C:List Ins} {y:Nat->Nat} {M:Nat->ey->Ins} {e:Nat->Nat->Nat} {sz a5:Nat} {E:kb} {L:p2} {u nl:Nat}
theorem sE {f:du->Fr->Sw->Rr (Bool × Fr)} {A:du->Nat->List ey}:∀ (l:List du),(∀ a ∈ l,ri H C b a2 sz a5 nl (f a) (A a))->ri H C b a2 sz a5 nl (g5 f l) (hT A l)
 | [],_=>fun n G gs D g k c s R X W Q=>⟨ez.ok Q.tl rfl,gr.same c s⟩
 | a :: r,h=>fun n G gs D g k c s R X W Q=>by
   unfold hT at W ⊢;obtain ⟨ah,ae⟩:=W.app;obtain ⟨F,J⟩:=h a (fI ..) n G gs D g k c s R X ah Q;have ay:=sE r (fun a3 a4=>h a3 (fh _ a4));unfold g5
   constructor
   . rw [eM]
     refine F.bind tT (fun d t p hd N=>?_);obtain ⟨U,aa⟩:=J d t hd;obtain ⟨aT,aU⟩:=d
     cases aT with
     | true=>exact (ez.ok N.lm rfl).mono (dY _)
     | false=>
       have:=(ay (n+(A a n).length) G gs D g k aU t p (U.trans X) ae (Q.next N (dA _))).1;rw [ie n] at this;exact this
   . refine gr.bind (fun d t hd=>?_)
     obtain ⟨U,aa⟩:=J d t hd;obtain ⟨aT,aU⟩:=d
     cases aT with
     | true=>exact gr.ok U (fun e=>by cases e)
     | false=>
       by_cases ax:hW H sz a5 (gs++[(D,g)]) G 24 t
       . obtain ⟨_,aB⟩:=ay (n+(A a n).length) G gs D g k aU t 0 (U.trans X) ae ax
         intro i t' z;obtain ⟨bj,ar⟩:=aB i t' z;exact ⟨bj.trans U,fun e=>(ar e).trans (aa rfl)⟩
       . exfalso
         obtain ⟨m,a1,a7⟩:=F;rw [hd] at a7;exact ax (Q.next a7.2 (dA _))
def sF (H:Cx) (C:List Ins) (y:Nat->Nat) (M:Nat->ey->Ins) (sz:Nat) (L:p2) (a5:Nat):Prop:=
 ∀ (u nl:Nat) (x:dB) (ac:List du),u<H.us.length->f8 H u nl sz 6 x->(∀ a ∈ ac,gM H u nl sz 6 a)->
   ri H C (y u) (M u) sz a5 nl (L u x ac) (fun n=>nX (dW 6 x n) (hT (e3 6) ac (n+(dW 6 x n).length+2)) n)
variable (aQ:sC H C y M e sz) (aG:qc H C y M sz E a5) (ai:sF H C y M sz L a5) (aL:u<H.us.length)
include aQ aG aL
theorem ES {O:List dB} {i:Nat} (V:i<O.length) (ap:∀ a3 ∈ O,f8 H u nl sz 6 a3) (X:c.loc.length=nl):rh H C (y u) (M u) sz a5 c.loc (dI E H u c.loc 6 (dq O i)) (dW 6 (dq O i)) 18:=by
 have:=ap (dq O i) (by rw [j7 _ _ V];exact eb _);subst X;exact tQ aQ aG aL 6 _ this
include ai
theorem tU:∀ (k:Nat) (a:du),k<=6->gM H u nl sz k a->ri H C (y u) (M u) sz a5 nl (eT E L H u k a) (e3 k a)
 | 0,a,_,h=>h.elim
 | k + 1, a,hk6,h=>by
   intro n G gs D g bn c s R X W Q;have a8:=Q.room;have a7:hW H sz a5 (gs++[(D,g)]) G 18 s:=Q.less N7;obtain ⟨ab,h⟩:=h
   have Z:=fun {i:Nat} (V:i<a.args.length)=>ES aQ aG aL V ab X
   rcases h with ⟨h,F,J⟩ | ⟨h,F,J,U⟩ | ⟨h,F⟩ | ⟨h,F,J,U⟩ | ⟨h,F,J⟩ | ⟨h,F⟩ | ⟨h,F⟩
   . have aJ:e3 (k+1) a n=vT (dW 6 (dq a.args 0) n) a.m a.at_:=by rw [e3,if_pos h]
     have aI:eT E L H u (k+1) a c s=(dI E H u c.loc 6 (dq a.args 0) s).bind fun v s=>if a.m = -1 then .ok (false,{ c with loc:=c.loc.set a.at_.toNat v }) s else .ok (false,c) { s with data:=s.data.set (e8 H u a.m a.at_).toNat v }:=by rw [eT,if_pos h]
     rw [aJ] at W ⊢;rw [aI];unfold vT at W ⊢;obtain ⟨ah,ae⟩:=W.app;have c3:=ae.cons.1;rw [eM]
     constructor
     . refine (Z N7 n G _ bn s R ah a7).bind (fun _ _ _=>rfl) (fun v t p _ N=>?_)
       rcases J with ⟨a1,bU,bd⟩ | ⟨a1,bd⟩
       . rw [if_pos a1] at c3
         rw [if_pos a1,if_pos a1];rw [aQ.hp] at c3;exact ez.step1 (Ev c3 bU (by rw [X];exact bd)) (g8.refl N.lm)
       . rw [if_neg a1] at c3
         rw [if_neg a1,if_neg a1];rw [aQ.hd u 5 a.m a.at_ 1 0 bd] at c3;obtain ⟨bF,bo⟩:=sD bd;exact ez.step1 (Ex c3 bF (by rw [N.dl,Q.dl];omega)) ⟨oG ..,rfl,dA _,N.lm⟩
     . refine gr.bind (fun v t _=>?_)
       split
       . exact gr.ok (oG ..) (fun _=>rfl)
       . exact gr.same c _
   . have aJ:e3 (k+1) a n=dW 6 (dq a.args 0) n++hu 3 a.m 6 a.at_ a.n :: (dW 6 (dq a.args 1) (n+(dW 6 (dq a.args 0) n).length+1)++[eL 8 0 0]):=by rw [e3,if_neg N7,if_pos h]
     have aI:eT E L H u (k+1) a c s=(hv (dI E H u c.loc 6 (dq a.args 0)) (e8 H u a.m a.at_) a.n s).bind fun p s=>(dI E H u c.loc 6 (dq a.args 1) s).bind fun v s=>.ok (false,c) { s with data:=s.data.set p.toNat v }:=by rw [eT,if_neg N7,if_pos h]
     rw [aJ,show ∀ (A:List ey) (x:ey) B,A++x :: B=(A++[x])++B by simp] at W;rw [aJ,aI];obtain ⟨ah,ae⟩:=W.app;rw [show n+(dW 6 (dq a.args 0) n++[hu 3 a.m 6 a.at_ a.n]).length=n+(dW 6 (dq a.args 0) n).length+1 by simp;omega] at ae;obtain ⟨c3,K⟩:=ae.app;have av:=K.cons.1;rw [aQ.hp] at av
     constructor
     . have b1:(dW 6 (dq a.args 0) n++hu 3 a.m 6 a.at_ a.n :: (dW 6 (dq a.args 1) (n+(dW 6 (dq a.args 0) n).length+1)++[eL 8 0 0])).length=(dW 6 (dq a.args 0) n).length+1+((dW 6 (dq a.args 1) (n+(dW 6 (dq a.args 0) n).length+1)).length+1):=by simp;omega
       rw [b1];refine (zy aQ aL (Z N7) U n G _ bn s R ah a7).bind (fun _ _ _=>rfl) (fun p t dF ar N=>?_)
       have aA:0<=p/\p<sz:=by
        obtain ⟨bF,bo⟩:=sD U;unfold hv at ar
        cases Y:dI E H u c.loc 6 (dq a.args 0) s with
        | stop e t'=>rw [Y] at ar;cases ar
        | ok i t'=>
          exact RA
       refine (Z N7 _ (G++[p]) _ bn t dF c3 (Q.next N (by simp only [eM,gY,pA];omega))).bind (fun _ _ _=>rfl) (fun v b7 ei _ o=>?_);have aW:C[y u+(n+(dW 6 (dq a.args 0) n).length+1+(dW 6 (dq a.args 1) (n+(dW 6 (dq a.args 0) n).length+1)).length)]? = some ⟨8,0,0⟩:=av;have S:=EB (mt:=H.lim) (G:=G) (gs:=gs++[(D,g)]) (lo:=c.loc) (bk:=bn) (s:=b7) (q:=ei) (v:=v) aW aA.1 (by rw [o.dl,N.dl,Q.dl];exact aA.2);refine ez.step1 ?_ ⟨oG ..,rfl,dA _,o.lm⟩;show _=Mx.Mc.Res.ok () (em (y u+(n+((dW 6 (dq a.args 0) n).length+1+((dW 6 (dq a.args 1) (n+(dW 6 (dq a.args 0) n).length+1)).length+1)))) G (gs++[(D,g)]) c.loc bn _ _);rw [show y u+(n+((dW 6 (dq a.args 0) n).length+1+((dW 6 (dq a.args 1) (n+(dW 6 (dq a.args 0) n).length+1)).length+1)))=y u+(n+(dW 6 (dq a.args 0) n).length+1+(dW 6 (dq a.args 1) (n+(dW 6 (dq a.args 0) n).length+1)).length)+1 by omega]
       exact S
     . exact S8
   . have aJ:e3 (k+1) a n=iL (dW 6) a.args n++[hu 2 a.m 13 a.at_ 0,eL 17 0 0]:=by rw [e3,if_neg N7,if_neg N7,if_pos h]
     have aI:eT E L H u (k+1) a c s=(kt E H u (dI E H u c.loc 6) a.m a.at_ a.args s).bind fun _ s=>.ok (false,c) s:=by rw [eT,if_neg N7,if_neg N7,if_pos h]
     rw [aJ,show [hu 2 a.m 13 a.at_ 0,eL 17 0 0]=[hu 2 a.m 13 a.at_ 0]++[eL 17 0 0] from rfl,← oE] at W;rw [aJ,aI];obtain ⟨ah,ae⟩:=W.app;have c3:=ae.cons.1;rw [aQ.hp] at c3
     constructor
     . have b1:(iL (dW 6) a.args n++[hu 2 a.m 13 a.at_ 0,eL 17 0 0]).length=(iL (dW 6) a.args n).length+1+1:=by simp
       rw [b1]
       have aO:∀ x ∈ a.args,rh H C (y u) (M u) sz a5 c.loc (dI E H u c.loc 6 x) (dW 6 x) 18:=fun x S=>by
        have:=ab x S;subst X;exact tQ aQ aG aL 6 x this
       refine (zz aQ aG aL aO F n G _ bn s R ah (Q.less N7)).bind (fun _ _ _=>rfl) (fun v t p _ N=>?_)
       have K:C[y u+(n+(iL (dW 6) a.args n).length+1)]? = some ⟨17,0,0⟩:=by rw [← c3];congr 1;simp;omega
       exact ez.step1 (EG K) (g8.refl N.lm)
     . exact gr.bind (fun _ _ _=>gr.same c _)
   . have aI:eT E L H u (k+1) a c s=(dI E H u c.loc 6 (dq a.args 0) s).bind fun v s=>if v=0 then g5 (eT E L H u k) a.other c s else g5 (eT E L H u k) a.body c s:=by rw [eT,if_neg N7,if_neg N7,if_neg N7,if_pos h]
     have aJ:e3 (k+1) a n=qX (dW 6 (dq a.args 0) n) (hT (e3 k) a.body (n+(dW 6 (dq a.args 0) n).length+1)) (hT (e3 k) a.other (n+(dW 6 (dq a.args 0) n).length+1+(hT (e3 k) a.body (n+(dW 6 (dq a.args 0) n).length+1)).length+1)) a.other.isEmpty n:=by rw [e3,if_neg N7,if_neg N7,if_neg N7,if_pos h]
     have aF:=sE a.body (fun x S=>tU k x N7 (J x S));have b6:=sE a.other (fun x S=>tU k x N7 (U x S));have bb:=Z (i:=0) N7 n G (gs++[(D,g)]) bn s R;rw [aJ] at W ⊢;rw [aI];generalize dW 6 (dq a.args 0) n=A at *;have f:=aF (n+A.length+1) G gs D g bn c;generalize hT (e3 k) a.body (n+A.length+1)=B at *;have j:=b6 (n+A.length+1+B.length+1) G gs D g bn c;generalize b:hT (e3 k) a.other (n+A.length+1+B.length+1)=O at *;unfold qX at W ⊢
     cases P:a.other.isEmpty with
     | true=>
       have q:a.other=[]:=by simpa using P
       rw [P] at W;simp only [if_true] at W ⊢;obtain ⟨ah,ae⟩:=W.app;obtain ⟨c3,K⟩:=ae.cons;rw [aQ.hj u aL] at c3;rw [show (A++eN 12 (n+A.length+1+B.length) :: B).length=A.length+(B.length+1) by simp]
       constructor
       . refine (bb ah a7).bind (fun _ _ _=>rfl) (fun v t p _ N=>?_)
         have b2:=sB (mt:=H.lim) (G:=G) (gs:=gs++[(D,g)]) (lo:=c.loc) (bk:=bn) (s:=t) (q:=p) (v:=v) _ c3;refine ez.step b2 ?_
         by_cases af:v=0
         . rw [if_pos af,if_pos af,q]
           refine (ez.ok N.lm ?_).mono (dY _);show _=em (y u+(n+(A.length+(B.length+1)))) _ _ _ _ _ _;rw [show y u+(n+(A.length+(B.length+1)))=y u+(n+A.length+1+B.length) by omega]
           rfl
         . rw [if_neg af,if_neg af]
           have:=(f t (p+1) X K (Q.next N (dA _))).1;rw [show n+A.length+1+B.length=n+(A.length+(B.length+1)) by omega] at this;exact this
       . refine gr.bind (fun v t af=>?_)
         obtain ⟨m,_,a1⟩:=bb ah a7;rw [af] at a1;split
         . rw [q];exact gr.same c t
         . exact (f t 0 X K (Q.next a1.2 (dA _))).2
     | false=>
       rw [P] at W;simp only [qA,if_false] at W ⊢;obtain ⟨ah,ae⟩:=W.app;obtain ⟨c3,K⟩:=ae.cons;obtain ⟨av,aW⟩:=K.app;obtain ⟨aq,c8⟩:=aW.cons;rw [aQ.hj u aL] at c3 aq;rw [show (A++eN 12 (n+A.length+1+B.length+1) :: (B++eN 11 (n+A.length+1+B.length+1+O.length) :: O)).length=A.length+(B.length+O.length+2) by simp;omega]
       constructor
       . refine (bb ah a7).bind (fun _ _ _=>rfl) (fun v t p _ N=>?_)
         have b2:=sB (mt:=H.lim) (G:=G) (gs:=gs++[(D,g)]) (lo:=c.loc) (bk:=bn) (s:=t) (q:=p) (v:=v) _ c3;refine (ez.step (b:=B.length+O.length+1) b2 ?_).mono N7
         by_cases af:v=0
         . rw [if_pos af,if_pos af]
           have:=(j t (p+1) X c8 (Q.next N (dA _))).1;rw [show n+A.length+1+B.length+1+O.length=n+(A.length+(B.length+O.length+2)) by omega] at this;exact this.mono N7
         . rw [if_neg af,if_neg af]
           have I:=f t (p+1) X av (Q.next N (dA _))
           have l:=I.1.bind (b':=1) (f:=fun d s=>.ok d s) (T':=tS (y u) G gs D g bn (n+(A.length+(B.length+O.length+2)))) tT (fun d b7 ei hd o=>by
            obtain ⟨aT,aU⟩:=d
            cases aT with
            | true=>exact (ez.ok o.lm rfl).mono (dY _)
            | false=>
              refine ez.step1 ?_ (g8.refl o.lm);have:=tP (mt:=H.lim) (G:=G) (gs:=gs++[(D,g)]) (lo:=aU.loc) (bk:=bn) (s:=b7) (q:=ei) _ aq;show _=Mx.Mc.Res.ok () (em (y u+(n+(A.length+(B.length+O.length+2)))) _ _ _ _ _ _);rw [show y u+(n+(A.length+(B.length+O.length+2)))=y u+(n+A.length+1+B.length+1+O.length) by omega]
              exact this)
           have e:(g5 (eT E L H u k) a.body c t).bind (fun d s=>.ok d s)=g5 (eT E L H u k) a.body c t:=by
            cases g5 (eT E L H u k) a.body c t<;>rfl
           rw [e] at l;exact l.mono N7
       . refine gr.bind (fun v t af=>?_)
         obtain ⟨m,_,a1⟩:=bb ah a7;rw [af] at a1;split
         . exact (j t 0 X c8 (Q.next a1.2 (dA _))).2
         . exact (f t 0 X av (Q.next a1.2 (dA _))).2
   . have aI:eT E L H u (k+1) a c s=L u (dq a.args 0) a.body c s:=by rw [eT,if_neg N7,if_neg N7,if_neg N7,if_neg N7,if_pos h]
     have bq:∀ x ∈ a.body,∀ n,e3 k x n=e3 6 x n:=fun x S n=>by
      have:=(wi (6 - k) k (J x S)).1 n;rwa [show k+(6 - k)=6 by omega] at this
     have aJ:e3 (k+1) a n=nX (dW 6 (dq a.args 0) n) (hT (e3 6) a.body (n+(dW 6 (dq a.args 0) n).length+2)) n:=by rw [e3,if_neg N7,if_neg N7,if_neg N7,if_neg N7,if_pos h,wg bq]
     have bj:∀ x ∈ a.body,gM H u nl sz 6 x:=fun x S=>by
      have:=(wi (6 - k) k (J x S)).2;rwa [show k+(6 - k)=6 by omega] at this
     rw [aJ] at W ⊢;rw [aI];exact ai u nl (dq a.args 0) a.body aL (ab _ O0) bj n G gs D g bn c s R X W Q
   . have aJ:e3 (k+1) a n=dW 6 (dq a.args 0) n++[eL 15 0 0]:=by rw [e3,if_neg N7,if_neg N7,if_neg N7,if_neg N7,if_neg N7,if_pos h]
     have aI:eT E L H u (k+1) a c s=(dI E H u c.loc 6 (dq a.args 0) s).bind fun v s=>.ok (true,{ c with ret:=v }) s:=by rw [eT,if_neg N7,if_neg N7,if_neg N7,if_neg N7,if_neg N7,if_pos h]
     rw [aJ] at W ⊢;rw [aI,eM];obtain ⟨ah,ae⟩:=W.app;have c3:=ae.cons.1;rw [aQ.hp] at c3
     constructor
     . refine (Z N7 n G _ bn s R ah a7).bind (fun _ _ _=>rfl) (fun v t p _ N=>?_)
       exact ez.step1 (zt c3) (g8.refl N.lm)
     . exact gr.bind (fun _ _ _=>gr.ok rfl (fun e=>by cases e))
   . have aJ:e3 (k+1) a n=dW 6 (dq a.args 0) n++[eL 19 0 0]:=by rw [e3,if_neg N7,if_neg N7,if_neg N7,if_neg N7,if_neg N7,if_neg N7,if_pos h]
     have aI:eT E L H u (k+1) a c s=(dI E H u c.loc 6 (dq a.args 0) s).bind fun v s=>(jO v s).bind fun _ s=>.ok (false,c) s:=by rw [eT,if_neg N7,if_neg N7,if_neg N7,if_neg N7,if_neg N7,if_neg N7,if_pos h]
     rw [aJ] at W ⊢;rw [aI,eM];obtain ⟨ah,ae⟩:=W.app;have c3:=ae.cons.1;rw [aQ.hp] at c3
     constructor
     . refine (Z N7 n G _ bn s R ah a7).bind (fun _ _ _=>rfl) (fun v t p _ N=>?_)
       have S:=EI (mt:=H.lim) (G:=G) (gs:=gs++[(D,g)]) (lo:=c.loc) (bk:=bn) (s:=t) (q:=p) (v:=v) c3
       cases ax:jO v t with
       | stop e b7=>
         rw [ax] at S;obtain ⟨rfl,a9,bB,bH⟩:=S;exact ez.halt bB bH (dA _)
       | ok w b7=>
         rw [ax] at S;obtain ⟨bd,bs,bI,bM⟩:=S;exact ez.step1 bM ⟨by rw [bd],bs,N7,by have:=N.lm;omega⟩
     . exact S8
end
theorem ez.deep {β:Type} {C:List Ins} {s:Sw} {r:Rr α} {T:α->Sw->Int->i2} {T':β->Sw->Int->i2} {g:α->β} (h:ez C q S b { s with calls:=s.calls+1 } r T) (H:∀ a t p,r = .ok a t->T' (g a) { t with calls:=t.calls - 1 } p=T a t p) :
 ez C q S b s (r.bind fun a t=>.ok (g a) { t with calls:=t.calls - 1 }) T':=by
 obtain ⟨m,a1,Q⟩:=h
 cases r with
 | stop e t=>exact ⟨m,a1,Q⟩
 | ok a t=>
   obtain ⟨F,N⟩:=Q;refine ⟨m,a1,?_,?_⟩
   . rw [F,H a t _ rfl]
   . have:=N.cl
     exact ⟨N.dl,by show t.calls - 1=s.calls;simp only at this;omega,N.tk,N.lm⟩
theorem i6.fit {C:List Ins} {n:Nat} {L:List ey} (h:i6 C b M n L) (X:0<L.length):b+n+L.length<=C.length:=by
 have:=h (L.length - 1) N7;obtain ⟨F,_⟩:=pu.1 this;omega
theorem ET {al:List Int} {a b:Int} (ab:0<=a) (F:0<=b) (af:(al.length:Int)=a):hh al (a+b)=al++List.replicate b.toNat 0:=by
 unfold hh;rw [show (a+b).toNat - al.length=b.toNat by omega]
section
variable {H:Cx} {C:List Ins} {y:Nat->Nat} {M:Nat->ey->Ins} {e:Nat->Nat->Nat} {sz a5:Nat} {r:Lv}
theorem zE (E:kb):qc H C y M sz E 0:=fun j p aH aE al G gs D g s R _ _ _ _ _ _ _ _ Q=>by
 have F:=Q.tl;have J:=Q.tn;omega
theorem zF (L:p2):sF H C y M sz L 0:=fun u nl x ac _ _ _ n G gs D g k c s R _ _ Q=>by
 have F:=Q.tl;have J:=Q.tn;omega
variable (aQ:sC H C y M e sz) (aG:qc H C y M sz r.ent a5) (ai:sF H C y M sz r.whl a5)
include aQ aG ai
theorem zG:qc H C y M sz (lq r H) (a5+1):=fun j p aH aE al G gs lo bk s q a2 W aA m aN aP c af Q=>by
 obtain ⟨ah,ae⟩:=i6.cons (x:=eL 14 p.params p.locals) W;obtain ⟨c3,K⟩:=ae.app;obtain ⟨av,aW⟩:=i6.cons (x:=eL 1 0 0) K;have aq:=(i6.cons (x:=eL 15 0 0) aW).1;rw [aQ.hp] at ah av aq;have bg:=W.fit (by unfold lp;simp);have b1:=aQ.len
 have bb:(lp p aH).length=(hT (e3 6) p.body (aH+1)).length+3:=by unfold lp;simp
 rw [bb] at bg;have aT:=Q.dl;have aU:=Q.cl;have bh:=Q.c24;have a3:=Q.st;have bp:=Q.tl;have bL:=Q.tn;rw [ET aA m af];unfold lq iM
 by_cases ax:s.ticks=H.lim
 . rw [if_pos ax]
   obtain ⟨a9,bB,bH⟩:=EJ (mt:=H.lim) (G:=G++al) (gs:=gs) (lo:=lo) (bk:=bk) (s:=s) (q:=q) c N7;exact ez.halt bB bH (dA _)
 rw [if_neg ax];show ez C H.lim _ 1 s (if s.calls=24 then .stop 4 { s with ticks:=s.ticks+1 } else yW r H j p.body _ { s with ticks:=s.ticks+1 }) _
 by_cases hd:s.calls=24
 . rw [if_pos hd]
   obtain ⟨a9,bB,bH⟩:=EK (mt:=H.lim) (G:=G++al) (gs:=gs) (lo:=lo) (bk:=bk) (s:=s) (q:=q) c N7 N7;exact ez.halt bB bH (by show s.ticks<=s.ticks+1;omega)
 rw [if_neg hd];refine ez.tick (s1:={ s with ticks:=s.ticks+1 }) (b':=0) (EL (mt:=H.lim) (G:=G++al) (gs:=gs) (lo:=lo) (bk:=bk) (s:=s) (q:=q) (y j+aH) c N7 N7) rfl ⟨rfl,rfl,by show s.ticks<=s.ticks+1;omega,P8⟩ ?_ (b:=(hT (e3 6) p.body (aH+1)).length+2+1) N7;refine ez.step (EM (mt:=H.lim) (G:=G) (gs:=gs++[(lo,bk)]) (lo:=[]) (bk:=((aE+1:Nat):Int)) (s:={ s with ticks:=s.ticks+1 }) (q:=q+1) ah aA m N7 af) ?_
 have aa:(al++List.replicate p.locals.toNat (0:Int)).length=(p.params+p.locals).toNat:=by rw [eM,List.length_replicate];omega
 have w:∀ a ∈ p.body,ri H C (y j) (M j) sz a5 (p.params+p.locals).toNat (eT r.ent r.whl H j 6 a) (e3 6 a):=fun a a7=>tU aQ aG ai a2 6 a (dA _) (aP a a7)
 have S:hW H sz a5 (gs++[(lo,bk)]) G 24 { s with ticks:=s.ticks+1,calls:=s.calls+1 }:=⟨aT,by rw [eM];show gs.length+1=s.calls+1;omega,by show s.calls+1<=24;omega,by show G.length+24+64*(24 - (s.calls+1))<=2000;omega,P8,by show H.lim+1<=s.ticks+1+a5;omega⟩
 obtain ⟨F,J⟩:=sE p.body w (aH+1) G gs lo bk (aE+1) ⟨al++List.replicate p.locals.toNat 0,0⟩ { s with ticks:=s.ticks+1,calls:=s.calls+1 } (q+1+1) aa c3 S;unfold yW;refine ez.deep (T:=fun d t q=>em (aE+1) (G++[d.2.ret]) gs lo bk t q) ?_ (fun a t p _=>rfl)
 have l:=F.bind (b':=2) (f:=fun d s=>.ok d s) (T':=fun d t q=>em (aE+1) (G++[d.2.ret]) gs lo bk t q) tT (fun d b7 ei V o=>by
  have b:=(J d b7 V).2;obtain ⟨aJ,aI⟩:=d
  cases aJ with
  | true=>exact (ez.ok o.lm rfl).mono (dY _)
  | false=>
    have b:aI.ret=0:=b rfl;refine ez.step (tO av N7) ?_;refine ez.step1 ?_ (g8.refl o.lm);rw [b]
    exact zt aq)
 have e:∀ r:Rr (Bool × Fr),r.bind (fun d s=>.ok d s)=r:=fun r=>by cases r<;>rfl
 rw [e] at l;exact l
theorem zH {E:kb} (l:qc H C y M sz E (a5+1)):sF H C y M sz (o0 r H E) (a5+1):=fun u nl x ac aL S I n G gs lo bk k c s q X W Q=>by
 obtain ⟨A,aO⟩:∃ A,A=dW 6 x n:=⟨_,rfl⟩
 obtain ⟨B,aF⟩:∃ B,B=hT (e3 6) ac (n+A.length+2):=⟨_,rfl⟩
 have O:=W;simp only [← aO,← aF] at W ⊢;have bg:=W.fit (by unfold nX;simp;omega);have b1:=aQ.len
 have j:(nX A B n).length=A.length+B.length+3:=by unfold nX;simp;omega
 rw [j] at bg ⊢;unfold nX at W;obtain ⟨ah,ae⟩:=W.app;obtain ⟨c3,K⟩:=ae.cons;obtain ⟨av,aW⟩:=K.cons;obtain ⟨aq,c8⟩:=aW.app;have aw:=c8.cons.1;rw [aQ.hj u aL] at c3 aw;rw [aQ.hp] at av
 have w:∀ a ∈ ac,ri H C (y u) (M u) sz a5 nl (eT r.ent r.whl H u 6 a) (e3 6 a):=fun a a7=>tU aQ aG ai aL 6 a (dA _) (I a a7)
 have bb:=tQ (P:=c.loc) aQ l aL 6 x (by rw [X];exact S) n G (gs++[(lo,bk)]) (k:Int) s q (by rw [← aO];exact ah) (Q.less N7);rw [← aO] at bb
 have ci:∀ t q,hW H sz (a5+1) (gs++[(lo,bk)]) G 24 t->t.ticks≠H.lim->_:=fun t q ax Z=>sE ac w (n+A.length+1+1) G gs lo bk k c { t with ticks:=t.ticks+1 } q X (by rw [aF] at aq;exact aq) ⟨ax.dl,ax.cl,ax.c24,ax.st,by show t.ticks+1<=H.lim;have:=ax.tl;omega,by show H.lim+1<=t.ticks+1+a5;have:=ax.tn;omega⟩
 have f:∀ (aU:Fr) t q,aU.loc.length=nl->hW H sz a5 (gs++[(lo,bk)]) G 24 t->_:=fun aU t q h ax=>ai u nl x ac aL S I n G gs lo bk k aU t q h O ax
 simp only [← aO,← aF,j] at ci f;unfold o0
 constructor
 . refine (bb.bind (fun _ _ _=>rfl) (b':=B.length+3) (fun v t p _ N=>?_)).mono N7
   have b2:=sB (mt:=H.lim) (G:=G) (gs:=gs++[(lo,bk)]) (lo:=c.loc) (bk:=(k:Int)) (s:=t) (q:=p) (v:=v) _ c3;have b:hW H sz (a5+1) (gs++[(lo,bk)]) G 24 t:=Q.next N (dA _);refine ez.step b2 (b:=B.length+2) ?_
   by_cases af:v=0
   . rw [if_pos af,if_pos af]
     refine (ez.ok N.lm ?_).mono (dY _);show _=em (y u+(n+(A.length+B.length+3))) _ _ _ _ _ _;rw [show y u+(n+(A.length+B.length+3))=y u+(n+A.length+2+B.length+1) by omega]
     rfl
   rw [if_neg af,if_neg af];unfold iM
   by_cases ax:t.ticks=H.lim
   . rw [if_pos ax]
     obtain ⟨a9,bB,bH⟩:=EF (mt:=H.lim) (G:=G) (gs:=gs++[(lo,bk)]) (lo:=c.loc) (bk:=(k:Int)) (s:=t) (q:=p+1) av N7;exact (ez.halt bB bH (dA _)).mono N7
   rw [if_neg ax];have g:=EE (mt:=H.lim) (G:=G) (gs:=gs++[(lo,bk)]) (lo:=c.loc) (bk:=(k:Int)) (s:=t) (q:=p+1) av N7;obtain ⟨bt,bv⟩:=ci t (p+1+1) b ax;refine ez.tick (s1:={ t with ticks:=t.ticks+1 }) g rfl ⟨rfl,rfl,by show t.ticks<=t.ticks+1;omega,by show t.ticks+1<=H.lim;have:=N.lm;omega⟩ ?_ (b:=B.length+(1+(A.length+B.length+3))) (b':=B.length+1) N7;refine bt.bind tT (fun d b7 ei hd o=>?_);obtain ⟨aJ,aI⟩:=d;obtain ⟨bz,bO⟩:=bv _ _ hd
   cases aJ with
   | true=>exact (ez.ok o.lm rfl).mono (dY _)
   | false=>
     have D:hW H sz a5 (gs++[(lo,bk)]) G 24 b7:=⟨o.dl.trans b.dl,b.cl.trans o.cl.symm,by rw [o.cl];exact b.c24,by rw [o.cl];exact b.st,o.lm,by have F:=o.tk;have J:=b.tn;simp only at F;omega⟩
     have a2:=tP (mt:=H.lim) (G:=G) (gs:=gs++[(lo,bk)]) (lo:=aI.loc) (bk:=(k:Int)) (s:=b7) (q:=ei) _ aw;refine (ez.step a2 (f aI b7 (ei+1) (bz.trans X) D).1).mono N7
 . refine gr.bind (fun v t af=>?_)
   obtain ⟨m,_,a1⟩:=bb;rw [af] at a1;have b:hW H sz (a5+1) (gs++[(lo,bk)]) G 24 t:=Q.next a1.2 (dA _);split
   . exact gr.same c t
   unfold iM
   by_cases ax:t.ticks=H.lim
   . rw [if_pos ax]
     exact fun d t' h=>P3
   rw [if_neg ax];obtain ⟨bt,bv⟩:=ci t 0 b ax;refine gr.bind (r:=.ok () { t with ticks:=t.ticks+1 }) (fun _ b8 F=>?_)
   injection F with _ F
   subst F;refine gr.bind (fun d b7 hd=>?_);obtain ⟨bz,bO⟩:=bv d b7 hd;obtain ⟨bH,_,aZ⟩:=bt;rw [hd] at aZ;obtain ⟨aJ,aI⟩:=d
   cases aJ with
   | true=>exact gr.ok bz (fun e=>by cases e)
   | false=>
     have o:=aZ.2
     have D:hW H sz a5 (gs++[(lo,bk)]) G 24 b7:=⟨o.dl.trans b.dl,b.cl.trans o.cl.symm,by rw [o.cl];exact b.c24,by rw [o.cl];exact b.st,o.lm,by have F:=o.tk;have J:=b.tn;simp only at F;omega⟩
     have aB:=(f aI b7 0 (bz.trans X) D).2;intro i t' z;obtain ⟨bj,ar⟩:=aB i t' z;exact ⟨bj.trans bz,fun e=>(ar e).trans (bO rfl)⟩
end
theorem zI {C:List Ins} {y:Nat->Nat} {M:Nat->ey->Ins} {e:Nat->Nat->Nat} (aQ:sC H C y M e sz):∀ t,qc H C y M sz (lv H t).ent (t+1)/\sF H C y M sz (lv H t).whl (t+1)
 | 0=>by
   have h:=zG (r:=p3) aQ (zE _) (zF _);exact ⟨h,zH (r:=p3) aQ (zE _) (zF _) h⟩
 | t+1=>by
   obtain ⟨F,J⟩:=zI aQ t;have h:=zG (r:=lv H t) aQ F J;exact ⟨h,zH (r:=lv H t) aQ F J h⟩
end Go.Proofs.YtndkhgakfodldaaGreatDoor

namespace Go.Proofs.YtndkhgakfodldaaGreatDoor
open Go.RowKit Go.Shelf
variable {o:dP} {w:World} {a4 a5 ax aG:OA}
abbrev zC:Obj:=iP ⟨#[]⟩ none 0 0 0 none 0 0 none 0 0 none 0 0 0
abbrev zV:Value:=.agg #[.string ⟨#[]⟩,dt,di 0,dt,dt,dt,di 0]
structure sG (w:World) (lo:Nat) (o:dP) (x1:OA) (x3:OA) (x4:OA) (x5:OA):Prop where
 wn:o.name.size<=maxLen
 uses:dx w (lo<=·) x1 o.uses.length (eH o.uses)
 wd:(Lit.int .i64 o.data).wf=true
 code:dx w (lo<=·) x3 o.code.length (lV o.code)
 fixes:dx w (lo<=·) x4 o.fixes.length (o8 o.fixes)
 entries:dx w (lo<=·) x5 o.entries.length (fs o.entries)
 wm:(Lit.int .i64 o.main).wf=true
theorem sG.moves {G:World} {lo lo':Nat} (h:sG w lo o a4 a5 ax aG) (m:dU w (lo<=·) G (lo'<=·)):sG G lo' o a4 a5 ax aG:=
 ⟨h.wn,h.uses.moves m,h.wd,h.code.moves m,h.fixes.moves m,h.entries.moves m,h.wm⟩
theorem sG.ov {lo:Nat} (h:sG w lo o a4 a5 ax aG):i1 w o a4 a5 ax aG:=
 have m:dU w (lo<=·) w dQ:=⟨dA _,fun b I _=>⟨trivial,rfl⟩⟩
 ⟨h.wn,h.uses.moves m,h.wd,h.code.moves m,h.fixes.moves m,h.entries.moves m,h.wm⟩
end Go.Proofs.YtndkhgakfodldaaGreatDoor

namespace Go.Proofs.YtndkhgakfodldaaGreatDoor
open Go.RowKit Go.Maps Go.WideMaps
end Go.Proofs.YtndkhgakfodldaaGreatDoor

namespace Go.Proofs.YtndkhgakfodldaaGreatDoor
variable {c:Ck} {H:Cx} {nl sz:Nat}
theorem zJ {u:Nat} (Z:∀ m a n,numB c m a n=true->ji H u sz m a n) (aA:∀ m a (k:Nat),f6 c m a k=true->kW H u k m a) (X:c.locals=nl):∀ (k:Nat) (l:List dB),fO c k l=true->∀ x ∈ l,f8 H u nl sz k x
 | 0,l,h,x,S=>by
   have:l.length=0:=of_decide_eq_true h;rw [hF this] at S;cases S
 | k + 1,l,h,x,S=>by
   unfold fO at h;have F:=e1.1 h x S;rw [dO] at F;have ay:=zJ Z aA X k x.args F.2;have a7:=F.1;unfold eC at a7;unfold f8
   by_cases V:x.op=3
   . rw [if_pos V] at a7
     simp only [dO] at a7;exact Or.inr (Or.inr (Or.inr (Or.inl ⟨V,Z _ _ _ a7.2.2⟩)))
   rw [if_neg V] at a7
   by_cases au:x.op=4
   . rw [if_pos au] at a7
     unfold kL at a7;simp only [dO,decide_eq_true_eq] at a7;exact Or.inr (Or.inr (Or.inr (Or.inr (Or.inl ⟨au,a7.2.1.1,Z _ _ _ a7.2.2,a7.1,ay⟩))))
   rw [if_neg au] at a7
   by_cases i:x.op=5
   . rw [if_pos i] at a7
     simp only [dO] at a7;exact Or.inr (Or.inr (Or.inr (Or.inr (Or.inr (Or.inl ⟨i,aA _ _ _ a7.2,ay⟩)))))
   rw [if_neg i] at a7
   by_cases j:x.op=16
   . rw [if_pos j] at a7
     unfold kq at a7;simp only [dO,decide_eq_true_eq] at a7;exact Or.inr (Or.inr (Or.inl ⟨j,a7.2.2.2.1,by rw [← X];exact a7.2.2.2.2⟩))
   rw [if_neg j] at a7
   by_cases bE:x.op=1
   . exact Or.inl bE
   rw [if_neg bE] at a7;unfold kM at a7;simp only [dO,decide_eq_true_eq] at a7;have J:=a7.1
   split at J
   . rename_i U;exact Or.inr (Or.inl U)
   . split at J
     . rename_i U;exact Or.inr (Or.inr (Or.inr (Or.inr (Or.inr (Or.inr (Or.inl ⟨U,N7,ay⟩))))))
     . split at J
       . rename_i U;exact Or.inr (Or.inr (Or.inr (Or.inr (Or.inr (Or.inr (Or.inr ⟨U.1,U.2,N7,ay⟩))))))
       . omega
theorem sH {u:Nat} (Z:∀ m a n,numB c m a n=true->ji H u sz m a n) (aA:∀ m a (k:Nat),f6 c m a k=true->kW H u k m a) (X:c.locals=nl):∀ (k:Nat) (l:List du),fb c k l=true->∀ x ∈ l,gM H u nl sz k x
 | 0,l,h,x,S=>P3
 | k + 1,l,h,a,S=>by
   unfold fb at h;rw [dO] at h;have F:=e1.1 h.2 a S;simp only [dO] at F;obtain ⟨a7,p,E⟩:=F;unfold gM;refine ⟨zJ Z aA X 6 a.args p,?_⟩;unfold eF at a7
   by_cases bE:a.op=1
   . rw [if_pos bE] at a7
     simp only [dO,decide_eq_true_eq] at a7;refine Or.inl ⟨bE,a7.1,?_⟩;have J:=a7.2.2
     split at J
     . rename_i a1
       unfold kq at J;have:=of_decide_eq_true J;exact Or.inl ⟨a1,this.1,by rw [← X];exact this.2⟩
     . rename_i a1
       exact Or.inr ⟨a1,Z _ _ _ J⟩
   rw [if_neg bE] at a7
   by_cases ab:a.op=2
   . rw [if_pos ab] at a7
     unfold kL at a7;simp only [dO,decide_eq_true_eq] at a7;exact Or.inr (Or.inl ⟨ab,a7.1,a7.2.1.1,Z _ _ _ a7.2.2⟩)
   rw [if_neg ab] at a7
   by_cases V:a.op=3
   . rw [if_pos V] at a7
     simp only [dO] at a7;exact Or.inr (Or.inr (Or.inl ⟨V,aA _ _ _ a7.2⟩))
   rw [if_neg V] at a7
   split at a7
   . rename_i b
     simp only [dO,decide_eq_true_eq] at a7
     by_cases au:a.op=4
     . rw [if_pos au,dO] at E
       exact Or.inr (Or.inr (Or.inr (Or.inl ⟨au,a7.1,sH Z aA X k a.body E.1,sH Z aA X k a.other E.2⟩)))
     rw [if_neg au] at E
     by_cases i:a.op=5
     . rw [if_pos i,dO] at E
       exact Or.inr (Or.inr (Or.inr (Or.inr (Or.inl ⟨i,a7.1,sH Z aA X k a.body E.1⟩))))
     by_cases t:a.op=6
     . exact Or.inr (Or.inr (Or.inr (Or.inr (Or.inr (Or.inl ⟨t,a7.1⟩)))))
     . exact Or.inr (Or.inr (Or.inr (Or.inr (Or.inr (Or.inr ⟨N7,a7.1⟩)))))
   . cases a7
end Go.Proofs.YtndkhgakfodldaaGreatDoor

namespace Go.Proofs.YtndkhgakfodldaaGreatDoor
open Go.RowKit Go.Shelf
variable {B D A r b y i j k a9 au k3 nl sz:Nat} {K:Wk} {R:Ending->World->Prop} {X:Nat->Prop} {E a0 a6:OA} {O l:List dB} {g e m nn T ret v:Int} {ac Z:List du} {H:Cx} {P al:List Int} {ch:Obj} {rep:Bool × Fr->Value} {s' U t t':Sw} {av q I:Value} {w G w0 wr:World} {x:dB} {α β:Type}
abbrev dT (H:Cx) (n:Nat):kb:=(jx H n).ent
theorem iO (H:Cx) (n u:Nat) (P:List Int) (k:Nat) (x:dB):hV (dI (dT H n) H u P k x):=vX (o7 H.lim H.lim) (p4 H n).ent H H.lim u P k x
structure Ca where
 C:Nat
 u:Nat
 lv:Value
 L:Nat
structure el (n:Nat) (w:World) (B base:Nat) (cx:Cx) (K:Wk) (vo:Value) (s:Sw) (c:Ca) (loc:List Int) (ret:Int):Prop where
 wd:e7 w B base cx K vo s 0
 cl:Cl w B c.C c.u c.lv ret
 lo:Lo w c.lv c.L loc
 cS:K.S<=c.C
 cO:vo.ownBlock≠some c.C
 lS:K.S<=c.L
 lz:c.L<w.heap.size
 la:loc=[]\/(c.L≠c.C/\vo.ownBlock≠some c.L)
 fu:cx.lim+1<=s.ticks+n
theorem Lo.moves {lv:Value} {L:Nat} (h:Lo w lv L P) (N:P=[]\/G.heap[L]? = w.heap[L]?):Lo G lv L P:=by
 rcases h with h | ⟨F,J⟩
 . exact Or.inl h
 . rcases N with rfl | N
   . exact Or.inl ⟨rfl,_,F⟩
   . exact Or.inr ⟨F,N.trans J⟩
theorem Lo.len {lv:Value} {L:Nat} (h:Lo w lv L P):∃ a,lv = .slice a P.length P.length:=by
 rcases h with ⟨rfl,a,h⟩ | ⟨F,J⟩
 . exact ⟨a,h⟩
 . exact ⟨_,F⟩
theorem el.ne {n:Nat} {s:Sw} {c:Ca} (h:el n w B y H K av s c P ret):c.C≠B/\c.C≠K.D/\y<=c.C/\B<w.heap.size/\K.D<w.heap.size:=by
 have F:=h.cS;have J:=h.wd.ro.BS;have U:=h.wd.ro.DS;have aa:=h.wd.ro.lB;have aB:=h.wd.ro.zS;omega
theorem Lo.lt {lv:Value} {L:Nat} (h:Lo w lv L P):P=[]\/L<w.heap.size:=by
 rcases h with ⟨h,_⟩ | ⟨_,J⟩
 . exact Or.inl h
 . exact Or.inr (lt_of_heap J)
theorem el.on {n:Nat} {s:Sw} {c:Ca} (h:el n w B y H K av s c P ret) (Y:dR B K.D av q w G) (aj:e7 G B y H K q s' 0) (ax:s.ticks<=s'.ticks):el n G B y H K q s' c P ret:=by
 have Z:=h.ne;have C:=h.fu;obtain ⟨a9,au⟩:=Y.keep h.cl Z.1 Z.2.1 h.cO;have F:=h.lS;refine ⟨aj,a9,h.lo.moves ?_,h.cS,au,F,e4 h.lz Y.size,?_,N7⟩
 . rcases h.la with e | ⟨J,U⟩
   . exact Or.inl e
   . rcases h.lo.lt with e | X
     . exact Or.inl e
     . have:=h.wd.ro.BS
       have:=h.wd.ro.DS;exact Or.inr (Y.block _ X N7 N7 U)
 . rcases h.la with e | ⟨J,U⟩
   . exact Or.inl e
   . rcases h.lo.lt with e | X
     . exact Or.inl e
     . exact Or.inr ⟨J,fun e=>U (Y.own _ e X)⟩
theorem el.below {n:Nat} {s:Sw} {c:Ca} (h:el n w B y H K av s c P ret) (I:dm w G):el n G B y H K av s c P ret:=h.on (dR.below I) (h.wd.below I) (dA _)
theorem el.step {rep:α->Value} {n:Nat} {s:Sw} {c:Ca} {l:Sw->Rr α} {e:Ending} (h:el n w B y H K av s c P ret) (N:hV l) (Q:Sr rep B y H K w av (l s) e G) :
 (∃ k s' q,l s = .stop k s'/\e = .panicked (qU k)/\dR B K.D av q w G/\e7 G B y H K q s' k)\/(∃ a s' q,l s = .ok a s'/\e = .returned (rep a)/\dR B K.D av q w G/\el n G B y H K q s' c P ret):=by
 obtain ⟨q,Y,⟨a,s',Q,ar,aj⟩ | ⟨k,s',Q,ar,aj⟩⟩:=Q
 . refine Or.inr ⟨a,s',q,Q,ar,Y,h.on Y aj ?_⟩
   have:=(N s).2.2.2;exact SI
 . exact Or.inl ⟨k,s',q,Q,ar,Y,aj⟩
theorem Sr.ok {rep:α->Value} {r:Rr α} {a:α} {s:Sw} (Y:dR B K.D av q w G) (Q:r = .ok a s) (aj:e7 G B y H K q s 0):Sr rep B y H K w av r (.returned (rep a)) G:=⟨q,Y,Or.inl ⟨a,s,Q,rfl,aj⟩⟩
theorem Sr.no {rep:α->Value} {r:Rr α} {k:Int} {s:Sw} (Y:dR B K.D av q w G) (Q:r = .stop k s) (aj:e7 G B y H K q s k):Sr rep B y H K w av r (.panicked (qU k)) G:=⟨q,Y,Or.inr ⟨k,s,Q,rfl,aj⟩⟩
abbrev tV (x:dB) (a:OA) (k:Nat):Array Value:=#[di x.op,di x.n,di x.m,di x.at_,.slice a x.args.length k]
def hX (n B y:Nat) (H:Cx) (K:Wk) (k:Nat) (x:dB):Prop:=∀ (c:Ca) (P:List Int) (ret:Int) (av:Value) (s:Sw) (E:OA) (a9:Nat) (w:World),el n w B y H K av s c P ret->dx w (·<y) E x.args.length (es x.args)->f8 H c.u P.length K.cd k x->
 dw 262 #[dF c.C 0,.agg (tV x E a9)] w fun e G=>Sr fB B y H K w av (dI (dT H n) H c.u P k x s) e G
theorem dx.fm {a:OA} {m:Nat} {l:List Go.Proofs.YtndkhgakfodldaaGreatDoor.D} (h:dx w (·<y) a m l) (Y:dR B A av q w G) (F:y<=B) (J:y<=A) (U:∀ k,av.ownBlock=some k->y<=k):dx G (·<y) a m l:=
 h.moves ⟨Y.size,fun b I X=>⟨X,Y.block b I N7 N7 (fun e=>by have:=U b e;omega)⟩⟩
theorem el.dat {n:Nat} {s:Sw} {c:Ca} {a:OA} {m:Nat} {l:List Go.Proofs.YtndkhgakfodldaaGreatDoor.D} (h:el n w B y H K av s c P ret) (Y:dR B K.D av q w G) (hd:dx w (·<y) a m l):dx G (·<y) a m l:=
 hd.fm Y h.wd.ro.lB h.wd.ro.lD (fun k e=>by have:=(h.wd.out.lt k e).1;have:=h.wd.ro.BS;have:=h.wd.ro.lB;omega)
theorem ji.plc {u:Nat} {n:Int} (h:ji H u sz m g n):0<=e8 H u m g/\e8 H u m g+n<=sz:=by
 obtain ⟨a1,a7,F,J,U,aa,aB⟩:=h
 have e:e8 H u m g=H.beg[H.near[u][m.toNat]]+g:=by
  unfold e8 fT;rw [fV,fV,fV,ew F,gE,ew J,gE,ew U,gE]
 rw [e];omega
theorem wj {C u:Nat} {lv:Value} {n:Int} {s:Sw} (h:e7 w B y H K av s 0) (bj:Cl w B C u lv ret) (aA:ji H u K.cd m g n) (Z:0<=n) :
 dw 289 #[dF C 0,di m,di g] w fun e G=>e = .returned (di (e8 H u m g))/\∃ R,G=w.drewN R:=by
 have b3:=aA.plc;have F:=h.cd;have J:=h.dl;obtain ⟨a1,a7,a9,au,k3,aH,k5⟩:=aA;exact EQ B y H K av s C u lv ret m g w h bj a9 a1 au k3 N7
def n8 (b:Bool):Value:=.bool b
def im (l:Sw->Rr Int) (s:Sw):Rr Bool:=(l s).bind fun v s=>.ok (v != 0) s
theorem qd {l:Sw->Rr Int} (h:hV l):hV (im l):=yY h (fun _ s=>he.refl s)
theorem EU {l:Sw->Rr Int} {s:Sw} {k:Int} (h:l s = .stop k s'):im l s = .stop k s':=by unfold im;rw [h];rfl
theorem EV {l:Sw->Rr Int} {s:Sw} (h:l s = .ok v s'):im l s = .ok (v != 0) s':=by unfold im;rw [h];rfl
theorem qe {n:Nat} {c:Ca} {s:Sw} (bb:hX n B y H K k x) (h:el n w B y H K av s c P ret) (an:dx w (·<y) E x.args.length (es x.args)) (aw:f8 H c.u P.length K.cd k x) :
 dw 264 #[dF c.C 0,.agg (tV x E a9)] w fun e G=>Sr n8 B y H K w av (im (dI (dT H n) H c.u P k x) s) e G:=by
 have ao:=hid (fun M (ai:dm w M)=>h.below ai);have bh:=hid (fun M (ai:dm w M)=>bb c P ret av s E a9 M (h.below ai) (an.later ai) aw);clear h bb an aw;go_enter func264,ntmps264;go_wp2_with fail;refine (bh _ (dn w _)).mono ?_;intro e dk aE
 rcases (ao _ (dn w _)).step (iO _ _ _ _ _ _) aE with ⟨bn,s',q,Q,rfl,Y,aj⟩ | ⟨v,s',q,Q,rfl,Y,aj⟩
 . exact ⟨rfl,Sr.no ((dR.below (dn w _)).trans Y) (EU Q) aj⟩
 . have aP:=hid (Sr.ok (rep:=n8) ((dR.below (dn w _)).trans Y) (EV Q) aj.wd)
   clear Q Y aj aE;unfold fB;exact QQ
theorem zK {n:Nat} {c:Ca} {s:Sw} {sz:Int} (bb:hX n B y H K k x) (h:el n w B y H K av s c P ret) (an:dx w (·<y) E x.args.length (es x.args)) (aw:f8 H c.u P.length K.cd k x) (b2:1<=sz) (aA:ji H c.u K.cd m g sz) :
 dw 261 #[dF c.C 0,di sz,di m,di g,.agg (tV x E a9)] w fun e G=>Sr fB B y H K w av (hv (dI (dT H n) H c.u P k x) (e8 H c.u m g) sz s) e G:=by
 have ao:=hid (fun M (ai:dm w M)=>h.below ai);have bh:=hid (fun M (ai:dm w M)=>bb c P ret av s E a9 M (h.below ai) (an.later ai) aw);have A:=hid aA;have b3:=aA.plc;have F:=h.wd.cd;have J:=h.wd.dl
 have aL:K.cd<=512:=N7
 clear h bb an aw F J aA;go_enter func261,ntmps261;go_wp2_with fail;refine (bh _ (dn w _)).mono ?_;intro e dk aE
 rcases (ao _ (dn w _)).step (iO _ _ _ _ _ _) aE with ⟨bn,s',q,Q,rfl,Y,aj⟩ | ⟨v,s',q,Q,rfl,Y,aj⟩
 . exact ⟨rfl,Sr.no ((dR.below (dn w _)).trans Y) (by unfold hv;rw [Q];rfl) aj⟩
 . have aD:=hid ((dR.below (dn w _)).trans Y)
   have aS:=hid aj;have z:=hid Q;have bP:=aj.cl;obtain ⟨bF,bo,ei,e2,bw,bV⟩:=il bP;clear Q Y aj aE bP;unfold fB
   by_cases af:v<0
   . have aQ:=hid (stop_any B y H K q s' 2 dk aS.wd)
     go_wp2_with fail;refine aQ.mono ?_;rintro e w2 ⟨rfl,ak,aj⟩;exact ⟨rfl,Sr.no (aD.trans (dR.grown ak)) (by unfold hv;rw [z.out];exact if_pos (Or.inl af)) aj⟩
   . by_cases f:sz<=v
     . have aQ:=hid (stop_any B y H K q s' 2 dk aS.wd)
       go_wp2_with fail;refine aQ.mono ?_;rintro e w2 ⟨rfl,ak,aj⟩;exact ⟨rfl,Sr.no (aD.trans (dR.grown ak)) (by unfold hv;rw [z.out];exact if_pos (Or.inr f)) aj⟩
     . have aQ:=hid (wj aS.wd aS.cl A N7)
       have aR:Hid (hv (dI (dT H n) H c.u P k x) (e8 H c.u m g) sz s = .ok (e8 H c.u m g+v) s'):=by show _=_;unfold hv;rw [z.out];exact if_neg N7
       have c7:wrap64 (e8 H c.u m g+v)=e8 H c.u m g+v:=OO
       go_wp2_with fail;refine aQ.mono ?_;rintro e w2 ⟨rfl,R,rfl⟩;have ag:=hid (fQ dk R);go_wp2_with fail
       go_returns
       exact Sr.ok (rep:=fB) (aD.trans (dR.below ag)) aR (aS.below ag).wd
theorem e7.cell {s:Sw} (h:e7 w B y H K av s e) (i:Nat) (V:i<s.data.length):w.cell? (dj K.D i)=some (di (s.data.getD i 0)):=by
 rw [eZ h.data,uP];simp [intV,V]
theorem Lo.cell {lv:Value} {L:Nat} (h:Lo w lv L P) (i:Nat) (V:i<P.length):lv = .slice (some (dj L 0)) P.length P.length/\L<w.heap.size/\w.cell? (dj L i)=some (di (P.getD i 0)):=by
 rcases h with ⟨rfl,_⟩ | ⟨F,J⟩
 . simp at V
 . refine ⟨F,lt_of_heap J,?_⟩
   rw [eZ J,uP];simp [intV,V]
theorem e7.top {s:Sw} (h:e7 w B y H K av s e):w.cell? (dj B 3)=some (.slice (some (dj K.D 0)) K.cd K.cd)/\B<w.heap.size/\K.D<w.heap.size:=by
 obtain ⟨bD,p,I, -, -⟩:=h.blk;obtain ⟨aH,az,aK,aW, -⟩:=jt I;refine ⟨?_,lt_of_heap I,lt_of_heap h.data⟩;rw [aW,h.cd]
theorem EW {n:Nat} {c:Ca} {s:Sw} (h:el n w B y H K av s c P ret) :
 dw 262 #[dF c.C 0,.agg #[di 1,di nn,di m,di g,.slice E O.length a9]] w fun e G=>Sr fB B y H K w av (dI (dT H n) H c.u P (k+1) ⟨1,nn,m,g,O⟩ s) e G:=by
 have aP:=hid (fun M (ai:dm w M)=>Sr.ok (rep:=fB) (dR.below ai) (show dI (dT H n) H c.u P (k+1) ⟨1,nn,m,g,O⟩ s = .ok nn s from rfl) (h.wd.below ai));clear h;go_enter func262,ntmps262;go_wp2_with fail
 go_returns
 exact aP _ (dn w _)
theorem EX {n:Nat} {c:Ca} {s:Sw} (h:el n w B y H K av s c P ret) :
 dw 262 #[dF c.C 0,.agg #[di 2,di nn,di m,di g,.slice E O.length a9]] w fun e G=>Sr fB B y H K w av (dI (dT H n) H c.u P (k+1) ⟨2,nn,m,g,O⟩ s) e G:=by
 obtain ⟨bF,bo,ei,e2,bw,bV⟩:=il h.cl;have ao:=hid (fun M (ai:dm w M)=>h.below ai);have bh:=hid (fun M (ai:dm w M)=>next_any B y H K av s M (h.wd.below ai));clear h;go_enter func262,ntmps262;go_wp2_with fail;refine (bh _ (dn w _)).mono ?_;intro e dk aE
 rcases (ao _ (dn w _)).step y0 aE with ⟨bn,s',q,Q,rfl,Y,aj⟩ | ⟨v,s',q,Q,rfl,Y,aj⟩
 . exact ⟨rfl,Sr.no ((dR.below (dn w _)).trans Y) Q aj⟩
 . have aP:=hid (Sr.ok (rep:=fB) ((dR.below (dn w _)).trans Y) (show dI (dT H n) H c.u P (k+1) ⟨2,nn,m,g,O⟩ s = .ok v s' from Q) aj.wd)
   clear Q Y aj aE;exact QQ
theorem EY {n:Nat} {c:Ca} {s:Sw} (h:el n w B y H K av s c P ret) (ab:0<=g) (F:g<P.length) :
 dw 262 #[dF c.C 0,.agg #[di 16,di nn,di m,di g,.slice E O.length a9]] w fun e G=>Sr fB B y H K w av (dI (dT H n) H c.u P (k+1) ⟨16,nn,m,g,O⟩ s) e G:=by
 obtain ⟨i,rfl⟩:∃ i:Nat,g=i:=⟨g.toNat,N7⟩
 have V:i<P.length:=N7
 obtain ⟨a,aQ,bP⟩:=h.lo.cell i V;have bj:=h.cl;rw [a] at bj;obtain ⟨bF,bo,ei,e2,bw,bV⟩:=il bj;have aP:=hid (fun M (ai:dm w M)=>Sr.ok (rep:=fB) (dR.below ai) (show dI (dT H n) H c.u P (k+1) ⟨16,nn,m,(i:Int),O⟩ s = .ok (P.getD (Int.toNat i) 0) s from rfl) (h.wd.below ai));rw [ir] at aP;generalize P.getD i 0=v at *;generalize P.length=ln at *;clear h bj a ab F;go_enter func262,ntmps262;go_wp2_with fail
 go_quiet ((fail))
 go_wp2_with fail
 go_returns
 exact aP _ (tv (dn w _) _)
theorem EZ {n:Nat} {c:Ca} {s:Sw} (h:el n w B y H K av s c P ret) (aA:ji H c.u K.cd m g 1) :
 dw 262 #[dF c.C 0,.agg #[di 3,di nn,di m,di g,.slice E O.length a9]] w fun e G=>Sr fB B y H K w av (dI (dT H n) H c.u P (k+1) ⟨3,nn,m,g,O⟩ s) e G:=by
 have b3:=aA.plc;have a7:=h.wd.cd;have bZ:=h.wd.dl;obtain ⟨bF,bo,ei,e2,bw,bV⟩:=il h.cl;obtain ⟨aW,b5,dz⟩:=h.wd.top;have aP:=hid (fun M (ai:dm w M)=>Sr.ok (rep:=fB) (dR.below ai) (show dI (dT H n) H c.u P (k+1) ⟨3,nn,m,g,O⟩ s = .ok (s.data.getD (e8 H c.u m g).toNat 0) s from rfl) (h.wd.below ai));have A:=hid (fun M (ai:dm w M)=>wj (h.wd.below ai) (h.below ai).cl aA N7);have bP:=h.wd.cell (e8 H c.u m g).toNat N7;generalize e8 H c.u m g=p at *
 obtain ⟨i,rfl⟩:∃ i:Nat,p=i:=⟨p.toNat,N7⟩
 rw [ir] at aP bP
 have V:i<K.cd:=N7
 generalize s.data.getD i 0=v at *;generalize K.cd=aH at *;clear h aA b3 bZ a7;go_enter func262,ntmps262;go_wp2_with fail
 go_quiet ((go_at_call 289;exact Calls.quiet_of (A _ (tv (dn w _) _))))
 go_wp2_with fail
 go_returns
 exact aP _ (tv (dn w _) _)
theorem qg (b:Bool) (w:World) :
 dw 227 #[.bool b] w fun d G=>d = .returned (di (gj b))/\G=w:=by
 cases b
 all_goals
  go_enter func227,ntmps227;exact RJ
def reckV:Option Int->Value
 | some n=>.tuple #[.int .i64 n,.bool true]
 | none=>.tuple #[.int .i64 0,.bool false]
def part (T a b:Int):Option Int:=if b=0 then none else if T=12 then some (wrap64 (a.tdiv b)) else if T=13 then some (a.tmod b) else none
theorem parted_any (T a b:Int) (w:World) :
 dw 292 #[di T,di a,di b] w fun d G=>d = .returned (reckV (part T a b))/\G=w:=by
 by_cases I:b=0
 . have A:Hid (part T a b=none):=if_pos I
   subst I;exact Rg
 have aB:(b == 0)=false:=beq_eq_false_iff_ne.2 I
 by_cases e:T=12
 . have A:Hid (part T a b=some (wrap64 (a.tdiv b))):=(if_neg I).trans (if_pos e)
   subst e;exact Rg
 have g:(T == 12)=false:=beq_eq_false_iff_ne.2 e
 by_cases c:T=13
 . have A:Hid (part T a b=some (a.tmod b)):=(if_neg I).trans ((if_neg e).trans (if_pos c))
   subst c;exact Rg
 have f:(T == 13)=false:=beq_eq_false_iff_ne.2 c;have A:Hid (part T a b=none):=(if_neg I).trans ((if_neg e).trans (if_neg c));clear I e c;exact Rg
theorem E0 (T a b:Int) (w:World) :
 dw 278 #[di T,di a,di b] w fun d G=>d = .returned (reckV (kT T a b))/\G=w:=by
 have A:Hid (∀ w:World,dw 292 #[di T,di a,di b] w fun d G=>d = .returned (reckV (part T a b))/\G=w):=fun w=>parted_any T a b w
 by_cases l:T=9
 . subst l
   exact RT
 by_cases B:T=10
 . subst B
   exact RT
 by_cases g:T=11
 . subst g
   exact RT
 by_cases f:T=14
 . subst f
   exact RN
 by_cases c:T=15
 . subst c
   exact RN
 have z:Hid (kT T a b=part T a b):=by
  show kT T a b=_;unfold kT;rw [if_neg l,if_neg B,if_neg g,if_neg f,if_neg c]
  rfl
 have h:(T == 9)=false:=beq_eq_false_iff_ne.2 l;have j:(T == 10)=false:=beq_eq_false_iff_ne.2 B;have i:(T == 11)=false:=beq_eq_false_iff_ne.2 g;have k:(T == 14)=false:=beq_eq_false_iff_ne.2 f;have m:(T == 15)=false:=beq_eq_false_iff_ne.2 c;clear l B g f c
 cases aA:part T a b with
 | none=>
   exact Rt
 | some n=>
   exact Rt
theorem rj {M:World} (h:M.heap[b]? = w.heap[b]?) (j:Nat):M.cell? (dj b j)=w.cell? (dj b j):=by
 simp only [World.cell?,h]
def zL (M:World) (b o:Nat) (x:dB) (E:OA) (a9:Nat):Prop:=M.cell? (dj b o)=some (di x.op)/\M.cell? ⟨b,o+1,none⟩=some (di x.n)/\M.cell? ⟨b,o+2,none⟩=some (di x.m)/\M.cell? ⟨b,o+3,none⟩=some (di x.at_)/\M.cell? ⟨b,o+4,none⟩=some (.slice E x.args.length a9)
theorem jS {ak:OA} (an:dx w (·<y) ak l.length (es l)) (i:Nat) (V:i<l.length):∃ b C E a9,ak=some (dj b C)/\b<y/\b<w.heap.size/\dx w (·<y) E (dq l i).args.length (es (dq l i).args)/\∀ M,M.heap[b]? = w.heap[b]?->zL M b (C+i*5) (dq l i) E a9:=by
 rw [j7 l i V];obtain ⟨b,C,E,a9,a7,S⟩:=an.nd i V
 have I:b<y:=by
  rcases an.2.2 with aa | ⟨aL,c0,s,e,X,_⟩
  . omega
  . rw [a7] at e
    cases e
    exact X
 exact ⟨b,C,E,a9,a7,I,S.lt,S.args',fun M ai=>⟨(rj ai _).trans S.c0,(rj ai _).trans S.c1,(rj ai _).trans S.c2,(rj ai _).trans S.c3,(rj ai _).trans S.c4⟩⟩
theorem gl (V:i<l.length):dq l i ∈ l:=by rw [j7 l i V];exact eb V
theorem el.keepS {n:Nat} {s:Sw} {c:Ca} (h:el n w B y H K av s c P ret) (Y:dR B K.D av q w G) {x:Obj} (I:w.heap[b]? = some x) (aE:K.S<=b) (ap:av.ownBlock≠some b):G.heap[b]? = some x/\q.ownBlock≠some b:=by
 have F:=h.wd.ro.BS;have J:=h.wd.ro.DS;exact Y.keep I N7 N7 ap
theorem el.keepB {n:Nat} {s:Sw} {c:Ca} (h:el n w B y H K av s c P ret) (Y:dR B K.D av q w G) (I:b<y) (b2:b<w.heap.size):G.heap[b]? = w.heap[b]?:=by
 have F:=h.wd.ro.lB;have J:=h.wd.ro.lD;have U:=h.wd.ro.BS;exact Y.block b b2 N7 N7 (fun e=>by have:=(h.wd.out.lt b e).1;omega)
theorem el.new {n:Nat} {s:Sw} {c:Ca} (h:el n w B y H K av s c P ret):K.S<=w.heap.size/\av.ownBlock≠some w.heap.size:=
 ⟨h.wd.ro.zS,fun e=>by have:=(h.wd.out.lt _ e).2;omega⟩
theorem E1 (T a b:Int) (w:World):dw 278 #[di T,di a,di b] w fun d G=>d = .returned (.tuple #[di ((kT T a b).getD 0),.bool (kT T a b).isSome])/\G=w:=by
 refine (E0 T a b w).mono ?_;rintro e G ⟨rfl,rfl⟩
 cases kT T a b<;>exact ⟨rfl,rfl⟩
theorem bind_ok {r:Rr α} {a:α} {s:Sw} {f:α->Sw->Rr β} (h:r = .ok a s):r.bind f=f a s:=by rw [h];rfl
theorem hI {r:Rr α} {s:Sw} {f:α->Sw->Rr β} (h:r = .stop e s):r.bind f = .stop e s:=by rw [h];rfl
section
variable (E:kb) (H:Cx) (u:Nat) (P:List Int) (k:Nat) (nn m g:Int) (O:List dB) (s:Sw)
theorem wl (a:Int):(a != 0)=decide (a≠0):=by by_cases h:a=0<;>simp [h]
theorem E2:dI E H u P (k+1) ⟨6,nn,m,g,O⟩ s=(im (dI E H u P k (dq O 0)) s).bind fun b s=>.ok (gj (!b)) s:=by
 show (dI E H u P k (dq O 0) s).bind _=((dI E H u P k (dq O 0) s).bind _).bind _
 cases dI E H u P k (dq O 0) s with
 | ok a t=>show Rr.ok (gj (decide (a=0))) _=Rr.ok (gj (!(a != 0))) _;by_cases a7:a=0<;>simp [a7,wl]
 | stop e t=>rfl
theorem E3:dI E H u P (k+1) ⟨7,nn,m,g,O⟩ s=(im (dI E H u P k (dq O 0)) s).bind fun b s=>if b=true then (im (dI E H u P k (dq O 1)) s).bind fun b s=>.ok (gj b) s else .ok 0 s:=by
 show (dI E H u P k (dq O 0) s).bind _=((dI E H u P k (dq O 0) s).bind _).bind _
 cases dI E H u P k (dq O 0) s with
 | ok a t=>
   show ite (a=0) _ _=ite ((a != 0)=true) _ _
   by_cases a7:a=0
   . rw [if_pos a7,if_neg Qe]
   . rw [if_neg a7,if_pos Qe]
     exact Q7
 | stop e t=>rfl
theorem E4:dI E H u P (k+1) ⟨8,nn,m,g,O⟩ s=(im (dI E H u P k (dq O 0)) s).bind fun b s=>if b=true then .ok 1 s else (im (dI E H u P k (dq O 1)) s).bind fun b s=>.ok (gj b) s:=by
 show (dI E H u P k (dq O 0) s).bind _=((dI E H u P k (dq O 0) s).bind _).bind _
 cases dI E H u P k (dq O 0) s with
 | ok a t=>
   show ite (a=0) _ _=ite ((a != 0)=true) _ _
   by_cases a7:a=0
   . rw [if_pos a7,if_neg Qe]
     exact Q7
   . rw [if_neg a7,if_pos Qe]
 | stop e t=>rfl
theorem E5 (T:Int) (h:9<=T) (J:T<=15):dI E H u P (k+1) ⟨T,nn,m,g,O⟩ s=(dI E H u P k (dq O 0) s).bind fun a s=>(dI E H u P k (dq O 1) s).bind fun b s=>match kT T a b with
 | some n=>.ok n s
 | none=>.stop 1 s:=by
 show ite (T=1) _ _=_;rw [if_neg N7,if_neg (by show T≠2;omega),if_neg (by show T≠16;omega),if_neg (by show T≠3;omega),if_neg (by show T≠4;omega),if_neg (by show T≠5;omega),if_neg (by show T≠6;omega),if_neg (by show T≠7;omega),if_neg (by show T≠8;omega)]
 rfl
end
theorem E6 {n:Nat} {c:Ca} {s:Sw} (bb:∀ a3 ∈ O,hX n B y H K k a3) (h:el n w B y H K av s c P ret) (an:dx w (·<y) E O.length (es O)) (aw:∀ a3 ∈ O,f8 H c.u P.length K.cd k a3) (X:O.length=1) :
 dw 262 #[dF c.C 0,.agg #[di 6,di nn,di m,di g,.slice E O.length a9]] w fun e G=>Sr fB B y H K w av (dI (dT H n) H c.u P (k+1) ⟨6,nn,m,g,O⟩ s) e G:=by
 obtain ⟨b,C,aT,ky,rfl,I,bW,l,cY⟩:=jS an 0 N7;obtain ⟨D,ad,f,bi,b4⟩:=cY w rfl;simp only [gF,gQ] at D ad f bi b4
 have bK:0<O.length:=N7
 have ao:=hid (h.below (dn w (fg 6 nn m g (some (dj b C)) O.length a9)));have bh:=hid (qe (E:=aT) (a9:=ky) (bb _ (gl N7)) (h.below (dn w (fg 6 nn m g (some (dj b C)) O.length a9))) (l.later (dn w _)) (aw _ (gl N7)));have N:=qd (iO H n c.u P k (dq O 0));rw [E2];generalize im (dI (dT H n) H c.u P k (dq O 0))=F0 at *;generalize dq O 0=a3 at *;clear h bb an aw l cY X I;go_enter func262,ntmps262;go_wp2_with fail;refine bh.mono ?_;intro e dk aE
 rcases ao.step N aE with ⟨bn,s',q,Q,rfl,Y,aj⟩ | ⟨v,s',q,Q,rfl,Y,aj⟩
 . exact Rz
 . have aP:=hid (Sr.ok (rep:=fB) ((dR.below (dn w _)).trans Y) (bind_ok (f:=fun b s=>.ok (gj (!b)) s) Q) aj.wd)
   clear Q Y aj aE;exact Q1
theorem E7 {n:Nat} {c:Ca} {s:Sw} (bb:∀ a3 ∈ O,hX n B y H K k a3) (h:el n w B y H K av s c P ret) (an:dx w (·<y) E O.length (es O)) (aw:∀ a3 ∈ O,f8 H c.u P.length K.cd k a3) (X:O.length=2) :
 dw 262 #[dF c.C 0,.agg #[di 7,di nn,di m,di g,.slice E O.length a9]] w fun e G=>Sr fB B y H K w av (dI (dT H n) H c.u P (k+1) ⟨7,nn,m,g,O⟩ s) e G:=by
 obtain ⟨b,C,aT,ky,rfl,I,bW,l,cY⟩:=jS an 0 N7;obtain ⟨D,ad,f,bi,b4⟩:=cY w rfl;simp only [gF,gQ] at D ad f bi b4
 have bK:0<O.length:=N7
 have ao:=hid (h.below (dn w (fg 7 nn m g (some (dj b C)) O.length a9)));have bh:=hid (qe (E:=aT) (a9:=ky) (bb _ (gl N7)) (h.below (dn w (fg 7 nn m g (some (dj b C)) O.length a9))) (l.later (dn w _)) (aw _ (gl N7)));have N:=qd (iO H n c.u P k (dq O 0));obtain ⟨aL,c0,az,kz,ar, -, -,dZ,cZ⟩:=jS an 1 N7;cases ar;simp only [nF] at cZ;have J:=hid (fun av s (G:World) (bj:el n G B y H K av s c P ret) dZ=>qe (E:=az) (a9:=kz) (bb _ (gl (i:=1) N7)) bj dZ (aw _ (gl N7)));have o:=qd (iO H n c.u P k (dq O 1))
 have bg:1<O.length:=N7
 have ag:=hid (fun q dk (Y:dR B K.D av q (w.alloc (fg 7 nn m g (some (dj b C)) O.length a9)) dk)=>(ao.keepS Y (b:=w.heap.size) (x:=(fg 7 nn m g (some (dj b C)) O.length a9)) (heap_alloc_new w _) h.new.1 h.new.2).1);have b6:=hid (fun q dk (Y:dR B K.D av q (w.alloc (fg 7 nn m g (some (dj b C)) O.length a9)) dk)=>cZ dk ((ao.keepB Y I Of).trans ((dn w _).block b bW)));have b0:=hid (fun q dk (Y:dR B K.D av q (w.alloc (fg 7 nn m g (some (dj b C)) O.length a9)) dk)=>ao.dat Y (dZ.later (dn w _)));rw [E3];generalize im (dI (dT H n) H c.u P k (dq O 0))=F0 at *;generalize im (dI (dT H n) H c.u P k (dq O 1))=F1 at *;generalize dq O 1=aX at *;generalize dq O 0=a3 at *;clear h bb an aw l cY X I;clear cZ dZ;go_enter func262,ntmps262;go_wp2_with fail
 refine bh.mono ?_;intro e dk aE
 rcases ao.step N aE with ⟨bn,s',q,Q,rfl,Y,aj⟩ | ⟨v,s',q,Q,rfl,Y,aj⟩
 . exact Rz
 . have aD:=hid ((dR.below (dn w _)).trans Y)
   have z:=hid Q;have aS:=hid aj;obtain ⟨bf,be,b9,bm,bk⟩:=b6 _ _ Y;obtain ⟨af,a4,am,a5,ax, -⟩:=ep (ag _ _ Y);have a1:=hid (J _ _ _ aj (b0 _ _ Y));clear Q Y aj aE bh ag b6 b0 J;unfold n8
   cases v with
   | false=>
     clear bf be b9 bm bk af a4 am a5 ax
     go_wp2_with (go_at_call 227;refine (qg _ _).mono ?_;rintro e G ⟨rfl,rfl⟩)
     go_returns
     exact Sr.ok (rep:=fB) (a:=0) aD ((bind_ok (f:=fun b s=>if b=true then (F1 s).bind fun b s=>.ok (gj b) s else .ok 0 s) z).trans (if_neg N9)) aS.wd
   | true=>
     go_wp2_with fail;refine a1.mono ?_;intro e w2 aE
     rcases aS.step o aE with ⟨bn,b1,bu,S,rfl,p,a6⟩ | ⟨v,b1,bu,S,rfl,p,a6⟩
     . exact ⟨rfl,Sr.no (aD.trans p) ((bind_ok (f:=fun b s=>if b=true then (F1 s).bind fun b s=>.ok (gj b) s else .ok 0 s) z).trans ((if_pos rfl).trans (hI S))) a6⟩
     . have aP:=hid (Sr.ok (rep:=fB) (aD.trans p) ((bind_ok (f:=fun b s=>if b=true then (F1 s).bind fun b s=>.ok (gj b) s else .ok 0 s) z).trans ((if_pos rfl).trans (bind_ok (f:=fun b s=>.ok (gj b) s) S))) a6.wd)
       clear S p a6 aE bf be b9 bm bk af a4 am a5 ax;exact Q1
theorem E8 {n:Nat} {c:Ca} {s:Sw} (bb:∀ a3 ∈ O,hX n B y H K k a3) (h:el n w B y H K av s c P ret) (an:dx w (·<y) E O.length (es O)) (aw:∀ a3 ∈ O,f8 H c.u P.length K.cd k a3) (X:O.length=2) :
 dw 262 #[dF c.C 0,.agg #[di 8,di nn,di m,di g,.slice E O.length a9]] w fun e G=>Sr fB B y H K w av (dI (dT H n) H c.u P (k+1) ⟨8,nn,m,g,O⟩ s) e G:=by
 obtain ⟨b,C,aT,ky,rfl,I,bW,l,cY⟩:=jS an 0 N7;obtain ⟨D,ad,f,bi,b4⟩:=cY w rfl;simp only [gF,gQ] at D ad f bi b4
 have bK:0<O.length:=N7
 have ao:=hid (h.below (dn w (fg 8 nn m g (some (dj b C)) O.length a9)));have bh:=hid (qe (E:=aT) (a9:=ky) (bb _ (gl N7)) (h.below (dn w (fg 8 nn m g (some (dj b C)) O.length a9))) (l.later (dn w _)) (aw _ (gl N7)));have N:=qd (iO H n c.u P k (dq O 0));obtain ⟨aL,c0,az,kz,ar, -, -,dZ,cZ⟩:=jS an 1 N7;cases ar;simp only [nF] at cZ;have J:=hid (fun av s (G:World) (bj:el n G B y H K av s c P ret) dZ=>qe (E:=az) (a9:=kz) (bb _ (gl (i:=1) N7)) bj dZ (aw _ (gl N7)));have o:=qd (iO H n c.u P k (dq O 1))
 have bg:1<O.length:=N7
 have ag:=hid (fun q dk (Y:dR B K.D av q (w.alloc (fg 8 nn m g (some (dj b C)) O.length a9)) dk)=>(ao.keepS Y (b:=w.heap.size) (x:=(fg 8 nn m g (some (dj b C)) O.length a9)) (heap_alloc_new w _) h.new.1 h.new.2).1);have b6:=hid (fun q dk (Y:dR B K.D av q (w.alloc (fg 8 nn m g (some (dj b C)) O.length a9)) dk)=>cZ dk ((ao.keepB Y I Of).trans ((dn w _).block b bW)));have b0:=hid (fun q dk (Y:dR B K.D av q (w.alloc (fg 8 nn m g (some (dj b C)) O.length a9)) dk)=>ao.dat Y (dZ.later (dn w _)));rw [E4];generalize im (dI (dT H n) H c.u P k (dq O 0))=F0 at *;generalize im (dI (dT H n) H c.u P k (dq O 1))=F1 at *;generalize dq O 1=aX at *;generalize dq O 0=a3 at *;clear h bb an aw l cY X I;clear cZ dZ;go_enter func262,ntmps262;go_wp2_with fail
 refine bh.mono ?_;intro e dk aE
 rcases ao.step N aE with ⟨bn,s',q,Q,rfl,Y,aj⟩ | ⟨v,s',q,Q,rfl,Y,aj⟩
 . exact Rz
 . have aD:=hid ((dR.below (dn w _)).trans Y)
   have z:=hid Q;have aS:=hid aj;obtain ⟨bf,be,b9,bm,bk⟩:=b6 _ _ Y;obtain ⟨af,a4,am,a5,ax, -⟩:=ep (ag _ _ Y);have a1:=hid (J _ _ _ aj (b0 _ _ Y));clear Q Y aj aE bh ag b6 b0 J;unfold n8
   cases v with
   | true=>
     clear bf be b9 bm bk af a4 am a5 ax
     go_wp2_with (go_at_call 227;refine (qg _ _).mono ?_;rintro e G ⟨rfl,rfl⟩)
     go_returns
     exact Sr.ok (rep:=fB) (a:=1) aD ((bind_ok (f:=fun b s=>if b=true then .ok 1 s else (F1 s).bind fun b s=>.ok (gj b) s) z).trans (if_pos rfl)) aS.wd
   | false=>
     go_wp2_with fail;refine a1.mono ?_;intro e w2 aE
     rcases aS.step o aE with ⟨bn,b1,bu,S,rfl,p,a6⟩ | ⟨v,b1,bu,S,rfl,p,a6⟩
     . exact ⟨rfl,Sr.no (aD.trans p) ((bind_ok (f:=fun b s=>if b=true then .ok 1 s else (F1 s).bind fun b s=>.ok (gj b) s) z).trans ((if_neg N9).trans (hI S))) a6⟩
     . have aP:=hid (Sr.ok (rep:=fB) (aD.trans p) ((bind_ok (f:=fun b s=>if b=true then .ok 1 s else (F1 s).bind fun b s=>.ok (gj b) s) z).trans ((if_neg N9).trans (bind_ok (f:=fun b s=>.ok (gj b) s) S))) a6.wd)
       clear S p a6 aE bf be b9 bm bk af a4 am a5 ax;exact Q1
theorem E9 {n:Nat} {c:Ca} {s:Sw} (bb:∀ a3 ∈ O,hX n B y H K k a3) (h:el n w B y H K av s c P ret) (an:dx w (·<y) E O.length (es O)) (aw:∀ a3 ∈ O,f8 H c.u P.length K.cd k a3) (X:O.length=2) (L:9<=T) (aW:T<=15) :
 dw 262 #[dF c.C 0,.agg #[di T,di nn,di m,di g,.slice E O.length a9]] w fun e G=>Sr fB B y H K w av (dI (dT H n) H c.u P (k+1) ⟨T,nn,m,g,O⟩ s) e G:=by
 rw [E5 _ _ _ _ _ _ _ _ _ _ _ L aW];have bE:(T == 1)=false:=beq_eq_false_iff_ne.2 N7;have ab:(T == 2)=false:=beq_eq_false_iff_ne.2 N7;have j:(T == 16)=false:=beq_eq_false_iff_ne.2 N7;have V:(T == 3)=false:=beq_eq_false_iff_ne.2 N7;have au:(T == 4)=false:=beq_eq_false_iff_ne.2 N7;have i:(T == 5)=false:=beq_eq_false_iff_ne.2 N7;have t:(T == 6)=false:=beq_eq_false_iff_ne.2 N7;have d:(T == 7)=false:=beq_eq_false_iff_ne.2 N7;have Z:(T == 8)=false:=beq_eq_false_iff_ne.2 N7;clear L aW;obtain ⟨b,C,aT,ky,rfl,I,bW,l,cY⟩:=jS an 0 N7;obtain ⟨D,ad,f,bi,b4⟩:=cY w rfl;simp only [gF,gQ] at D ad f bi b4
 have bK:0<O.length:=N7
 have ao:=hid (h.below (dn w (fg T nn m g (some (dj b C)) O.length a9)));have bh:=hid (bb _ (gl (i:=0) N7) c P ret av s aT ky _ (h.below (dn w (fg T nn m g (some (dj b C)) O.length a9))) (l.later (dn w _)) (aw _ (gl N7)));have N:=iO H n c.u P k (dq O 0);obtain ⟨aL,c0,az,kz,ar, -, -,dZ,cZ⟩:=jS an 1 N7;cases ar;simp only [nF] at cZ;have J:=hid (fun av s (G:World) (bj:el n G B y H K av s c P ret) dZ=>bb _ (gl (i:=1) N7) c P ret av s az kz G bj dZ (aw _ (gl N7)));have o:=iO H n c.u P k (dq O 1)
 have bg:1<O.length:=N7
 have ag:=hid (fun q dk (Y:dR B K.D av q (w.alloc (fg T nn m g (some (dj b C)) O.length a9)) dk)=>ao.keepS Y (b:=w.heap.size) (x:=(fg T nn m g (some (dj b C)) O.length a9)) (heap_alloc_new w _) h.new.1 h.new.2);have b6:=hid (fun q dk (Y:dR B K.D av q (w.alloc (fg T nn m g (some (dj b C)) O.length a9)) dk)=>(ao.keepB Y I Of).trans ((dn w (fg T nn m g (some (dj b C)) O.length a9)).block b bW));have b0:=hid (fun q dk (Y:dR B K.D av q (w.alloc (fg T nn m g (some (dj b C)) O.length a9)) dk)=>ao.dat Y (dZ.later (dn w _)));have u:=hid cZ;have a:=h.new.1;have bC:=I;generalize dI (dT H n) H c.u P k (dq O 0)=F0 at *;generalize dI (dT H n) H c.u P k (dq O 1)=F1 at *;generalize dq O 1=aX at *;generalize dq O 0=a3 at *;clear h bb an aw l cY X I cZ dZ
 go_enter func262,ntmps262;go_wp2_with fail;refine bh.mono ?_;intro e dk aE
 rcases ao.step N aE with ⟨bn,s',bq,Q,rfl,Y,aj⟩ | ⟨v,ay,bq,Q,rfl,Y,aj⟩
 . exact Rz
 . have aD:=hid ((dR.below (dn w _)).trans (Y.trans (dR.below (fA dk))))
   have z:=hid Q;have aS:=hid (aj.below (fA dk));have aZ:=hid (ag _ _ Y)
   have aQ:Hid (∀ M:World,M.heap[w.heap.size]? = dk.heap[w.heap.size]?->M.heap[b]? = dk.heap[b]?->M.cell? (dj w.heap.size 0)=some (di T)/\M.cell? (dj w.heap.size 4)=some (.slice (some (dj b C)) O.length a9)/\M.cell? ⟨b,C+5,none⟩=some (di aX.op)/\M.cell? ⟨b,C+5+1,none⟩=some (di aX.n)/\M.cell? ⟨b,C+5+2,none⟩=some (di aX.m)/\M.cell? ⟨b,C+5+3,none⟩=some (di aX.at_)/\M.cell? ⟨b,C+5+4,none⟩=some (.slice az aX.args.length kz)):=fun M aJ aI=>by
    obtain ⟨af,a4,am,a5,ax, -⟩:=ep (aJ.trans aZ.1);obtain ⟨bf,be,b9,bm,bk⟩:=u M (aI.trans (b6 _ _ Y));exact ⟨af,ax,bf,be,b9,bm,bk⟩
   have a1:=hid (J _ _ _ aS ((b0 _ _ Y).later (fA dk)))
   have bJ:Hid (∀ q w2,dR B K.D bq q dk.drew w2->w2.heap[w.heap.size]? = dk.heap[w.heap.size]?/\w2.heap[b]? = dk.heap[b]?):=fun q w2 p=>⟨(aS.keepS p (b:=w.heap.size) aZ.1 a aZ.2).1.trans aZ.1.symm,aS.keepB p bC (e4 bW (aD.size))⟩
   clear Q Y aj aE bh ag b6 b0 J u;unfold fB;go_wp2_with fail
   go_region_held (fun M=>M.cell? (dj w.heap.size 0)=some (di T)/\M.cell? (dj w.heap.size 4)=some (.slice (some (dj b C)) O.length a9)/\M.cell? ⟨b,C+5,none⟩=some (di aX.op)/\M.cell? ⟨b,C+5+1,none⟩=some (di aX.n)/\M.cell? ⟨b,C+5+2,none⟩=some (di aX.m)/\M.cell? ⟨b,C+5+3,none⟩=some (di aX.at_)/\M.cell? ⟨b,C+5+4,none⟩=some (.slice az aX.args.length kz)) (first | exact aQ _ rfl rfl | exact aU)
    (first
      | (go_at_call 262;refine a1.mono ?_;intro e w2 aE;rcases aS.step o aE with ⟨bn,b1,bu,S,rfl,p,a6⟩ | ⟨aM,b1,bu,S,rfl,p,a6⟩;(exact ⟨rfl,Sr.no (aD.trans p) ((bind_ok z).trans (hI S)) a6⟩);(have aU:=hid (aQ w2 (bJ _ _ p).1 (bJ _ _ p).2);have x:=hid (aD.trans p);have aY:=hid S;have U:=hid a6;clear S p a6 aE;unfold fB))
      | (go_at_call 278;refine (E1 _ _ _ _).mono ?_;rintro e G ⟨rfl,rfl⟩))
   have A:=hid (il U.cl)
   cases ap:kT T v aM with
   | some r=>
     simp only [gE,Option.isSome_some];go_wp2_with fail
     go_returns
     exact Sr.ok (rep:=fB) x ((bind_ok z).trans ((bind_ok aY).trans (by rw [ap]))) U.wd
   | none=>
     simp only [Option.getD_none,Option.isSome_none];obtain ⟨bF,bo,ei,e2,bw,bV⟩:=A.out;go_wp2_with fail;refine (stop_any B y H K _ _ 1 _ U.wd).mono ?_;rintro e dC ⟨rfl,ak,aj⟩;exact ⟨rfl,Sr.no (x.trans (dR.grown ak)) ((bind_ok z).trans ((bind_ok aY).trans (by rw [ap]))) aj⟩
structure fK (B D:Nat) (X:Nat->Prop) (vo vo':Value) (w w':World):Prop where
 os:w'.os=w.os
 tape:w'.tape=w.tape
 output:w'.output=w.output
 size:w.heap.size<=w'.heap.size
 block:∀ b,b<w.heap.size->b≠B->b≠D->¬ X b->vo.ownBlock≠some b->w'.heap[b]? = w.heap[b]?
 own:∀ k,vo'.ownBlock=some k->k<w.heap.size->vo.ownBlock=some k
theorem dR.gm (h:dR B D av q w G):fK B D X av q w G:=⟨h.os,h.tape,h.output,h.size,fun b F J U _ aB=>h.block b F J U aB,h.own⟩
theorem fK.fm (h:fK B D X av q w G) (S:∀ b,X b->w.heap.size<=b):dR B D av q w G:=⟨h.os,h.tape,h.output,h.size,fun b F J U aB=>h.block b F J U (fun x=>by have:=S b x;omega) aB,h.own⟩
theorem fK.trans {aF aM bl:Value} {a b c:World} (h:fK B D X aF aM a b) (k:fK B D X aM bl b c):fK B D X aF bl a c:=
 ⟨k.os.trans h.os,k.tape.trans h.tape,k.output.trans h.output,fZ h.size k.size,fun x S F J aa U=>(k.block x (e4 S h.size) F J aa (fun e=>U (h.own x e S))).trans (h.block x S F J aa U),fun x e S=>h.own x (k.own x e (e4 S h.size)) S⟩
theorem fK.cell {u:Value} (S:X b):fK B D X av av w (w.setCell (dj b i) u):=⟨rfl,rfl,rfl,Ob,fun k _ _ _ aa _=>eh (fun e=>aa (by rw [show k=b from e];exact S)) u,fun _ h _=>h⟩
theorem fK.mono {a:Nat->Prop} (h:fK B D X av q w G) (S:∀ b,X b->a b):fK B D a av q w G:=⟨h.os,h.tape,h.output,h.size,fun b F J U aa aB=>h.block b F J U (fun x=>aa (S b x)) aB,h.own⟩
def Sx (rep:α->Value) (B y:Nat) (H:Cx) (K:Wk) (X:Nat->Prop) (w:World) (av:Value) (r:Rr α) (e:Ending) (G:World):Prop:=
 ∃ q,fK B K.D X av q w G/\((∃ a s,r = .ok a s/\e = .returned (rep a)/\e7 G B y H K q s 0)\/(∃ c s,r = .stop c s/\e = .panicked (qU c)/\e7 G B y H K q s c))
def mD (n B y:Nat) (H:Cx) (K:Wk):Prop:=∀ (u:Nat) (ac:List du) (b4:OA) (t:Nat) (lv:Value) (L:Nat) (P:List Int) (av:Value) (s:Sw) (w:World),e7 w B y H K av s 0->H.lim+1<=s.ticks+n->Lo w lv L P->K.S<=L->(P=[]\/av.ownBlock≠some L)->u<H.us.length->dx w (·<y) b4 ac.length (eJ ac)->(∀ a ∈ ac,gM H u P.length K.cd 6 a)->
 dw 125 #[dF B 0,di u,.slice b4 ac.length t,lv] w fun e G=>Sx fB B y H K (·=L) w av (dT H n u ac P s) e G
theorem e7.far {s:Sw} (h:e7 w B y H K av s e) {L:Nat} (aQ:K.S<=L) (ap:av.ownBlock≠some L) (u:Value):e7 (w.setCell (dj L i) u) B y H K av s e:=by
 obtain ⟨bD,p,aF,V,W⟩:=h.blk;have F:=h.ro.BS;have J:=h.ro.DS;have U:=h.ro.lB;exact ⟨⟨bD,p,(eh (by show B≠L;omega) u).trans aF,V.moves ⟨Ob,fun b _ X=>⟨X,eh (by show b≠L;omega) u⟩⟩,W⟩,(eh (by show K.D≠L;omega) u).trans h.data,iZ h.out (fun k N=>eh (fun e=>ap Pz) u),h.ro.moves Ob (fun b I _ _=>eh (by show b≠L;omega) u),h.cd,h.dl,h.tl,h.tm,h.cl,h.ol⟩
theorem wo (f:dB->Sw->Rr Int):∀ (a b:List dB) (s:Sw),gW f (a++b) s=(gW f a s).bind fun al s=>(gW f b s).bind fun m s=>.ok (al++m) s
 | [],b,s=>by
   show gW f b s=(gW f b s).bind fun m s=>.ok m s
   cases gW f b s<;>rfl
 | x :: r,b,s=>by
   show (f x s).bind _=((f x s).bind _).bind _
   cases f x s with
   | stop e t=>rfl
   | ok v t=>
     show (gW f (r++b) t).bind _=((gW f r t).bind _).bind _;rw [wo f r b t]
     cases gW f r t with
     | stop e t=>rfl
     | ok al t=>
       show ((gW f b t).bind _).bind _=(gW f b t).bind _
       cases gW f b t<;>rfl
theorem Fa (f:dB->Sw->Rr Int) (x:dB) (s:Sw):gW f [x] s=(f x s).bind fun v s=>.ok [v] s:=rfl
theorem zM {f:dB->Sw->Rr Int} {s:Sw} (a2:j<l.length) (h:gW f (l.take j) s = .ok al t) (af:f l[j] t = .ok v t'):gW f (l.take (j+1)) s = .ok (al++[v]) t':=by
 rw [gn a2,wo,h];show (gW f [l[j]] t).bind _=_;rw [Fa,af]
 rfl
theorem Fb {f:dB->Sw->Rr Int} {s:Sw} (a2:j<l.length) (h:gW f (l.take j) s = .ok al t) (af:f l[j] t = .stop e t'):gW f l s = .stop e t':=by
 have:gW f l s=gW f (l.take j++l[j] :: l.drop (j+1)) s:=by rw [← qw a2,oC]
 rw [this,wo,h];show ((f l[j] t).bind _).bind _=_;rw [af]
 rfl
theorem Fd (al:List Int) (n:Nat) (v:Int) (h:al.length<n):(hh al n).set al.length v=hh (al++[v]) n:=by
 unfold hh;rw [List.set_append_right _ _ (dA _),xD,ir,eM,oA,show n - al.length=(n - (al.length+1))+1 from N7,List.replicate_succ,k7,oE]
 rfl
theorem zN (al:List Int) (n:Nat) (h:al.length<=n):(hh al n).length=n:=by
 unfold hh;rw [eM,List.length_replicate,ir];omega
theorem Fe (d:Nat):madeCells #[di 0] d=(intV (hh [] d)).toArray:=by
 apply Array.ext'
 apply List.ext_getElem?
 intro i
 by_cases h:i<d
 . simp [hh,madeCells,intV,h,Nat.mod_one]
 . simp [hh,madeCells,intV,h]
theorem zO (d:Nat) (hd:d<=512) (w:World):(Instr.makeSlice 49 (di (d:Int)) (di (d:Int))).run prog w = .ok (.slice (some (dj w.heap.size 0)) d d) (w.alloc (.cells (intV (hh [] d)).toArray 3)):=by
 obtain ⟨aY,V,a9,ba,bA⟩:=info_parts Tryz.infoI;have:=run_make (P:=prog) w 49 3 aY _ Tryz.underlying49 V a9 .i64 .i64 (d:Int) (d:Int) N7 N7 (by rw [bA];omega) N7;rw [this,ba,Nat.mul_one,ir,← Fe]
 rfl
structure o9 (n B base:Nat) (cx:Cx) (K:Wk) (vo0:Value) (w0:World) (c:Ca) (loc:List Int) (ret:Int) (L Pb:Nat) (px:Obj) (nl:Nat) (F:dB->Sw->Rr Int) (args:List dB) (s0:Sw) (j:Nat) (wr:World) (vo:Value) (s:Sw) (vs:List Int):Prop where
 cn:el n wr B base cx K vo s c loc ret
 fm:dR B K.D vo0 vo w0 wr
 lo:wr.heap[L]? = some (.cells (intV (hh vs nl)).toArray 3 (0,0))
 pb:wr.heap[Pb]? = some px
 lO:vo.ownBlock≠some L
 pO:vo.ownBlock≠some Pb
 vl:vs.length=j
 ar:gW F (args.take j) s0 = .ok vs s
theorem o9.alloc {n:Nat} {c:Ca} {L:Nat} {l:dB->Sw->Rr Int} {s:Sw} (h:o9 n B y H K I w0 c P ret L r ch nl l O U j wr av s al) (o:Obj):o9 n B y H K I w0 c P ret L r ch nl l O U j (wr.alloc o) av s al:=
 ⟨h.cn.below (dn wr o),h.fm.trans (dR.below (dn wr o)),((dn wr o).block _ (lt_of_heap h.lo)).trans h.lo,((dn wr o).block _ (lt_of_heap h.pb)).trans h.pb,h.lO,h.pO,h.vl,h.ar⟩
theorem o9.next {n:Nat} {c:Ca} {L:Nat} {l:dB->Sw->Rr Int} {dk:World} {vo1:Value} {s s1:Sw} (h:o9 n B y H K I w0 c P ret L r ch nl l O U j wr av s al) (Y:dR B K.D av vo1 wr dk) (W:el n dk B y H K vo1 s1 c P ret) (a2:j<O.length) (Z:j<nl) (Q:l O[j] s = .ok v s1) (aQ:K.S<=L) (a:w0.heap.size<=L) (bC:K.S<=r) (d:L≠r) (i:c.C≠L) (f:P=[]\/c.L≠L) :
 dk.heap[L]? = some (.cells (intV (hh al nl)).toArray 3 (0,0))/\o9 n B y H K I w0 c P ret L r ch nl l O U (j+1) (dk.setCell (dj L j) (di v)) vo1 s1 (al++[v]):=by
 obtain ⟨a9,au⟩:=h.cn.keepS Y h.lo aQ h.lO;obtain ⟨k3,aH⟩:=h.cn.keepS Y h.pb bC h.pO;refine ⟨a9,?_,?_,?_,?_,au,aH,by rw [eM,h.vl];rfl,zM a2 h.ar Q⟩
 . refine ⟨W.wd.far aQ au _,(eh (by show c.C≠L;exact i) _).trans W.cl,W.lo.moves ?_,W.cS,W.cO,W.lS,by simpa using W.lz,W.la,W.fu⟩
   rcases f with e | e
   . exact Or.inl e
   . exact Or.inr (eh e _)
 . have g:fK B K.D (·=L) I vo1 w0 (dk.setCell (dj L j) (di v)):=(h.fm.trans Y).gm.trans (fK.cell rfl)
   exact g.fm (fun b e=>by rw [show b=L from e];exact a)
 . rw [heap_set a9,j1]
   have e:(intV (hh al nl)).set j (di v)=intV (hh (al++[v]) nl):=by
    rw [← Fd al nl v (by rw [h.vl];exact Z),h.vl];simp [intV,xE]
   rw [e]
 . exact (eh (by show r≠L;exact fun e=>d e.symm) _).trans k3
theorem kW.who {u:Nat} (h:kW H u k m g):∃ (X R:Nat) (F:u<H.near.length) (J:m.toNat<H.near[u].length) (U:X<H.us.length) (aa:R<H.us[X].parts.length),0<=m/\g=R/\H.near[u][m.toNat]=X/\fT H u m=X/\qY H u m g=H.us[X].parts[R]/\H.us[X].parts[R].params=k:=by
 obtain ⟨a1,a7,F,J,U,aa,aB⟩:=h
 have e:fT H u m=H.near[u][m.toNat]:=by
  unfold fT;rw [fV,fV,ew F,gE,ew J,gE]
 refine ⟨_,g.toNat,F,J,U,aa,a1,N7,rfl,e,?_,aB⟩;unfold qY;rw [e,ew U];show (H.us[H.near[u][m.toNat]]).parts.getD _ _=_;rw [fV,ew aa,gE]
theorem zP {n:Nat} {c:Ca} {s:Sw} (bb:∀ a3 ∈ O,hX n B y H K k a3) (aG:mD n B y H K) (b3:mB H K.cd) (h:el n w B y H K av s c P ret) (an:dx w (·<y) E O.length (es O)) (aw:∀ a3 ∈ O,f8 H c.u P.length K.cd k a3) (aA:kW H c.u O.length m g) :
 dw 263 #[dF c.C 0,di m,di g,.slice E O.length a9] w fun e G=>Sr fB B y H K w av (kt (dT H n) H c.u (dI (dT H n) H c.u P k) m g O s) e G:=by
 obtain ⟨X,R,ap,ai,r,aQ,a1,rfl,hnr,hwho,bG,hpar⟩:=aA.who
 obtain ⟨a6,rfl⟩:∃ i:Nat,m=i:=⟨m.toNat,N7⟩
 have cf:a6<H.near[c.u].length:=by simpa using ai
 have cd:H.near[c.u][a6]=X:=by simpa using hnr
 have bC:=(b3 X r).2 _ (eb aQ);unfold kt;rw [hwho,bG];obtain ⟨bD,p,I, -, -⟩:=h.wd.blk;obtain ⟨aH,az,aK,aW,bg,q5,q6,q7,q8,q9,b5,qf⟩:=jt I;obtain ⟨bF,bo,ei,e2,bw,bV⟩:=il h.cl;obtain ⟨bt,bE,bp,b8,aq,ba,ah,aJ⟩:=h.wd.ro.near.row c.u ap
 have bK:(hO H.near[c.u]).length=H.near[c.u].length:=by simp [hO]
 have bQ:=aJ;rw [← bK] at bQ;obtain ⟨bv,ab,rfl,bA,ae, -⟩:=bQ.num a6 (by rw [bK];exact cf)
 have aI:(hO H.near[c.u])[a6]'(by rw [bK];exact cf)=(X:Int):=by simp [hO,cd]
 rw [aI] at ae;obtain ⟨aR,V,u1,aF,u2,aM,u3,bl,T,aL⟩:=h.wd.ro.us.un X r;obtain ⟨u,au,u4,a8,bc,hpa⟩:=aL.parts'.pt R aQ;have cm:=h.wd.ro.near.bound;have cb:=bQ.bound;have cj:=h.wd.ro.us.bound;have cs:=aL.parts'.bound;have cq:=an.bound;have co:=hpa.body'.bound;obtain ⟨D,ad,f,bi,b4,bx,y6⟩:=hpa;obtain ⟨bf,be,b9,bm,bk,bO,bZ,z7,z8,z9,z10⟩:=aL;rw [aq] at az;rw [T] at aH;rw [bc] at bk;rw [bK] at cb;generalize H.us[X].parts[R]=t at *
 obtain ⟨nl,b2⟩:∃ nl:Nat,t.params+t.locals=nl:=⟨(t.params+t.locals).toNat,N7⟩
 rw [b2] at bC ⊢
 have N:=fun j (a2:j<O.length)=>iO H n c.u P k O[j]
 have cr:nl<=16:=N7
 have ct:O.length<=nl:=N7
 have c7:wrap64 (t.params+t.locals)=(nl:Int):=by rw [b2];unfold wrap64;omega
 have c2:=zO nl N7;have c0:=h.new;have ao:=hid h;have b0:=hid an;have bh:=hid bb;have aV:=hid aw;have aP:=hid (fun lv L aN av s w F J U aa aB bj ar=>aG X t.body u4 a8 lv L aN av s w F J U aa aB r bj ar);have ag:=hid b4;have A:=hid bC;have cl:=lt_of_heap h.cl;have ca:=h.lz;clear h an bb aw aG I b3 aA aJ bQ bZ z7 z8 bC b4 bK aI hnr cd hwho bG ai a1 be b9 bm bO z9 z10 bx y6 aK aW bg q5 q6 q7 q8 q9 qf ei e2 bV aq T bc;have cp:=hid hpar;have cn:=hid b2;clear hpar b2;generalize H.near[c.u].length=ln1 at *;generalize H.us[X].parts.length=ln2 at *;go_enter func263,ntmps263;go_wp2_with fail
 go_quiet ((fail))
 obtain ⟨M,hWe,hWb,hWs,bU,bd,bs,bI,bM,bL,gB,gC,g6,g7⟩:∃ M,w.drewN nq=M/\Hid (dm w M)/\Hid (M.heap.size=w.heap.size)/\M.cell? (dj c.C 0)=some (dF B 0)/\M.cell? (dj B 0)=some (.slice (some (dj aR V)) H.us.length K.cu)/\M.cell? ⟨aR,V+X*5+3,none⟩=some (.slice (some (dj u au)) ln2 aM)/\M.cell? ⟨u,au+R*3,none⟩=some (di t.params)/\M.cell? ⟨u,au+R*3+1,none⟩=some (di t.locals)/\M.cell? ⟨u,au+R*3+2,none⟩=some (.slice u4 t.body.length a8)/\B<M.heap.size/\c.C<M.heap.size/\aR<M.heap.size/\u<M.heap.size:=⟨_,rfl,hid (fQ w nq),hid rfl,bF,aH,bk,ad,f,bi,b5,bw,bf,D⟩
 rw [hWe];clear hWe bF bo aH az ah ae bk ad f bi b5 bw bf D ba bA
 have aZ:Hid (o9 n B y H K av w c P ret (M.heap.size+1) M.heap.size (jA t.params t.locals u4 t.body.length a8) nl (dI (dT H n) H c.u P k) O s 0 ((M.alloc (jA t.params t.locals u4 t.body.length a8)).alloc (.cells (intV (hh [] (nl:Int))).toArray 3)) av s []):=by
  have ci:dm w ((M.alloc (jA t.params t.locals u4 t.body.length a8)).alloc (.cells (intV (hh [] (nl:Int))).toArray 3)):=dp hWb.out (dp (dn M _) (dn _ _));have e:(M.alloc (jA t.params t.locals u4 t.body.length a8)).heap.size=M.heap.size+1:=pv ..;refine ⟨ao.below ci,dR.below ci,?_,?_,fun h=>?_,fun h=>?_,rfl,rfl⟩
  . rw [← e]
    exact heap_alloc_new _ _
  . exact ((dn (M.alloc (jA t.params t.locals u4 t.body.length a8)) _).block M.heap.size (by rw [e];omega)).trans (heap_alloc_new _ _)
  . have:=(ao.wd.out.lt _ h).2
    have:=hWs.out;omega
  . have:=(ao.wd.out.lt _ h).2
    have:=hWs.out;omega
 have ce:K.S<=M.heap.size:=by rw [hWs.out];exact c0.1
 have cg:w.heap.size<=M.heap.size+1:=by rw [hWs.out];omega
 have ch:c.C≠M.heap.size+1:=by rw [hWs.out];omega
 have cc:P=[]\/c.L≠M.heap.size+1:=Or.inr (by rw [hWs.out];omega);have bX:=hid (And.intro ce (And.intro cg (And.intro ch cc)));clear ce cg ch cc c0 cl ca;go_wp2_with fail;simp only [c7];clear bU bd bs bI bM bL gB gC g6 g7 c7 c2
 go_loopw [52] (fun i wr=>∃ j:Nat,j<=O.length/\i=di j/\∃ q s' al,o9 n B y H K av w c P ret (M.heap.size+1) M.heap.size (jA t.params t.locals u4 t.body.length a8) nl (dI (dT H n) H c.u P k) O s j wr q s' al) (fun i _=>O.length - (intOf i).toNat)
 case atStart=>exact ⟨0,dY _,rfl,av,s,[],aZ⟩
 case round=>
  obtain ⟨j,a2,rfl,bq,ay,al,a0⟩:=hrel;have d:=hid a0
  by_cases ac:j<O.length
  . obtain ⟨b,C,aT,ky,rfl,I,bW,l,cY⟩:=jS (ao.dat a0.fm b0) j ac
    obtain ⟨af,a4,am,a5,ax⟩:=cY wr rfl;have a:=bh _ (gl ac);have b6:=aV _ (gl ac);rw [j7 O j ac] at l af a4 am a5 ax a b6;have aX:=hid (fun o=>a c P ret bq ay aT ky _ (a0.cn.below (dn wr o)) (l.later (dn wr o)) b6);have z:=hid (fun v s'=>zM (f:=dI (dT H n) H c.u P k) (v:=v) (t':=s') ac a0.ar);have br:=hid (fun e s'=>Fb (f:=dI (dT H n) H c.u P k) (e:=e) (t':=s') ac a0.ar);have c8:=N j ac
    have c6:j<nl:=N7
    have ck:=hid (fun o dk bu b1 v Y W Q=>(a0.alloc o).next (dk:=dk) (vo1:=bu) (s1:=b1) (v:=v) Y W ac c6 Q (Nat.le_succ_of_le bX.1) bX.2.1 bX.1 (Nat.succ_ne_self _) bX.2.2.1 bX.2.2.2);have c4:=zN al nl (by rw [a0.vl];omega);clear a0 l cY a b6;generalize O[j]=x at *;go_wp2_with fail;refine (aX _).mono ?_;intro e dk aE
    rcases (d.alloc _).cn.step c8 aE with ⟨bn,s',bu,Q,rfl,Y,aj⟩ | ⟨v,b1,bu,Q,rfl,Y,aj⟩
    . exact ⟨rfl,Sr.no ((d.alloc _).fm.trans Y) (hI (br _ _ Q)) aj⟩
    . obtain ⟨c1,hN1⟩:=ck _ _ _ _ _ Y aj Q
      have aO:=hid hN1
      have bP:dk.cell? ⟨M.heap.size+1,j,none⟩=some (di ((hh al nl).getD j 0)):=by
       rw [eZ c1,uP];simp [intV,c4,c6]
      have bY:∀ i,dk.frozen? ⟨M.heap.size+1,i,none⟩=false:=fun i=>hD c1 i
      clear Q Y aj aE hN1 c1 af a4 am a5 ax;unfold fB;go_wp2_with fail;go_roundw
      case rel=>exact ⟨j+1,N7,Ou,bu,b1,al++[v],aO⟩
      case measure=>simp [intOf];omega
  . obtain rfl:j=O.length:=by omega
    have c9:=a0.ar;rw [gu] at c9;have c4:=zN al nl (by rw [a0.vl];omega);have a7:=a0.cn.below (fA wr);have c5:=hid (aP (.slice (some ⟨M.heap.size+1,0,none⟩) nl nl) (M.heap.size+1) (hh al nl) bq ay wr.drew a7.wd a7.fu (Or.inr ⟨by rw [c4],a0.lo⟩) (Nat.le_succ_of_le bX.1) (Or.inr a0.lO) ((ao.dat a0.fm ag).later (fA wr)) (by rw [c4];exact A.2.2.2));have aD:=hid (a0.fm.trans (dR.below (fA wr)));have z:=hid (bind_ok (f:=fun al s=>dT H n X t.body (hh al (nl:Int)) s) c9);obtain ⟨bF,bo,ei,e2,bw,bV⟩:=il a0.cn.cl;obtain ⟨af,a4,am,xz⟩:=nP a0.pb
    have bJ:Hid (∀ Z bu,fK B K.D (·=M.heap.size+1) bq bu wr.drew Z->Z.cell? (dj c.C 0)=some (dF B 0)/\Z.cell? (dj M.heap.size 2)=some (.slice u4 t.body.length a8)):=fun Z bu ak=>by
     have bB:=a7.ne;have bH:=a7.wd.ro.BS;have bR:=a7.wd.ro.DS;have bN:=bX.1;obtain ⟨bT, -⟩:=il ((ak.block c.C (lt_of_heap a7.cl) bB.1 bB.2.1 bX.2.2.1 a7.cO).trans a7.cl);obtain ⟨-, -,b7, -⟩:=nP ((ak.block M.heap.size (lt_of_heap a0.pb) N7 N7 (by show ¬ M.heap.size=M.heap.size+1;omega) a0.pO).trans a0.pb);exact ⟨bT,b7⟩
    clear a0 c9 a7;go_wp2_with fail
    go_region_held (fun Z=>Z.cell? (dj c.C 0)=some (dF B 0)/\Z.cell? (dj M.heap.size 2)=some (.slice u4 t.body.length a8)) (first | exact aU | go_keep)
     (first | (go_at_call 125;refine c5.mono ?_;rintro e dk ⟨bu,ak,S⟩;have bz:=hid ((aD.gm.trans ak).fm (fun b e=>by rw [show b=M.heap.size+1 from e];exact bX.2.1));rcases S.symm with ⟨bn,b1,Q,rfl,aj⟩ | ⟨v,b1,Q,rfl,aj⟩;(exact ⟨rfl,Sr.no bz (z.trans Q) aj⟩);(have aY:=hid (z.trans Q);have aS:=hid aj;have aU:=hid (bJ _ _ ak);clear ak S Q aj;unfold fB)))
    all_goals
     go_wp2_with fail
     go_returns
     exact Sr.ok (rep:=fB) bz aY aS
theorem i7 {P:Program} {ops:Array Oper} {Y:Exit->Act->World->Prop} {k:Region.Mode} {S:World->Prop} (i:Nat) {e:Oper} (v:Value) {d:Nat} {g:Array Bool} {a:Act} (V:ops[i]? = some e)
 (W:(Region.noSelect ops&&(Region.free k ops g i&&((Region.ready k ops g).contains i&&Region.wanted e (yielded ops a.tmps))))=true)
 (b:∀ c a w,Y (.panic c) (a.put e.dst v) w->Y (.panic c) a w) (a4:∀ w,S w->(execOp a.eval e).run P w = .ok (.value v) w) (aE:S w)
 (h:wpAnyH P k ops Y S d (g.setIfInBounds i true) (a.put e.dst v) w):wpAnyH P k ops Y S (d+1) g a w:=by
 exact Sn
theorem Ff {n:Nat} {c:Ca} {s:Sw} (bb:∀ a3 ∈ O,hX n B y H K k a3) (h:el n w B y H K av s c P ret) (an:dx w (·<y) E O.length (es O)) (aw:∀ a3 ∈ O,f8 H c.u P.length K.cd k a3) (X:O.length=1) (b2:1<=nn) (aA:ji H c.u K.cd m g nn) :
 dw 262 #[dF c.C 0,.agg #[di 4,di nn,di m,di g,.slice E O.length a9]] w fun e G=>Sr fB B y H K w av (dI (dT H n) H c.u P (k+1) ⟨4,nn,m,g,O⟩ s) e G:=by
 obtain ⟨b,C,aT,ky,rfl,I,bW,l,cY⟩:=jS an 0 N7;obtain ⟨D,ad,f,bi,b4⟩:=cY w rfl;simp only [gF,gQ] at D ad f bi b4
 have bK:0<O.length:=N7
 have ao:=hid (h.below (dn w (fg 4 nn m g (some (dj b C)) O.length a9)));have bh:=hid (fun G (ai:el n G B y H K av s c P ret) l=>zK (E:=aT) (a9:=ky) (bb _ (gl (i:=0) N7)) ai l (aw _ (gl N7)) b2 aA);have N:hV (hv (dI (dT H n) H c.u P k (dq O 0)) (e8 H c.u m g) nn):=vV (o7 H.lim H.lim) (n:=0) (f:=dI (dT H n) H c.u P k (dq O 0)) (iO H n c.u P k (dq O 0)) _ _;have bC:=I;have a:=h.new
 have aQ:Hid (∀ q M,dR B K.D av q (w.alloc (fg 4 nn m g (some (dj b C)) O.length a9)) M->el n M B y H K q s c P ret\/(∃ s',el n M B y H K q s' c P ret)->M.cell? (dj c.C 0)=some (dF B 0)/\M.cell? (dj B 3)=some (.slice (some (dj K.D 0)) K.cd K.cd)/\M.cell? (dj w.heap.size 1)=some (di nn)/\M.cell? (dj w.heap.size 2)=some (di m)/\M.cell? (dj w.heap.size 3)=some (di g)/\M.cell? (dj w.heap.size 4)=some (.slice (some (dj b C)) O.length a9)/\M.cell? (dj b C)=some (di (dq O 0).op)/\M.cell? ⟨b,C+1,none⟩=some (di (dq O 0).n)/\M.cell? ⟨b,C+2,none⟩=some (di (dq O 0).m)/\M.cell? ⟨b,C+3,none⟩=some (di (dq O 0).at_)/\M.cell? ⟨b,C+4,none⟩=some (.slice aT (dq O 0).args.length ky)):=fun q M Y W=>by
  obtain ⟨s',W⟩:∃ s',el n M B y H K q s' c P ret:=by
   rcases W with W | W
   . exact ⟨_,W⟩
   . exact W
  obtain ⟨af,a4,am,a5,ax, -⟩:=ep (ao.keepS Y (b:=w.heap.size) (x:=(fg 4 nn m g (some (dj b C)) O.length a9)) (heap_alloc_new w _) a.1 a.2).1;obtain ⟨bf,be,b9,bm,bk⟩:=cY M ((ao.keepB Y bC Of).trans ((dn w (fg 4 nn m g (some (dj b C)) O.length a9)).block b bW));obtain ⟨bF, -⟩:=il W.cl;simp only [gF,gQ] at bf be b9 bm bk;exact ⟨bF,W.wd.top.1,a4,am,a5,ax,bf,be,b9,bm,bk⟩
 have b0:=hid (l.later (dp (dn w (fg 4 nn m g (some (dj b C)) O.length a9)) (fA _)));have R:=hid (h.below (dp (dn w (fg 4 nn m g (some (dj b C)) O.length a9)) (fA _)))
 have r:dI (dT H n) H c.u P (k+1) ⟨4,nn,m,g,O⟩ s=(hv (dI (dT H n) H c.u P k (dq O 0)) (e8 H c.u m g) nn s).bind fun p s=>.ok (s.data.getD p.toNat 0) s:=rfl
 rw [r]
 have z:Hid (∀ p s',hv (dI (dT H n) H c.u P k (dq O 0)) (e8 H c.u m g) nn s = .ok p s'->0<=p/\p<K.cd):=fun p s' e=>by
  have b3:=aA.plc;unfold hv at e
  revert e
  cases dI (dT H n) H c.u P k (dq O 0) s with
  | stop e t=>intro e;cases e
  | ok v t=>
    exact RF
 generalize hv (dI (dT H n) H c.u P k (dq O 0)) (e8 H c.u m g) nn=F0 at *;generalize dq O 0=a3 at *;clear h bb an aw l cY X I r b2 aA D ad f bi b4;go_enter func262,ntmps262;go_upto_region 11 with fail;refine wp_region_held_drew (S:=(fun M=>M.cell? (dj c.C 0)=some (dF B 0)/\M.cell? (dj B 3)=some (.slice (some (dj K.D 0)) K.cd K.cd)/\M.cell? (dj w.heap.size 1)=some (di nn)/\M.cell? (dj w.heap.size 2)=some (di m)/\M.cell? (dj w.heap.size 3)=some (di g)/\M.cell? (dj w.heap.size 4)=some (.slice (some (dj b C)) O.length a9)/\M.cell? (dj b C)=some (di a3.op)/\M.cell? ⟨b,C+1,none⟩=some (di a3.n)/\M.cell? ⟨b,C+2,none⟩=some (di a3.m)/\M.cell? ⟨b,C+3,none⟩=some (di a3.at_)/\M.cell? ⟨b,C+4,none⟩=some (.slice aT a3.args.length ky))) (by kernel_rfl) (aQ _ _ (dR.below (fA _)) (Or.inl R)) (fun d=>?_)
 refine i7 0 (dF c.C 0) rfl (by kernel_rfl) (fun _ _ _ h=>h) (fun M ai=>by kernel_rfl) d ?_;refine i7 1 (dF c.C 0) rfl (by kernel_rfl) (fun _ _ _ h=>h) (fun M ai=>by kernel_rfl) d ?_;refine i7 2 (dF c.C 0) rfl (by kernel_rfl) (fun _ _ _ h=>h) (fun M ai=>by kernel_rfl) d ?_;refine i7 3 (dF B 0) rfl (by kernel_rfl) (fun _ _ _ h=>h) (fun M ai=>by obtain ⟨U,ay,b1,eU,bH,s5,bT,b8,b7,b6,aB⟩:=ai;go_simp) d ?_;refine i7 4 (dF B 0) rfl (by kernel_rfl) (fun _ _ _ h=>h) (fun M ai=>by kernel_rfl) d ?_;refine i7 5 (dF B 3) rfl (by kernel_rfl) (fun _ _ _ h=>h) (fun M ai=>by kernel_rfl) d ?_;refine i7 6 (.slice (some (dj K.D 0)) K.cd K.cd) rfl (by kernel_rfl) (fun _ _ _ h=>h) (fun M ai=>by obtain ⟨U,ay,b1,eU,bH,s5,bT,b8,b7,b6,aB⟩:=ai;go_simp) d ?_;refine i7 7 (dF c.C 0) rfl (by kernel_rfl) (fun _ _ _ h=>h) (fun M ai=>by kernel_rfl) d ?_
 refine i7 8 (dF w.heap.size 1) rfl (by kernel_rfl) (fun _ _ _ h=>h) (fun M ai=>by kernel_rfl) d ?_;refine i7 9 (di nn) rfl (by kernel_rfl) (fun _ _ _ h=>h) (fun M ai=>by obtain ⟨U,ay,b1,eU,bH,s5,bT,b8,b7,b6,aB⟩:=ai;go_simp) d ?_;refine i7 10 (dF w.heap.size 2) rfl (by kernel_rfl) (fun _ _ _ h=>h) (fun M ai=>by kernel_rfl) d ?_;refine i7 11 (di m) rfl (by kernel_rfl) (fun _ _ _ h=>h) (fun M ai=>by obtain ⟨U,ay,b1,eU,bH,s5,bT,b8,b7,b6,aB⟩:=ai;go_simp) d ?_;refine i7 12 (dF w.heap.size 3) rfl (by kernel_rfl) (fun _ _ _ h=>h) (fun M ai=>by kernel_rfl) d ?_;refine i7 13 (di g) rfl (by kernel_rfl) (fun _ _ _ h=>h) (fun M ai=>by obtain ⟨U,ay,b1,eU,bH,s5,bT,b8,b7,b6,aB⟩:=ai;go_simp) d ?_;refine i7 14 (dF w.heap.size 4) rfl (by kernel_rfl) (fun _ _ _ h=>h) (fun M ai=>by kernel_rfl) d ?_
 refine i7 15 (.slice (some (dj b C)) O.length a9) rfl (by kernel_rfl) (fun _ _ _ h=>h) (fun M ai=>by obtain ⟨U,ay,b1,eU,bH,s5,bT,b8,b7,b6,aB⟩:=ai;go_simp) d ?_;refine i7 16 (dF b C) rfl (by kernel_rfl) (fun _ _ _ h=>h) (fun M ai=>by obtain ⟨U,ay,b1,eU,bH,s5,bT,b8,b7,b6,aB⟩:=ai;go_simp) d ?_;refine i7 17 (.agg (tV a3 aT ky)) rfl (by kernel_rfl) (fun _ _ _ h=>h) (fun M ai=>by obtain ⟨U,ay,b1,eU,bH,s5,bT,b8,b7,b6,aB⟩:=ai;go_simp) d ?_;refine wpAnyH_ready (rs:=[18]) (by kernel_rfl) Ob ?_;refine AllReadyH.cons rfl (fun S aO=>?_) AllReadyH.nil;go_simp
 go_wp2_with (go_at_call 261;refine (bh _ R b0).mono ?_;intro e dk aE;rcases R.step N aE with ⟨bn,s',bq,Q,rfl,Y,aj⟩ | ⟨p,ay,bq,Q,rfl,Y,aj⟩;(exact ⟨rfl,Sr.no ((dR.below (dp (dn w _) (fA _))).trans Y) (hI Q) aj⟩))
 refine aO.out _ _ (aQ _ _ ((dR.below (fA _)).trans Y) (Or.inr ⟨_,aj⟩)) (fun d=>?_);clear aO S;have F:=z _ _ Q
 obtain ⟨i,rfl⟩:∃ i:Nat,p=i:=⟨p.toNat,N7⟩
 have V:i<K.cd:=N7
 have bP:=aj.wd.cell i (by rw [← aj.wd.cd];exact V);have aP:=hid (Sr.ok (rep:=fB) ((dR.below (dp (dn w _) (fA _))).trans Y) (bind_ok (f:=fun p s=>.ok (s.data.getD p.toNat 0) s) Q) aj.wd);rw [ir] at aP;generalize ay.data.getD i 0=v at *;clear Q Y aj aE F;unfold fB;refine i7 19 (dF K.D i) rfl (by kernel_rfl) (fun _ _ _ h=>h) (fun M ai=>by go_simp) d ?_;refine wpAnyH_ready (rs:=[20]) (by kernel_rfl) Ob ?_;refine AllReadyH.cons rfl (fun S aO=>?_) AllReadyH.nil;go_simp;refine aO.out _ _ d (fun d=>?_);clear aO S;refine i7 21 (di v) rfl (by kernel_rfl) (fun _ _ _ h=>h) (fun M ai=>by kernel_rfl) d ?_;refine wpAnyH_done (by kernel_rfl) ?_ _;exact QQ
theorem Fg {n:Nat} {c:Ca} {s:Sw} (bb:∀ a3 ∈ O,hX n B y H K k a3) (h:el n w B y H K av s c P ret) (an:dx w (·<y) E O.length (es O)) (aw:∀ a3 ∈ O,f8 H c.u P.length K.cd k a3) (aG:mD n B y H K) (b3:mB H K.cd) (aA:kW H c.u O.length m g) :
 dw 262 #[dF c.C 0,.agg #[di 5,di nn,di m,di g,.slice E O.length a9]] w fun e G=>Sr fB B y H K w av (dI (dT H n) H c.u P (k+1) ⟨5,nn,m,g,O⟩ s) e G:=by
 have ao:=hid (h.below (dn w (fg 5 nn m g E O.length a9)));have bh:=hid (zP (a9:=a9) bb aG b3 ao (an.later (dn w _)) aw aA);have N:hV (kt (dT H n) H c.u (dI (dT H n) H c.u P k) m g O):=vW (o7 H.lim H.lim) (n:=0) (p4 H n).ent H H.lim c.u (f:=dI (dT H n) H c.u P k) (fun x=>iO H n c.u P k x) m g O;have r:dI (dT H n) H c.u P (k+1) ⟨5,nn,m,g,O⟩ s=kt (dT H n) H c.u (dI (dT H n) H c.u P k) m g O s:=rfl;rw [r];generalize kt (dT H n) H c.u (dI (dT H n) H c.u P k) m g O=F0 at *;clear h bb an aw aG b3 aA r;go_enter func262,ntmps262;go_wp2_with fail;refine bh.mono ?_;intro e dk aE
 rcases ao.step N aE with ⟨bn,s',q,Q,rfl,Y,aj⟩ | ⟨v,s',q,Q,rfl,Y,aj⟩
 . exact ⟨rfl,Sr.no ((dR.below (dn w _)).trans Y) Q aj⟩
 . have aP:=hid (Sr.ok (rep:=fB) ((dR.below (dn w _)).trans Y) Q aj.wd)
   clear Q Y aj aE;unfold fB;exact QQ
theorem zQ {n:Nat} (aG:mD n B y H K) (b3:mB H K.cd):∀ (k:Nat) (x:dB),hX n B y H K k x
 | 0,x=>fun c P ret av s E a9 w h an aw=>aw.elim
 | k + 1,⟨T,nn,m,g,O⟩=>fun c P ret av s E a9 w h an aw=>by
   have ay:∀ a3 ∈ O,hX n B y H K k a3:=fun a3 _=>zQ aG b3 k a3
   unfold f8 at aw;have an:dx w (·<y) E O.length (es O):=an
   rcases aw with (rfl:T=1) | (rfl:T=2) | ⟨(rfl:T=16),F,J⟩ | ⟨(rfl:T=3),F⟩ | ⟨(rfl:T=4),F,J,U,aa⟩ | ⟨(rfl:T=5),F,J⟩ | ⟨(rfl:T=6),F,J⟩ | ⟨(F:7<=T),(J:T<=15),U,aa⟩
   . exact EW h
   . exact EX h
   . exact EY h F J
   . exact EZ h F
   . exact Ff ay h an aa U F J
   . exact Fg ay h an J aG b3 F
   . exact E6 ay h an J F
   . by_cases ar:T=7
     . subst ar;exact E7 ay h an aa U
     . by_cases p:T=8
       . subst p;exact E8 ay h an aa U
       . exact E9 ay h an aa U (by show 9<=T;omega) J
abbrev fE (H:Cx) (n:Nat):p2:=(jx H n).whl
abbrev Fh (x:du) (E:OA) (a9:Nat) (a0:OA) (au:Nat) (a6:OA) (k3:Nat):Array Value:=#[di x.op,di x.n,di x.m,di x.at_,.slice E x.args.length a9,.slice a0 x.body.length au,.slice a6 x.other.length k3]
def kw (c:Ca) (b:Nat):Prop:=b=c.C\/b=c.L
def gN (d:Bool × Fr):Value:=.bool d.1
def tW (_:Bool × Fr):Value:=.tuple #[]
def Sa (rep:Bool × Fr->Value) (n B y:Nat) (H:Cx) (K:Wk) (c:Ca) (w:World) (av:Value) (r:Rr (Bool × Fr)) (e:Ending) (G:World):Prop:=
 ∃ q,fK B K.D (kw c) av q w G/\((∃ k s,r = .stop k s/\e = .panicked (qU k)/\e7 G B y H K q s k)\/(∃ d s,r = .ok d s/\e = .returned (rep d)/\el n G B y H K q s c d.2.loc d.2.ret))
theorem Sa.ok {n:Nat} {c:Ca} {r:Rr (Bool × Fr)} {b:Bool} {s:Sw} (Y:fK B K.D (kw c) av q w G) (Q:r = .ok (b,⟨P,ret⟩) s) (aj:el n G B y H K q s c P ret):Sa rep n B y H K c w av r (.returned (rep (b,⟨P,ret⟩))) G:=⟨q,Y,Or.inr ⟨_,s,Q,rfl,aj⟩⟩
theorem Sa.no {n:Nat} {c:Ca} {r:Rr (Bool × Fr)} {k:Int} {s:Sw} (Y:fK B K.D (kw c) av q w G) (Q:r = .stop k s) (aj:e7 G B y H K q s k):Sa rep n B y H K c w av r (.panicked (qU k)) G:=⟨q,Y,Or.inl ⟨k,s,Q,rfl,aj⟩⟩
theorem el.gmB {n:Nat} {s:Sw} {c:Ca} (h:el n w B y H K av s c P ret) (Y:fK B K.D (kw c) av q w G) (I:b<y) (b2:b<w.heap.size):G.heap[b]? = w.heap[b]?:=by
 have F:=h.wd.ro.lB;have J:=h.wd.ro.lD;have U:=h.wd.ro.BS;have aa:=h.cS;have aB:=h.lS;exact Y.block b b2 N7 N7 (fun e=>by rcases e with e | e<;>omega) (fun e=>by have:=(h.wd.out.lt b e).1;omega)
theorem el.gdat {n:Nat} {s:Sw} {c:Ca} {a:OA} {m:Nat} {l:List Go.Proofs.YtndkhgakfodldaaGreatDoor.D} (h:el n w B y H K av s c P ret) (Y:fK B K.D (kw c) av q w G) (hd:dx w (·<y) a m l):dx G (·<y) a m l:=
 hd.moves ⟨Y.size,fun b I X=>⟨X,h.gmB Y X I⟩⟩
theorem el.gkeep {n:Nat} {s:Sw} {c:Ca} (h:el n w B y H K av s c P ret) (Y:fK B K.D (kw c) av q w G) {x:Obj} (I:w.heap[b]? = some x) (aE:K.S<=b) (ap:av.ownBlock≠some b) (W:b≠c.C) (X:b≠c.L):G.heap[b]? = some x/\q.ownBlock≠some b:=by
 have F:=h.wd.ro.BS;have J:=h.wd.ro.DS;exact ⟨(Y.block b (lt_of_heap I) N7 N7 (fun e=>by rcases e with e | e<;>omega) ap).trans I,fun e=>ap (Y.own b e (lt_of_heap I))⟩
theorem el.len {n b:Nat} {s:Sw} {c:Ca} {aN:List Int} {r:Int} (h:el n w B y H K av s c P ret) (a5:el b G B y H K q s' c aN r):aN.length=P.length:=by
 obtain ⟨a,e⟩:=h.lo.len;obtain ⟨O,a0⟩:=a5.lo.len;rw [e] at a0;simp only [Value.slice.injEq] at a0;exact a0.2.1.symm
theorem el.setD {n:Nat} {s:Sw} {c:Ca} (h:el n w B y H K av s c P ret) (i:Nat) (v:Int):el n (w.setCell (dj K.D i) (di v)) B y H K av { s with data:=s.data.set i v } c P ret/\dR B K.D av av w (w.setCell (dj K.D i) (di v)):=by
 have Y:dR B K.D av av w (w.setCell (dj K.D i) (di v)):=⟨rfl,rfl,rfl,Ob,fun b _ _ J _=>eh J _,fun _ h _=>h⟩
 obtain ⟨bD,p,aF,V,W⟩:=h.wd.blk;have F:=h.wd.ro.BD;have J:=h.wd.ro.lD;refine ⟨h.on Y ?_ (dA _),Y⟩;refine ⟨⟨bD,p,?_,V.moves ⟨Ob,fun b _ X=>⟨X,eh (by show b≠K.D;omega) _⟩⟩,W⟩,?_,iZ h.wd.out (fun k N=>eh (fun e=>h.wd.oD Pz) _),h.wd.ro.moves Ob (fun b _ _ Z=>eh (by show b≠K.D;exact Z) _),?_,?_,h.wd.tl,h.wd.tm,h.wd.cl,h.wd.ol⟩
 . refine (eh (by show B≠K.D;exact F) _).trans (aF.trans ?_)
   show some (Obj.cells (nR H K bD p av s 0) _ _)=some (Obj.cells (nR H K bD p av { s with data:=s.data.set i v } 0) _ _);unfold nR;simp only [oG]
 . rw [heap_set h.wd.data,j1]
   simp [intV,xE]
 . show K.cd=(s.data.set i v).length
   rw [oG];exact h.wd.cd
 . show (s.data.set i v).length<=512
   rw [oG];exact h.wd.dl
theorem el.setL {n:Nat} {s:Sw} {c:Ca} (h:el n w B y H K av s c P ret) (i:Nat) (V:i<P.length) (v:Int):el n (w.setCell (dj c.L i) (di v)) B y H K av s c (P.set i v) ret/\fK B K.D (kw c) av av w (w.setCell (dj c.L i) (di v)):=by
 have aX:P≠[]:=fun e=>by rw [e] at V;simp at V
 obtain ⟨J,U⟩:=h.la.resolve_left aX;refine ⟨⟨h.wd.far h.lS U _,(eh (by show c.C≠c.L;exact fun e=>J e.symm) _).trans h.cl,?_,h.cS,h.cO,h.lS,by simpa using h.lz,Or.inr ⟨J,U⟩,h.fu⟩,fK.cell (Or.inr rfl)⟩
 rcases h.lo with ⟨e,_⟩ | ⟨aJ,aI⟩
 . exact absurd e aX
 . refine Or.inr ⟨by rw [oG];exact aJ,?_⟩
   rw [heap_set aI,j1];simp [intV,xE]
theorem el.setR {n:Nat} {s:Sw} {c:Ca} (h:el n w B y H K av s c P ret) (v:Int):el n (w.setCell (dj c.C 3) (di v)) B y H K av s c P v/\fK B K.D (kw c) av av w (w.setCell (dj c.C 3) (di v)):=by
 refine ⟨⟨h.wd.far h.cS h.cO _,?_,h.lo.moves ?_,h.cS,h.cO,h.lS,by simpa using h.lz,h.la,h.fu⟩,fK.cell (Or.inl rfl)⟩
 . unfold Cl
   rw [heap_set h.cl]
   rfl
 . rcases h.la with e | ⟨e,_⟩
   . exact Or.inl e
   . exact Or.inr (eh e _)
def nh (l:Sw->Rr Int) (H:Cx) (u:Nat) (m g:Int) (c:Fr) (s:Sw):Rr (Bool × Fr):=(l s).bind fun v s=>if m = -1 then .ok (false,{ c with loc:=c.loc.set g.toNat v }) s else .ok (false,c) { s with data:=s.data.set (e8 H u m g).toNat v }
theorem Fi {n:Nat} {c:Ca} {s:Sw} (bb:∀ a3 ∈ O,hX n B y H K 6 a3) (h:el n w B y H K av s c P ret) (an:dx w (·<y) E O.length (es O)) (aw:∀ a3 ∈ O,f8 H c.u P.length K.cd 6 a3) (X:O.length=1) (a1:m = -1) (ab:0<=g) (F:g<P.length) :
 dw 260 #[dF c.C 0,.agg #[di T,di nn,di m,di g,.slice E O.length a9,.slice a0 ac.length au,.slice a6 Z.length k3]] w fun e G=>Sa tW n B y H K c w av (nh (dI (dT H n) H c.u P 6 (dq O 0)) H c.u m g ⟨P,ret⟩ s) e G:=by
 subst a1
 obtain ⟨i,rfl⟩:∃ i:Nat,g=i:=⟨g.toNat,N7⟩
 have V:i<P.length:=N7
 have ca:=h.lz;clear ab F;obtain ⟨b,C,aT,ky,rfl,I,bW,l,cY⟩:=jS an 0 N7;obtain ⟨D,ad,f,bi,b4⟩:=cY w rfl;simp only [gF,gQ] at D ad f bi b4 cY
 have bK:0<O.length:=N7
 have ao:=hid (h.below (dn w (ek T nn (-1) (i:Int) (some (dj b C)) O.length a9 a0 ac.length au a6 Z.length k3)));have bh:=hid (bb _ (gl (i:=0) N7) c P ret av s aT ky _ (h.below (dn w (ek T nn (-1) (i:Int) (some (dj b C)) O.length a9 a0 ac.length au a6 Z.length k3))) (l.later (dn w _)) (aw _ (gl N7)));have N:=iO H n c.u P 6 (dq O 0);have ag:=hid (fun q dk (Y:dR B K.D av q (w.alloc (ek T nn (-1) (i:Int) (some (dj b C)) O.length a9 a0 ac.length au a6 Z.length k3)) dk)=>(ao.keepS Y (b:=w.heap.size) (x:=(ek T nn (-1) (i:Int) (some (dj b C)) O.length a9 a0 ac.length au a6 Z.length k3)) (heap_alloc_new w _) h.new.1 h.new.2).1);generalize dI (dT H n) H c.u P 6 (dq O 0)=F0 at *;generalize dq O 0=a3 at *;clear h bb an aw l cY X I;go_enter func260,ntmps260
 go_wp2_with fail;refine bh.mono ?_;intro e dk aE
 rcases ao.step N aE with ⟨bn,s',bq,Q,rfl,Y,aj⟩ | ⟨v,ay,bq,Q,rfl,Y,aj⟩
 . exact Rp
 . have aD:=hid (((dR.below (dn w _)).trans Y).gm (X:=kw c))
   have aS:=hid aj;obtain ⟨af,a4,am,a5,ax,aG,u,xz⟩:=jI (ag _ _ Y);unfold fB;have z:Hid (nh F0 H c.u (-1) (i:Int) ⟨P,ret⟩ s = .ok (false,⟨P.set i v,ret⟩) ay):=(bind_ok Q).trans (if_pos rfl);obtain ⟨a,aQ,bP⟩:=aj.lo.cell i V;have bj:=aj.cl;rw [a] at bj;obtain ⟨bF,bo,ei,e2,bw,bV⟩:=il bj
   have bY:∀ j,dk.frozen? (dj c.L j)=false:=by
    rcases aj.lo with ⟨e,_⟩ | ⟨_,aI⟩
    . rw [e] at V;simp at V
    . exact fun j=>hD aI j
   have aP:=hid (fun M (ai:dm dk M)=>(aj.below ai).setL i V v)
   have bB:c.L≠c.C:=by
    rcases aj.la with e | e
    . rw [e] at V;simp at V
    . exact e.1
   have bH:c.L≠w.heap.size:=fun e=>by have:=ca;omega
   clear Q Y aj aE bh ag bj a bF bo e2 af a4 ax aG u xz aS;generalize P.length=ln at *;go_wp2_with fail
   go_region_held (fun M=>M.cell? (dj c.C 2)=some (.slice (some (dj c.L 0)) ln ln)/\M.cell? (dj w.heap.size 3)=some (di i)) (go_keep) (fail)
   go_wp2_with fail;go_end0;exact Sa.ok (aD.trans ((dR.below (fA dk)).gm.trans (aP _ (fA dk)).2)) z (aP _ (fA dk)).1
theorem Fj {n:Nat} {c:Ca} {s:Sw} (bb:∀ a3 ∈ O,hX n B y H K 6 a3) (h:el n w B y H K av s c P ret) (an:dx w (·<y) E O.length (es O)) (aw:∀ a3 ∈ O,f8 H c.u P.length K.cd 6 a3) (X:O.length=1) (a1:m≠-1) (aA:ji H c.u K.cd m g 1) :
 dw 260 #[dF c.C 0,.agg #[di T,di nn,di m,di g,.slice E O.length a9,.slice a0 ac.length au,.slice a6 Z.length k3]] w fun e G=>Sa tW n B y H K c w av (nh (dI (dT H n) H c.u P 6 (dq O 0)) H c.u m g ⟨P,ret⟩ s) e G:=by
 have o:(m == -1)=false:=beq_eq_false_iff_ne.2 a1;have b3:=aA.plc;have a7:=h.wd.cd;have bZ:=h.wd.dl;have A:=hid aA;have L:=hid a1;have a:=h.new.1;clear aA a1;obtain ⟨b,C,aT,ky,rfl,I,bW,l,cY⟩:=jS an 0 N7;obtain ⟨D,ad,f,bi,b4⟩:=cY w rfl;simp only [gF,gQ] at D ad f bi b4 cY
 have bK:0<O.length:=N7
 have ao:=hid (h.below (dn w (ek T nn m g (some (dj b C)) O.length a9 a0 ac.length au a6 Z.length k3)));have bh:=hid (bb _ (gl (i:=0) N7) c P ret av s aT ky _ (h.below (dn w (ek T nn m g (some (dj b C)) O.length a9 a0 ac.length au a6 Z.length k3))) (l.later (dn w _)) (aw _ (gl N7)));have N:=iO H n c.u P 6 (dq O 0);have ag:=hid (fun q dk (Y:dR B K.D av q (w.alloc (ek T nn m g (some (dj b C)) O.length a9 a0 ac.length au a6 Z.length k3)) dk)=>(ao.keepS Y (b:=w.heap.size) (x:=(ek T nn m g (some (dj b C)) O.length a9 a0 ac.length au a6 Z.length k3)) (heap_alloc_new w _) h.new.1 h.new.2).1);generalize dI (dT H n) H c.u P 6 (dq O 0)=F0 at *;generalize dq O 0=a3 at *;clear h bb an aw l cY X I;go_enter func260,ntmps260;go_wp2_with fail
 refine bh.mono ?_;intro e dk aE
 rcases ao.step N aE with ⟨bn,s',bq,Q,rfl,Y,aj⟩ | ⟨v,ay,bq,Q,rfl,Y,aj⟩
 . exact Rp
 . have aD:=hid (((dR.below (dn w _)).trans Y).gm (X:=kw c))
   have aS:=hid aj;obtain ⟨af,a4,am,a5,ax,aG,u,xz⟩:=jI (ag _ _ Y);unfold fB;have z:Hid (nh F0 H c.u m g ⟨P,ret⟩ s = .ok (false,⟨P,ret⟩) { ay with data:=ay.data.set (e8 H c.u m g).toNat v }):=(bind_ok Q).trans (if_neg L);have J:=hid (wj (aj.below (fA dk)).wd (aj.below (fA dk)).cl A N7);obtain ⟨bF,bo,ei,e2,bw,bV⟩:=il aj.cl;obtain ⟨aW,b5,dz⟩:=aj.wd.top;have d:=aj.wd.cd;have bP:=aj.wd.cell (e8 H c.u m g).toNat N7
   have bY:∀ j,dk.frozen? (dj K.D j)=false:=fun j=>hD aj.wd.data j
   have aX:=aj.ne
   have bB:K.D≠c.C:=fun e=>aX.2.1 e.symm
   have bH:K.D≠B:=fun e=>aj.wd.ro.BD e.symm
   have bR:K.D≠w.heap.size:=fun e=>by have:=ao.wd.ro.DS;have:=a;omega
   have aP:=hid (fun M (ai:dm dk M)=>(aj.below ai).setD (e8 H c.u m g).toNat v);clear Q Y aj aE bh ag aX d bo ei e2 af a4 ax aG u xz;generalize e8 H c.u m g=p at *
   obtain ⟨i,rfl⟩:∃ i:Nat,p=i:=⟨p.toNat,N7⟩
   rw [ir] at z bP aP
   have V:i<K.cd:=N7
   clear b3 a7 bZ;generalize K.cd=aH at *;go_wp2_with fail
   go_region_held (fun M=>M.cell? (dj c.C 0)=some (dF B 0)/\M.cell? (dj B 3)=some (.slice (some (dj K.D 0)) aH aH)/\M.cell? (dj w.heap.size 2)=some (di m)/\M.cell? (dj w.heap.size 3)=some (di g)) (go_keep) (first | (go_at_call 289;refine J.mono ?_;rintro e G ⟨rfl,R,rfl⟩))
   go_wp2_with fail;go_end0;exact Sa.ok (aD.trans ((dR.below (fQ dk _)).gm.trans (aP _ (fQ dk _)).2.gm)) z (aP _ (fQ dk _)).1
def zR (n B y:Nat) (H:Cx) (K:Wk) (k:Nat) (a:du):Prop:=∀ (c:Ca) (P:List Int) (ret:Int) (av:Value) (s:Sw) (E:OA) (a9:Nat) (a0:OA) (au:Nat) (a6:OA) (k3:Nat) (w:World),el n w B y H K av s c P ret->dx w (·<y) E a.args.length (es a.args)->dx w (·<y) a0 a.body.length (eJ a.body)->dx w (·<y) a6 a.other.length (eJ a.other)->gM H c.u P.length K.cd k a->
 dw 208 #[dF c.C 0,.agg (Fh a E a9 a0 au a6 k3)] w fun e G=>Sa gN n B y H K c w av (eT (dT H n) (fE H n) H c.u k a ⟨P,ret⟩ s) e G
def pa (n B y:Nat) (H:Cx) (K:Wk) (k:Nat) (l:List du):Prop:=∀ (c:Ca) (P:List Int) (ret:Int) (av:Value) (s:Sw) (a:OA) (p:Nat) (w:World),el n w B y H K av s c P ret->dx w (·<y) a l.length (eJ l)->(∀ x ∈ l,gM H c.u P.length K.cd k x)->
 dw 168 #[dF c.C 0,.slice a l.length p] w fun e G=>Sa gN n B y H K c w av (g5 (eT (dT H n) (fE H n) H c.u k) l ⟨P,ret⟩ s) e G
theorem fK.refl (B D:Nat) (X:Nat->Prop) (av:Value) (w:World):fK B D X av av w w:=(dR.refl B D av w).gm
theorem zT {n:Nat} {l:List du} (aO:∀ x ∈ l,zR n B y H K k x):pa n B y H K k l:=by
 intro c P ret av s a p w h an aw;have bK:=an.bound;have b0:=hid an;have t:=hid h;have aR:=hid aO;have aV:=hid aw
 obtain ⟨ap,hR0⟩:∃ ap,ap=g5 (eT (dT H n) (fE H n) H c.u k) l ⟨P,ret⟩ s:=⟨_,rfl⟩
 have aI:=hid hR0;rw [← hR0];clear an h aO aw hR0;go_enter func168,ntmps168;go_wp2_with fail
 go_loopw [9] (fun i wr=>∃ j:Nat,j<=l.length/\i=di j/\∃ q s' aN r,fK B K.D (kw c) av q w wr/\el n wr B y H K q s' c aN r/\ap=g5 (eT (dT H n) (fE H n) H c.u k) (l.drop j) ⟨aN,r⟩ s') (fun i _=>l.length - (intOf i).toNat)
 case atStart=>exact ⟨0,dY _,rfl,av,s,P,ret,fK.refl _ _ _ _ _,t,aI⟩
 case round=>
  obtain ⟨j,a2,rfl,bq,ay,loc1,ret1,ak,W,Q⟩:=hrel;have bz:=hid ak;have aS:=hid W
  by_cases ac:j<l.length
  . obtain ⟨b,C,u1,aF,u2,aM,u3,bl,rfl,S⟩:=(t.gdat ak b0).ac j ac
    obtain ⟨bb,af,a4,am,a5,ax,aG,u,aT,aU,bh,_,_,_,_⟩:=S;have aX:=hid (fun o=>aR l[j] (eb ac) c loc1 ret1 bq ay u1 aF u2 aM u3 bl _ (W.below (dn wr o)) (aT.later (dn wr o)) (aU.later (dn wr o)) (bh.later (dn wr o)) (by rw [t.out.len W];exact aV _ (eb ac)))
    have z:Hid (ap=(eT (dT H n) (fE H n) H c.u k l[j] ⟨loc1,ret1⟩ ay).bind fun d s=>if d.1=true then .ok (true,d.2) s else g5 (eT (dT H n) (fE H n) H c.u k) (l.drop (j+1)) d.2 s):=by
     show _=_;rw [Q,qw ac]
     rfl
    clear ak W Q aT aU bh;generalize l[j]=x at *;go_wp2_with fail;refine (aX _).mono ?_;rintro e dk ⟨bu,f,⟨bn,s',a7,rfl,aj⟩ | ⟨⟨a8,dl,dr⟩,s',a7,rfl,aj⟩⟩
    . exact ⟨rfl,Sa.no (bz.trans ((dR.below (dn wr _)).gm.trans f)) (z.trans (hI a7)) aj⟩
    . have L:=hid (bz.trans ((dR.below (dn wr _)).gm.trans f))
      have aY:=hid (z.trans (bind_ok a7));have U:=hid aj;clear f a7 aj af a4 am a5 ax aG u;unfold gN
      cases a8 with
      | true=>
        go_wp2_with fail
        go_returns
        exact Sa.ok (rep:=gN) L (aY.trans (if_pos (by trivial))) U
      | false=>
        go_wp2_with fail;go_roundw
        case rel=>exact ⟨j+1,N7,Ou,bu,s',dl,dr,L,U,aY.trans (if_neg Ob)⟩
        case measure=>simp [intOf];omega
  . obtain rfl:j=l.length:=by omega
    have z:Hid (ap = .ok (false,⟨loc1,ret1⟩) ay):=by
     show _=_;rw [Q,List.drop_length]
     rfl
    clear ak W Q;go_wp2_with fail
    go_returns
    exact Sa.ok (rep:=gN) bz z aS
theorem el.up {n m:Nat} {s:Sw} {c:Ca} (h:el m w B y H K av s c P ret) (a1:m<=n):el n w B y H K av s c P ret:=⟨h.wd,h.cl,h.lo,h.cS,h.cO,h.lS,h.lz,h.la,fZ h.fu (Nat.add_le_add_left a1 _)⟩
def wq (B:Nat) (w:World):Nat:=match w.cell? ⟨B,7,none⟩ with
 | some (.int _ t)=>t.toNat
 | _=>0
theorem e7.tk {s:Sw} (h:e7 w B y H K av s e):wq B w=s.ticks:=by
 obtain ⟨bD,p,I, -, -⟩:=h.blk;obtain ⟨aH,az,aK,aW,bg,q5,q6,q7, -⟩:=jt I;unfold wq;rw [q7];exact ir _
theorem Fk (q:Nat):hV (iM q):=fun s=>by
 by_cases X:s.ticks=q
 . rw [sw X];exact he.refl s
 . rw [q0 X];exact ⟨pw _,rfl,id,rT _⟩
theorem Fl (H:Cx) (n u k:Nat) (l:List du) (c:Fr):hV (g5 (eT (dT H n) (fE H n) H u k) l c):=qZ (o7 H.lim H.lim) (tL (o7 H.lim H.lim) (p4 H n).ent H H.lim (p4 H n).whl u k) l c
theorem Fm (H:Cx) (n u:Nat) (x:dB) (ac:List du) (c:Fr) (s:Sw):fE H (n+1) u x ac c s=(im (dI (dT H (n+1)) H u c.loc 6 x) s).bind fun b s=>if b=true then (iM H.lim s).bind fun _ s=>(g5 (eT (dT H n) (fE H n) H u 6) ac c s).bind fun d s=>if d.1=true then .ok (true,d.2) s else fE H n u x ac d.2 s else .ok (false,c) s:=by
 have e:fE H (n+1) u x ac c s=(dI (dT H (n+1)) H u c.loc 6 x s).bind fun v s=>if v=0 then .ok (false,c) s else (iM H.lim s).bind fun _ s=>(g5 (eT (dT H n) (fE H n) H u 6) ac c s).bind fun d s=>if d.1=true then .ok (true,d.2) s else fE H n u x ac d.2 s:=by
  unfold fE dT;rw [sv]
  rfl
 rw [e];unfold im
 cases dI (dT H (n+1)) H u c.loc 6 x s with
 | stop e t=>rfl
 | ok v t=>
   show ite (v=0) _ _=ite ((v != 0)=true) _ _
   by_cases af:v=0
   . rw [if_pos af,if_neg (by simp [af])]
   . rw [if_neg af,if_pos (by simp [af])]
theorem el.down {n:Nat} {s:Sw} {c:Ca} {a:Unit} (h:el (n+1) w B y H K av s c P ret) (a5:el (n+1) G B y H K q s' c P ret) (Q:iM H.lim s = .ok a s'):el n G B y H K q s' c P ret/\s'.ticks=s.ticks+1:=by
 have F:=h.fu
 have e:s'.ticks=s.ticks+1:=by
  exact Sq
 exact ⟨⟨a5.wd,a5.cl,a5.lo,a5.cS,a5.cO,a5.lS,a5.lz,a5.la,N7⟩,e⟩
theorem Fo {n:Nat} {c:Ca} {s:Sw} (bb:∀ m≤n,∀ a3 ∈ O,hX m B y H K 6 a3) (aF:∀ m<n,pa m B y H K 6 ac) (h:el n w B y H K av s c P ret) (an:dx w (·<y) E O.length (es O)) (d:dx w (·<y) a0 ac.length (eJ ac)) (aw:∀ a3 ∈ O,f8 H c.u P.length K.cd 6 a3) (X:O.length=1) (b6:∀ x ∈ ac,gM H c.u P.length K.cd 6 x) :
 dw 265 #[dF c.C 0,.agg #[di T,di nn,di m,di g,.slice E O.length a9,.slice a0 ac.length au,.slice a6 Z.length k3]] w fun e G=>Sa gN n B y H K c w av (fE H n c.u (dq O 0) ac ⟨P,ret⟩ s) e G:=by
 obtain ⟨b,C,aT,ky,rfl,I,bW,l,cY⟩:=jS an 0 N7;obtain ⟨D,ad,f,bi,b4⟩:=cY w rfl;simp only [gF,gQ] at D ad f bi b4 cY
 have bK:0<O.length:=N7
 have ao:=hid (h.below (dn w (ek T nn m g (some (dj b C)) O.length a9 a0 ac.length au a6 Z.length k3)));have t:=hid h;have bh:=hid (fun m (a1:m<=n) aN (aa:aN.length=P.length) r q s' G (W:el m G B y H K q s' c aN r) l=>qe (E:=aT) (a9:=ky) (bb m a1 _ (gl (i:=0) N7)) W l (by rw [aa];exact aw _ (gl N7)));have ag:=hid (fun m (a1:m<n) aN (aa:aN.length=P.length) r q s' G (W:el m G B y H K q s' c aN r) aU=>aF m a1 c aN r q s' a0 au G W aU (by rw [aa];exact b6))
 have aZ:Hid (∀ q wr,fK B K.D (kw c) av q (w.alloc (ek T nn m g (some (dj b C)) O.length a9 a0 ac.length au a6 Z.length k3)) wr->wr.heap[w.heap.size]? = some (ek T nn m g (some (dj b C)) O.length a9 a0 ac.length au a6 Z.length k3)/\q.ownBlock≠some w.heap.size/\zL wr b C (dq O 0) aT ky/\dx wr (·<y) aT (dq O 0).args.length (es (dq O 0).args)/\dx wr (·<y) a0 ac.length (eJ ac)):=fun q wr ak=>by
  have F:=lt_of_heap h.cl;have J:=h.lz;obtain ⟨a9,au⟩:=ao.gkeep ak (b:=w.heap.size) (x:=(ek T nn m g (some (dj b C)) O.length a9 a0 ac.length au a6 Z.length k3)) (heap_alloc_new w _) h.new.1 h.new.2 N7 N7;exact ⟨a9,au,cY wr ((ao.gmB ak I Of).trans ((dn w _).block b bW)),ao.gdat ak (l.later (dn w _)),ao.gdat ak (d.later (dn w _))⟩
 have aO:∀ m aN,hV (im (dI (dT H m) H c.u aN 6 (dq O 0))):=fun m aN=>qd (iO H m c.u aN 6 (dq O 0))
 obtain ⟨ap,hR0⟩:∃ ap,ap=fE H n c.u (dq O 0) ac ⟨P,ret⟩ s:=⟨_,rfl⟩
 have aI:=hid hR0;rw [← hR0];generalize dq O 0=a3 at *;clear h bb aF an d aw l cY X I b6 hR0 D ad f bi b4;go_enter func265,ntmps265;go_wp2_with fail
 go_loopw [] (fun wr=>∃ R q s' aN r,R<=n/\fK B K.D (kw c) av q (w.alloc (ek T nn m g (some (dj b C)) O.length a9 a0 ac.length au a6 Z.length k3)) wr/\el R wr B y H K q s' c aN r/\ap=fE H R c.u a3 ac ⟨aN,r⟩ s') (fun wr=>H.lim - wq B wr)
 case atStart=>exact ⟨n,av,s,P,ret,dA _,fK.refl _ _ _ _ _,ao,aI⟩
 case round =>
  obtain ⟨bB,bq,ay,loc1,ret1,aq,ak,W,Q⟩:=hrel
  cases bB with
  | zero=>exact absurd W.fu (by have:=W.wd.tl;omega)
  | succ b0=>
  have bz:=hid ak;have aS:=hid W;obtain ⟨a,aQ,⟨D,ad,f,bi,b4⟩,dy,aU⟩:=aZ _ _ ak;obtain ⟨af,a4,am,a5,ax,aG,u,xz⟩:=jI a;have aL:=hid (bh (b0+1) aq loc1 (t.len W) ret1 bq ay wr W dy);have z:=hid (Q.trans (Fm ..));have N:=aO (b0+1) loc1;clear ak W Q dy aU a aQ;generalize im (dI (dT H (b0+1)) H c.u loc1 6 a3)=F0 at *;go_wp2_with fail;refine aL.mono ?_;intro e dk aE
  rcases aS.step N aE with ⟨bn,s',bu,Q,rfl,Y,aj⟩ | ⟨v,b1,bu,Q,rfl,Y,aj⟩
  . exact ⟨rfl,Sa.no ((dR.below (dn w _)).gm.trans (bz.trans Y.gm)) (z.trans (hI Q)) aj⟩
  . have L :=hid (bz.trans Y.gm)
    have aY:=hid (z.trans (bind_ok Q));have U:=hid aj
    have k:ay.ticks<=b1.ticks:=by
     have:=(N ay).2.2.2;exact SI
    obtain ⟨bF,bo,ei,e2,bw,bV⟩:=il aj.cl;clear Q Y aj aE D ad f bi b4 af a4 am a5 ax aG u xz;unfold n8
    cases v with
    | false=>
      go_wp2_with fail
      go_returns
      exact Sa.ok (rep:=gN) ((dR.below (dn w _)).gm.trans L) (aY.trans (if_neg Ob)) (U.up aq)
    | true =>
      have aM:=hid (tick_any B y H K bu b1 dk U.wd);go_wp2_with fail;refine aM.mono ?_;intro e w2 aE
      rcases U.step (Fk _) aE with ⟨bn,s',vo3,Q,rfl,Y,aj⟩ | ⟨v,eU,vo3,Q,rfl,Y,aj⟩
      . exact ⟨rfl,Sa.no ((dR.below (dn w _)).gm.trans (L.trans Y.gm)) (aY.trans ((if_pos (by trivial)).trans (hI Q))) aj⟩
      . obtain ⟨i,ht3⟩:=U.down aj Q
        have j:=hid (L.trans Y.gm);have b3:=hid (aY.trans ((if_pos (by trivial)).trans (bind_ok Q)));have A:=hid i;obtain ⟨a,aQ, -, -,aU⟩:=aZ _ _ j;obtain ⟨af,a4,am,a5,ax,aG,u,xz⟩:=jI a;have b9:=hid (ag b0 N7 loc1 (t.len i) ret1 vo3 eU w2 i aU);clear Q Y aj i aE aU a aQ bF bo ei e2 bw bV;unfold tw;go_wp2_with fail;refine b9.mono ?_;rintro e dC ⟨M,hg4,⟨bn,s',a7,rfl,aj⟩ | ⟨⟨a8,dl,dr⟩,bH,a7,rfl,aj⟩⟩
        . exact ⟨rfl,Sa.no ((dR.below (dn w _)).gm.trans (j.trans hg4)) (b3.trans (hI a7)) aj⟩
        . have o:=hid (j.trans hg4)
          have al:=hid (b3.trans (bind_ok a7));have aJ:=hid aj
          have p:eU.ticks<=bH.ticks:=by
           have:=(Fl H b0 c.u 6 ac ⟨loc1,ret1⟩ eU).2.2.2;rw [a7] at this;exact this
          clear hg4 a7 aj af a4 am a5 ax aG u xz;unfold gN
          cases a8 with
          | true=>
            go_wp2_with fail
            go_returns
            exact Sa.ok (rep:=gN) ((dR.below (dn w _)).gm.trans o) (al.trans (if_pos (by trivial))) (aJ.up N7)
          | false=>
            go_wp2_with fail;go_roundw
            case rel=>exact ⟨b0,M,bH,dl,dr,N7,o,aJ,al.trans (if_neg Ob)⟩
            case measure=>
             rw [aJ.out.wd.tk,aS.out.wd.tk];have:=aJ.wd.tl;omega
theorem Fp {n:Nat} {c:Ca} {s:Sw} (bb:∀ a3 ∈ O,hX n B y H K 6 a3) (h:el n w B y H K av s c P ret) (an:dx w (·<y) E O.length (es O)) (aw:∀ a3 ∈ O,f8 H c.u P.length K.cd 6 a3) (X:O.length=1) (a1:m = -1) (ab:0<=g) (F:g<P.length) :
 dw 208 #[dF c.C 0,.agg #[di 1,di nn,di m,di g,.slice E O.length a9,.slice a0 ac.length au,.slice a6 Z.length k3]] w fun e G=>Sa gN n B y H K c w av (eT (dT H n) (fE H n) H c.u (k+1) ⟨1,nn,m,g,O,ac,Z⟩ ⟨P,ret⟩ s) e G:=by
 have ao:=hid (h.below (dn w (ek 1 nn m g E O.length a9 a0 ac.length au a6 Z.length k3)));have bh:=hid (Fi (T:=1) (nn:=nn) (a9:=a9) (ac:=ac) (Z:=Z) (a0:=a0) (au:=au) (a6:=a6) (k3:=k3) bb ao (an.later (dn w _)) aw X a1 ab F);have z:Hid (eT (dT H n) (fE H n) H c.u (k+1) ⟨1,nn,m,g,O,ac,Z⟩ ⟨P,ret⟩ s=nh (dI (dT H n) H c.u P 6 (dq O 0)) H c.u m g ⟨P,ret⟩ s):=rfl
 have br:Hid (∀ b s',nh (dI (dT H n) H c.u P 6 (dq O 0)) H c.u m g ⟨P,ret⟩ s = .ok b s'->b.1=false):=fun b s' e=>by
  exact Q5
 clear h bb an aw X a1 ab F;exact QJ
theorem Fq {n:Nat} {c:Ca} {s:Sw} (bb:∀ a3 ∈ O,hX n B y H K 6 a3) (h:el n w B y H K av s c P ret) (an:dx w (·<y) E O.length (es O)) (aw:∀ a3 ∈ O,f8 H c.u P.length K.cd 6 a3) (X:O.length=1) (a1:m≠-1) (aA:ji H c.u K.cd m g 1) :
 dw 208 #[dF c.C 0,.agg #[di 1,di nn,di m,di g,.slice E O.length a9,.slice a0 ac.length au,.slice a6 Z.length k3]] w fun e G=>Sa gN n B y H K c w av (eT (dT H n) (fE H n) H c.u (k+1) ⟨1,nn,m,g,O,ac,Z⟩ ⟨P,ret⟩ s) e G:=by
 have ao:=hid (h.below (dn w (ek 1 nn m g E O.length a9 a0 ac.length au a6 Z.length k3)));have bh:=hid (Fj (T:=1) (nn:=nn) (a9:=a9) (ac:=ac) (Z:=Z) (a0:=a0) (au:=au) (a6:=a6) (k3:=k3) bb ao (an.later (dn w _)) aw X a1 aA);have z:Hid (eT (dT H n) (fE H n) H c.u (k+1) ⟨1,nn,m,g,O,ac,Z⟩ ⟨P,ret⟩ s=nh (dI (dT H n) H c.u P 6 (dq O 0)) H c.u m g ⟨P,ret⟩ s):=rfl
 have br:Hid (∀ b s',nh (dI (dT H n) H c.u P 6 (dq O 0)) H c.u m g ⟨P,ret⟩ s = .ok b s'->b.1=false):=fun b s' e=>by
  exact Q5
 clear h bb an aw X a1 aA;exact QJ
theorem Fs {n:Nat} {c:Ca} {s:Sw} (bb:∀ a3 ∈ O,hX n B y H K 6 a3) (h:el n w B y H K av s c P ret) (an:dx w (·<y) E O.length (es O)) (aw:∀ a3 ∈ O,f8 H c.u P.length K.cd 6 a3) (aG:mD n B y H K) (b3:mB H K.cd) (aA:kW H c.u O.length m g) :
 dw 208 #[dF c.C 0,.agg #[di 3,di nn,di m,di g,.slice E O.length a9,.slice a0 ac.length au,.slice a6 Z.length k3]] w fun e G=>Sa gN n B y H K c w av (eT (dT H n) (fE H n) H c.u (k+1) ⟨3,nn,m,g,O,ac,Z⟩ ⟨P,ret⟩ s) e G:=by
 have ao:=hid (h.below (dn w (ek 3 nn m g E O.length a9 a0 ac.length au a6 Z.length k3)));have bh:=hid (zP (a9:=a9) bb aG b3 ao (an.later (dn w _)) aw aA);have N:hV (kt (dT H n) H c.u (dI (dT H n) H c.u P 6) m g O):=vW (o7 H.lim H.lim) (n:=0) (p4 H n).ent H H.lim c.u (f:=dI (dT H n) H c.u P 6) (fun x=>iO H n c.u P 6 x) m g O
 have r:eT (dT H n) (fE H n) H c.u (k+1) ⟨3,nn,m,g,O,ac,Z⟩ ⟨P,ret⟩ s=(kt (dT H n) H c.u (dI (dT H n) H c.u P 6) m g O s).bind fun _ s=>.ok (false,⟨P,ret⟩) s:=rfl
 rw [r];generalize kt (dT H n) H c.u (dI (dT H n) H c.u P 6) m g O=F0 at *;clear h bb an aw aG b3 aA r;go_enter func208,ntmps208;go_wp2_with fail;refine bh.mono ?_;intro e dk aE
 rcases ao.step N aE with ⟨bn,s',bq,Q,rfl,Y,aj⟩ | ⟨v,ay,bq,Q,rfl,Y,aj⟩
 . exact Rp
 . have aP:=hid (Sa.ok (rep:=gN) ((dR.below (dn w _)).trans Y).gm (bind_ok (f:=fun _ s=>Rr.ok (false,Fr.mk P ret) s) Q) aj)
   clear Q Y aj aE;unfold fB;exact QQ
theorem Ft {n:Nat} {c:Ca} {s:Sw} (bb:∀ a3 ∈ O,hX n B y H K 6 a3) (h:el n w B y H K av s c P ret) (an:dx w (·<y) E O.length (es O)) (aw:∀ a3 ∈ O,f8 H c.u P.length K.cd 6 a3) (ai:∀ w:World,el n w B y H K av s c P ret->dx w (·<y) E O.length (es O)->dx w (·<y) a0 ac.length (eJ ac)->dw 265 #[dF c.C 0,.agg #[di 5,di nn,di m,di g,.slice E O.length a9,.slice a0 ac.length au,.slice a6 Z.length k3]] w fun e G=>Sa gN n B y H K c w av (fE H n c.u (dq O 0) ac ⟨P,ret⟩ s) e G) (d:dx w (·<y) a0 ac.length (eJ ac)) :
 dw 208 #[dF c.C 0,.agg #[di 5,di nn,di m,di g,.slice E O.length a9,.slice a0 ac.length au,.slice a6 Z.length k3]] w fun e G=>Sa gN n B y H K c w av (eT (dT H n) (fE H n) H c.u (k+1) ⟨5,nn,m,g,O,ac,Z⟩ ⟨P,ret⟩ s) e G:=by
 have ao:=hid (h.below (dn w (ek 5 nn m g E O.length a9 a0 ac.length au a6 Z.length k3)));have bh:=hid (ai _ ao (an.later (dn w _)) (d.later (dn w _)));have z:Hid (eT (dT H n) (fE H n) H c.u (k+1) ⟨5,nn,m,g,O,ac,Z⟩ ⟨P,ret⟩ s=fE H n c.u (dq O 0) ac ⟨P,ret⟩ s):=rfl;clear h bb an aw ai d;go_enter func208,ntmps208;go_wp2_with fail;refine bh.mono ?_;rintro e dk ⟨bq,ak,⟨bn,s',Q,rfl,aj⟩ | ⟨⟨a8,dl,dr⟩,s',Q,rfl,aj⟩⟩
 . exact ⟨rfl,Sa.no ((dR.below (dn w _)).gm.trans ak) (z.trans Q) aj⟩
 . have aP:=hid (Sa.ok (rep:=gN) ((dR.below (dn w _)).gm.trans ak) (z.trans Q) aj)
   clear ak Q aj;unfold gN;exact QQ
theorem Fu {n:Nat} {c:Ca} {s:Sw} (bb:∀ a3 ∈ O,hX n B y H K 6 a3) (h:el n w B y H K av s c P ret) (an:dx w (·<y) E O.length (es O)) (aw:∀ a3 ∈ O,f8 H c.u P.length K.cd 6 a3) (X:O.length=1) (aF:pa n B y H K k ac) (b6:pa n B y H K k Z) (aN:∀ x ∈ ac,gM H c.u P.length K.cd k x) (aW:∀ x ∈ Z,gM H c.u P.length K.cd k x) (d:dx w (·<y) a0 ac.length (eJ ac)) (p:dx w (·<y) a6 Z.length (eJ Z)) :
 dw 208 #[dF c.C 0,.agg #[di 4,di nn,di m,di g,.slice E O.length a9,.slice a0 ac.length au,.slice a6 Z.length k3]] w fun e G=>Sa gN n B y H K c w av (eT (dT H n) (fE H n) H c.u (k+1) ⟨4,nn,m,g,O,ac,Z⟩ ⟨P,ret⟩ s) e G:=by
 obtain ⟨b,C,aT,ky,rfl,I,bW,l,cY⟩:=jS an 0 N7;obtain ⟨D,ad,f,bi,b4⟩:=cY w rfl;simp only [gF,gQ] at D ad f bi b4 cY
 have bK:0<O.length:=N7
 have ao:=hid (h.below (dn w (ek 4 nn m g (some (dj b C)) O.length a9 a0 ac.length au a6 Z.length k3)));have bh:=hid (qe (E:=aT) (a9:=ky) (bb _ (gl (i:=0) N7)) ao (l.later (dn w _)) (aw _ (gl N7)));have N:=qd (iO H n c.u P 6 (dq O 0));have ag:=hid (fun q dk (Y:dR B K.D av q (w.alloc (ek 4 nn m g (some (dj b C)) O.length a9 a0 ac.length au a6 Z.length k3)) dk)=>(ao.keepS Y (b:=w.heap.size) (x:=(ek 4 nn m g (some (dj b C)) O.length a9 a0 ac.length au a6 Z.length k3)) (heap_alloc_new w _) h.new.1 h.new.2).1);have j:=hid (fun q s' dk (Y:dR B K.D av q (w.alloc (ek 4 nn m g (some (dj b C)) O.length a9 a0 ac.length au a6 Z.length k3)) dk) (W:el n dk B y H K q s' c P ret)=>aF c P ret q s' a0 au dk W (ao.dat Y (d.later (dn w _))) aN)
 have o:=hid (fun q s' dk (Y:dR B K.D av q (w.alloc (ek 4 nn m g (some (dj b C)) O.length a9 a0 ac.length au a6 Z.length k3)) dk) (W:el n dk B y H K q s' c P ret)=>b6 c P ret q s' a6 k3 dk W (ao.dat Y (p.later (dn w _))) aW)
 have r:eT (dT H n) (fE H n) H c.u (k+1) ⟨4,nn,m,g,O,ac,Z⟩ ⟨P,ret⟩ s=(im (dI (dT H n) H c.u P 6 (dq O 0)) s).bind fun b s=>if b=true then g5 (eT (dT H n) (fE H n) H c.u k) ac ⟨P,ret⟩ s else g5 (eT (dT H n) (fE H n) H c.u k) Z ⟨P,ret⟩ s:=by
  show (dI (dT H n) H c.u P 6 (dq O 0) s).bind _=((dI (dT H n) H c.u P 6 (dq O 0) s).bind _).bind _
  cases dI (dT H n) H c.u P 6 (dq O 0) s with
  | ok a t=>
    show ite (a=0) _ _=ite ((a != 0)=true) _ _
    by_cases a7:a=0
    . rw [if_pos a7,if_neg Qe];rfl
    . rw [if_neg a7,if_pos Qe];rfl
  | stop e t=>rfl
 rw [r]
 obtain ⟨ap,hR0⟩:∃ ap,ap=(im (dI (dT H n) H c.u P 6 (dq O 0)) s).bind fun b s=>if b=true then g5 (eT (dT H n) (fE H n) H c.u k) ac ⟨P,ret⟩ s else g5 (eT (dT H n) (fE H n) H c.u k) Z ⟨P,ret⟩ s:=⟨_,rfl⟩
 have aI:=hid hR0;rw [← hR0];generalize im (dI (dT H n) H c.u P 6 (dq O 0))=F0 at *;generalize dq O 0=a3 at *;clear h bb an aw l cY X I aF b6 aN aW d p r hR0;go_enter func208,ntmps208;go_wp2_with fail;refine bh.mono ?_;intro e dk aE
 rcases ao.step N aE with ⟨bn,s',bq,Q,rfl,Y,aj⟩ | ⟨v,ay,bq,Q,rfl,Y,aj⟩
 . exact ⟨rfl,Sa.no ((dR.below (dn w _)).trans Y).gm (aI.trans (hI Q)) aj⟩
 . have aD:=hid (((dR.below (dn w _)).trans Y).gm (X:=kw c))
   have z:=hid (aI.trans (bind_ok Q));obtain ⟨af,a4,am,a5,ax,aG,u,xz⟩:=jI (ag _ _ Y);have V:=hid (j _ _ _ Y aj);have i:=hid (o _ _ _ Y aj);clear Q Y aj aE ag j o;unfold n8
   cases v with
   | true=>
     go_wp2_with fail;refine V.mono ?_;rintro e w2 ⟨bu,ak,⟨bn,b1,Q,rfl,aj⟩ | ⟨⟨a8,dl,dr⟩,b1,Q,rfl,aj⟩⟩
     . exact ⟨rfl,Sa.no (aD.trans ak) (z.trans ((if_pos (by trivial)).trans Q)) aj⟩
     . have aP:=hid (Sa.ok (rep:=gN) (aD.trans ak) (z.trans ((if_pos (by trivial)).trans Q)) aj)
       clear ak Q aj af a4 am a5 ax aG u xz;unfold gN;exact QQ
   | false=>
     go_wp2_with fail;refine i.mono ?_;rintro e w2 ⟨bu,ak,⟨bn,b1,Q,rfl,aj⟩ | ⟨⟨a8,dl,dr⟩,b1,Q,rfl,aj⟩⟩
     . exact ⟨rfl,Sa.no (aD.trans ak) (z.trans ((if_neg Ob).trans Q)) aj⟩
     . have aP:=hid (Sa.ok (rep:=gN) (aD.trans ak) (z.trans ((if_neg Ob).trans Q)) aj)
       clear ak Q aj af a4 am a5 ax aG u xz;unfold gN;exact QQ
theorem Fv {n:Nat} {c:Ca} {s:Sw} (bb:∀ a3 ∈ O,hX n B y H K 6 a3) (h:el n w B y H K av s c P ret) (an:dx w (·<y) E O.length (es O)) (aw:∀ a3 ∈ O,f8 H c.u P.length K.cd 6 a3) (X:O.length=1) :
 dw 208 #[dF c.C 0,.agg #[di 6,di nn,di m,di g,.slice E O.length a9,.slice a0 ac.length au,.slice a6 Z.length k3]] w fun e G=>Sa gN n B y H K c w av (eT (dT H n) (fE H n) H c.u (k+1) ⟨6,nn,m,g,O,ac,Z⟩ ⟨P,ret⟩ s) e G:=by
 obtain ⟨b,C,aT,ky,rfl,I,bW,l,cY⟩:=jS an 0 N7;obtain ⟨D,ad,f,bi,b4⟩:=cY w rfl;simp only [gF,gQ] at D ad f bi b4 cY
 have bK:0<O.length:=N7
 have ao:=hid (h.below (dn w (ek 6 nn m g (some (dj b C)) O.length a9 a0 ac.length au a6 Z.length k3)));have bh:=hid (bb _ (gl (i:=0) N7) c P ret av s aT ky _ ao (l.later (dn w _)) (aw _ (gl N7)));have N:=iO H n c.u P 6 (dq O 0)
 have r:eT (dT H n) (fE H n) H c.u (k+1) ⟨6,nn,m,g,O,ac,Z⟩ ⟨P,ret⟩ s=(dI (dT H n) H c.u P 6 (dq O 0) s).bind fun v s=>.ok (true,⟨P,v⟩) s:=rfl
 rw [r];generalize dI (dT H n) H c.u P 6 (dq O 0)=F0 at *;generalize dq O 0=a3 at *;clear h bb an aw l cY X I r;go_enter func208,ntmps208;go_wp2_with fail;refine bh.mono ?_;intro e dk aE
 rcases ao.step N aE with ⟨bn,s',bq,Q,rfl,Y,aj⟩ | ⟨v,ay,bq,Q,rfl,Y,aj⟩
 . exact Rp
 . have aP:=hid (Sa.ok (rep:=gN) (((dR.below (dn w _)).trans Y).gm.trans (aj.setR v).2) (bind_ok (f:=fun v s=>Rr.ok (true,Fr.mk P v) s) Q) (aj.setR v).1)
   obtain ⟨bF,bo,ei,e2,bw,bV⟩:=il aj.cl;clear Q Y aj aE D ad f bi b4;unfold fB;exact QQ
theorem Fw {n:Nat} {c:Ca} {s:Sw} (bb:∀ a3 ∈ O,hX n B y H K 6 a3) (h:el n w B y H K av s c P ret) (an:dx w (·<y) E O.length (es O)) (aw:∀ a3 ∈ O,f8 H c.u P.length K.cd 6 a3) (X:O.length=1) :
 dw 208 #[dF c.C 0,.agg #[di 7,di nn,di m,di g,.slice E O.length a9,.slice a0 ac.length au,.slice a6 Z.length k3]] w fun e G=>Sa gN n B y H K c w av (eT (dT H n) (fE H n) H c.u (k+1) ⟨7,nn,m,g,O,ac,Z⟩ ⟨P,ret⟩ s) e G:=by
 obtain ⟨b,C,aT,ky,rfl,I,bW,l,cY⟩:=jS an 0 N7;obtain ⟨D,ad,f,bi,b4⟩:=cY w rfl;simp only [gF,gQ] at D ad f bi b4 cY
 have bK:0<O.length:=N7
 have ao:=hid (h.below (dn w (ek 7 nn m g (some (dj b C)) O.length a9 a0 ac.length au a6 Z.length k3)));have bC:=I;have a:=h.new;have R:=hid (h.below (dp (dn w (ek 7 nn m g (some (dj b C)) O.length a9 a0 ac.length au a6 Z.length k3)) (fA _)));have bh:=hid (bb _ (gl (i:=0) N7) c P ret av s aT ky _ R (l.later (dp (dn w (ek 7 nn m g (some (dj b C)) O.length a9 a0 ac.length au a6 Z.length k3)) (fA _))) (aw _ (gl N7)));have N:=iO H n c.u P 6 (dq O 0)
 have aQ:Hid (∀ q s' M,dR B K.D av q (w.alloc (ek 7 nn m g (some (dj b C)) O.length a9 a0 ac.length au a6 Z.length k3)) M->el n M B y H K q s' c P ret->M.cell? (dj c.C 0)=some (dF B 0)/\M.cell? (dj w.heap.size 4)=some (.slice (some (dj b C)) O.length a9)/\M.cell? (dj b C)=some (di (dq O 0).op)/\M.cell? ⟨b,C+1,none⟩=some (di (dq O 0).n)/\M.cell? ⟨b,C+2,none⟩=some (di (dq O 0).m)/\M.cell? ⟨b,C+3,none⟩=some (di (dq O 0).at_)/\M.cell? ⟨b,C+4,none⟩=some (.slice aT (dq O 0).args.length ky)):=fun q s' M Y W=>by
  obtain ⟨af,a4,am,a5,ax,aG,u, -⟩:=jI (ao.keepS Y (b:=w.heap.size) (x:=(ek 7 nn m g (some (dj b C)) O.length a9 a0 ac.length au a6 Z.length k3)) (heap_alloc_new w _) a.1 a.2).1;obtain ⟨bf,be,b9,bm,bk⟩:=cY M ((ao.keepB Y bC Of).trans ((dn w (ek 7 nn m g (some (dj b C)) O.length a9 a0 ac.length au a6 Z.length k3)).block b bW));obtain ⟨bF, -⟩:=il W.cl;exact ⟨bF,ax,bf,be,b9,bm,bk⟩
 have r:eT (dT H n) (fE H n) H c.u (k+1) ⟨7,nn,m,g,O,ac,Z⟩ ⟨P,ret⟩ s=(dI (dT H n) H c.u P 6 (dq O 0) s).bind fun v s=>(jO v s).bind fun _ s=>.ok (false,⟨P,ret⟩) s:=rfl
 rw [r]
 obtain ⟨ap,hR0⟩:∃ ap:Rr (Bool × Fr),ap=(dI (dT H n) H c.u P 6 (dq O 0) s).bind fun v s=>(jO v s).bind fun _ s=>.ok (false,⟨P,ret⟩) s:=⟨_,rfl⟩
 have aI:=hid hR0;rw [← hR0];generalize dI (dT H n) H c.u P 6 (dq O 0)=F0 at *;generalize dq O 0=a3 at *;clear h bb an aw l cY X I r hR0;go_enter func208,ntmps208;go_upto_region 19 with fail
 go_region_held (fun M=>M.cell? (dj c.C 0)=some (dF B 0)/\M.cell? (dj w.heap.size 4)=some (.slice (some (dj b C)) O.length a9)/\M.cell? (dj b C)=some (di a3.op)/\M.cell? ⟨b,C+1,none⟩=some (di a3.n)/\M.cell? ⟨b,C+2,none⟩=some (di a3.m)/\M.cell? ⟨b,C+3,none⟩=some (di a3.at_)/\M.cell? ⟨b,C+4,none⟩=some (.slice aT a3.args.length ky)) (first | exact aQ _ _ _ (dR.below (fA _)) R | exact d | exact aU)
  (first
    | (go_at_call 262;refine bh.mono ?_;intro e dk aE;rcases R.step N aE with ⟨bn,s',bq,Q,rfl,Y,aj⟩ | ⟨v,ay,bq,Q,rfl,Y,aj⟩;(exact ⟨rfl,Sa.no ((dR.below (dp (dn w _) (fA _))).trans Y).gm (aI.trans (hI Q)) aj⟩);(have aU:=hid (aQ _ _ _ ((dR.below (fA _)).trans Y) aj);have x:=hid ((dR.below (fA _)).trans Y);have aY:=hid (aI.trans (bind_ok Q));have U:=hid aj;clear Q Y aj aE;unfold fB))
    | (go_at_call 266;refine (tell_any B y H K _ _ _ _ U.wd).mono ?_;intro e w2 aE;rcases U.step (y7 _) aE with ⟨bn,s',bu,Q,rfl,Y,aj⟩ | ⟨aa,b1,bu,Q,rfl,Y,aj⟩;(exact ⟨rfl,Sa.no ((dR.below (dn w _)).trans (x.trans Y)).gm (aY.trans (hI Q)) aj⟩);(have d:=hid (aQ _ _ _ (x.trans Y) aj);have ag:=hid ((dR.below (dn w _)).trans (x.trans Y));have b3:=hid (aY.trans (bind_ok Q));have A:=hid aj;clear Q Y aj aE;unfold tw)))
 all_goals
  go_wp2_with fail
  go_returns
  exact Sa.ok (rep:=gN) ag.gm b3 A
theorem Fy {n:Nat} {c:Ca} {s:Sw} (bb:∀ a3 ∈ O,hX n B y H K 6 a3) (h:el n w B y H K av s c P ret) (an:dx w (·<y) E O.length (es O)) (aw:∀ a3 ∈ O,f8 H c.u P.length K.cd 6 a3) (X:O.length=2) (b2:1<=nn) (aA:ji H c.u K.cd m g nn) :
 dw 208 #[dF c.C 0,.agg #[di 2,di nn,di m,di g,.slice E O.length a9,.slice a0 ac.length au,.slice a6 Z.length k3]] w fun e G=>Sa gN n B y H K c w av (eT (dT H n) (fE H n) H c.u (k+1) ⟨2,nn,m,g,O,ac,Z⟩ ⟨P,ret⟩ s) e G:=by
 obtain ⟨b,C,aT,ky,rfl,I,bW,l,cY⟩:=jS an 0 N7;obtain ⟨D,ad,f,bi,b4⟩:=cY w rfl;simp only [gF,gQ] at D ad f bi b4 cY
 have bK:0<O.length:=N7
 have ao:=hid (h.below (dn w (ek 2 nn m g (some (dj b C)) O.length a9 a0 ac.length au a6 Z.length k3)));obtain ⟨aL,c0,az,kz,ar, -, -,dZ,cZ⟩:=jS an 1 N7;cases ar;simp only [nF] at cZ
 have bg:1<O.length:=N7
 have bC:=I;have a:=h.new;have R:=hid (h.below (dp (dn w (ek 2 nn m g (some (dj b C)) O.length a9 a0 ac.length au a6 Z.length k3)) (fA _)));have bh:=hid (zK (E:=aT) (a9:=ky) (bb _ (gl (i:=0) N7)) R (l.later (dp (dn w (ek 2 nn m g (some (dj b C)) O.length a9 a0 ac.length au a6 Z.length k3)) (fA _))) (aw _ (gl N7)) b2 aA);have J:=hid (fun q s' G (bj:el n G B y H K q s' c P ret) dZ=>bb _ (gl (i:=1) N7) c P ret q s' az kz G bj dZ (aw _ (gl N7)));have L:=hid (fun q dk (Y:dR B K.D av q (w.alloc (ek 2 nn m g (some (dj b C)) O.length a9 a0 ac.length au a6 Z.length k3)) dk)=>ao.dat Y (dZ.later (dn w _)));have N:hV (hv (dI (dT H n) H c.u P 6 (dq O 0)) (e8 H c.u m g) nn):=vV (o7 H.lim H.lim) (n:=0) (f:=dI (dT H n) H c.u P 6 (dq O 0)) (iO H n c.u P 6 (dq O 0)) _ _
 have o:=iO H n c.u P 6 (dq O 1)
 have aQ:Hid (∀ q s' M,dR B K.D av q (w.alloc (ek 2 nn m g (some (dj b C)) O.length a9 a0 ac.length au a6 Z.length k3)) M->el n M B y H K q s' c P ret->M.cell? (dj w.heap.size 1)=some (di nn)/\M.cell? (dj w.heap.size 2)=some (di m)/\M.cell? (dj w.heap.size 3)=some (di g)/\M.cell? (dj w.heap.size 4)=some (.slice (some (dj b C)) O.length a9)/\M.cell? (dj b C)=some (di (dq O 0).op)/\M.cell? ⟨b,C+1,none⟩=some (di (dq O 0).n)/\M.cell? ⟨b,C+2,none⟩=some (di (dq O 0).m)/\M.cell? ⟨b,C+3,none⟩=some (di (dq O 0).at_)/\M.cell? ⟨b,C+4,none⟩=some (.slice aT (dq O 0).args.length ky)):=fun q s' M Y W=>by
  obtain ⟨af,a4,am,a5,ax,aG,u, -⟩:=jI (ao.keepS Y (b:=w.heap.size) (x:=(ek 2 nn m g (some (dj b C)) O.length a9 a0 ac.length au a6 Z.length k3)) (heap_alloc_new w _) a.1 a.2).1;obtain ⟨bf,be,b9,bm,bk⟩:=cY M ((ao.keepB Y bC Of).trans ((dn w (ek 2 nn m g (some (dj b C)) O.length a9 a0 ac.length au a6 Z.length k3)).block b bW));obtain ⟨bF, -⟩:=il W.cl;exact ⟨a4,am,a5,ax,bf,be,b9,bm,bk⟩
 have aM:Hid (∀ q s' M,dR B K.D av q (w.alloc (ek 2 nn m g (some (dj b C)) O.length a9 a0 ac.length au a6 Z.length k3)) M->el n M B y H K q s' c P ret->M.cell? (dj c.C 0)=some (dF B 0)/\M.cell? (dj B 3)=some (.slice (some (dj K.D 0)) K.cd K.cd)/\M.cell? (dj w.heap.size 4)=some (.slice (some (dj b C)) O.length a9)/\M.cell? ⟨b,C+5,none⟩=some (di (dq O 1).op)/\M.cell? ⟨b,C+5+1,none⟩=some (di (dq O 1).n)/\M.cell? ⟨b,C+5+2,none⟩=some (di (dq O 1).m)/\M.cell? ⟨b,C+5+3,none⟩=some (di (dq O 1).at_)/\M.cell? ⟨b,C+5+4,none⟩=some (.slice az (dq O 1).args.length kz)):=fun q s' M Y W=>by
  obtain ⟨af,a4,am,a5,ax,aG,u, -⟩:=jI (ao.keepS Y (b:=w.heap.size) (x:=(ek 2 nn m g (some (dj b C)) O.length a9 a0 ac.length au a6 Z.length k3)) (heap_alloc_new w _) a.1 a.2).1;obtain ⟨bf,be,b9,bm,bk⟩:=cZ M ((ao.keepB Y bC Of).trans ((dn w (ek 2 nn m g (some (dj b C)) O.length a9 a0 ac.length au a6 Z.length k3)).block b bW));obtain ⟨bF, -⟩:=il W.cl;exact ⟨bF,W.wd.top.1,ax,bf,be,b9,bm,bk⟩
 have r:eT (dT H n) (fE H n) H c.u (k+1) ⟨2,nn,m,g,O,ac,Z⟩ ⟨P,ret⟩ s=(hv (dI (dT H n) H c.u P 6 (dq O 0)) (e8 H c.u m g) nn s).bind fun p s=>(dI (dT H n) H c.u P 6 (dq O 1) s).bind fun v s=>.ok (false,⟨P,ret⟩) { s with data:=s.data.set p.toNat v }:=rfl
 rw [r]
 obtain ⟨ap,hR0⟩:∃ ap:Rr (Bool × Fr),ap=(hv (dI (dT H n) H c.u P 6 (dq O 0)) (e8 H c.u m g) nn s).bind fun p s=>(dI (dT H n) H c.u P 6 (dq O 1) s).bind fun v s=>.ok (false,⟨P,ret⟩) { s with data:=s.data.set p.toNat v }:=⟨_,rfl⟩
 have aI:=hid hR0;rw [← hR0]
 have z:Hid (∀ p s',hv (dI (dT H n) H c.u P 6 (dq O 0)) (e8 H c.u m g) nn s = .ok p s'->0<=p/\p<K.cd):=fun p s' e=>by
  have b3:=aA.plc;unfold hv at e
  revert e
  cases dI (dT H n) H c.u P 6 (dq O 0) s with
  | stop e t=>intro e;cases e
  | ok v t=>
    exact RF
 generalize hv (dI (dT H n) H c.u P 6 (dq O 0)) (e8 H c.u m g) nn=F0 at *;generalize dI (dT H n) H c.u P 6 (dq O 1)=F1 at *;generalize dq O 1=aX at *;generalize dq O 0=a3 at *;clear h bb an aw l cY X I r hR0 b2 aA dZ cZ D ad f bi b4;go_enter func208,ntmps208;go_upto_region 5 with fail
 go_region_held (fun M=>M.cell? (dj w.heap.size 1)=some (di nn)/\M.cell? (dj w.heap.size 2)=some (di m)/\M.cell? (dj w.heap.size 3)=some (di g)/\M.cell? (dj w.heap.size 4)=some (.slice (some (dj b C)) O.length a9)/\M.cell? (dj b C)=some (di a3.op)/\M.cell? ⟨b,C+1,none⟩=some (di a3.n)/\M.cell? ⟨b,C+2,none⟩=some (di a3.m)/\M.cell? ⟨b,C+3,none⟩=some (di a3.at_)/\M.cell? ⟨b,C+4,none⟩=some (.slice aT a3.args.length ky)) (first | exact aQ _ _ _ (dR.below (fA _)) R | exact aU)
  (first
    | (go_at_call 261;refine bh.mono ?_;intro e dk aE;rcases R.step N aE with ⟨bn,s',bq,Q,rfl,Y,aj⟩ | ⟨p,ay,bq,Q,rfl,Y,aj⟩;(exact ⟨rfl,Sa.no ((dR.below (dp (dn w _) (fA _))).trans Y).gm (aI.trans (hI Q)) aj⟩);(have aU:=hid (aQ _ _ _ ((dR.below (fA _)).trans Y) aj);have x:=hid ((dR.below (fA _)).trans Y);have aY:=hid (aI.trans (bind_ok Q));have U:=hid aj;have F:=z _ _ Q;clear Q Y aj aE;unfold fB)))
 obtain ⟨i,rfl⟩:∃ i:Nat,p=i:=⟨p.toNat,N7⟩
 have V:i<K.cd:=N7
 have A:=hid (U.below (fA dk));have a1:=hid (J _ _ _ A ((L _ _ x).later (fA dk)));have S:=hid (aM _ _ _ (x.trans (dR.below (fA dk))) A)
 have bB:K.D≠c.C:=fun e=>U.ne.2.1 e.symm
 have bH:K.D≠B:=fun e=>U.wd.ro.BD e.symm
 have bR:K.D≠w.heap.size:=fun e=>by have:=ao.wd.ro.DS;have:=a.1;omega
 have bN:K.D≠b:=fun e=>by have:=ao.wd.ro.lD;omega
 have aR:=hid aM;have bz:=hid x;clear F aQ aU bh J L aM bC a;go_wp2_with fail
 go_region_held (fun M=>M.cell? (dj c.C 0)=some (dF B 0)/\M.cell? (dj B 3)=some (.slice (some (dj K.D 0)) K.cd K.cd)/\M.cell? (dj w.heap.size 4)=some (.slice (some (dj b C)) O.length a9)/\M.cell? ⟨b,C+5,none⟩=some (di aX.op)/\M.cell? ⟨b,C+5+1,none⟩=some (di aX.n)/\M.cell? ⟨b,C+5+2,none⟩=some (di aX.m)/\M.cell? ⟨b,C+5+3,none⟩=some (di aX.at_)/\M.cell? ⟨b,C+5+4,none⟩=some (.slice az aX.args.length kz)) (first | exact S | exact a2 | go_keep)
  (first
    | (go_at_call 262;refine a1.mono ?_;intro e w2 aE;rcases A.step o aE with ⟨bn,s',bu,Q,rfl,Y,aj⟩ | ⟨v,b1,bu,Q,rfl,Y,aj⟩;(exact ⟨rfl,Sa.no ((dR.below (dn w _)).trans (x.trans ((dR.below (fA dk)).trans Y))).gm (aY.trans (hI Q)) aj⟩);(have d:=aR.out _ _ _ (x.trans ((dR.below (fA dk)).trans Y)) aj;have a2:=hid d;obtain ⟨bG,bp,bx,bQ,r4,r5,r6,r7⟩:=d;have T:=hid ((dR.below (dn w _)).trans (x.trans ((dR.below (fA dk)).trans Y)));have al:=hid (aY.trans (bind_ok Q));have aJ:=hid aj;have bP:=aj.wd.cell i (by rw [← aj.wd.cd];exact V);have bY:∀ j,w2.frozen? ⟨K.D,j,none⟩=false:=(fun j=>hD aj.wd.data j);clear Q Y aj aE;unfold fB)))
 go_wp2_with fail
 go_returns
 exact Sa.ok (rep:=gN) (T.trans (aJ.setD i v).2).gm al (aJ.setD i v).1
theorem tX {u:Nat}:∀ (k:Nat) (a:du),gM H u nl sz k a->gM H u nl sz (k+1) a
 | 0,a,h=>h.elim
 | k+1,a,h=>by
   unfold gM at h ⊢;obtain ⟨F,J⟩:=h;refine ⟨F,?_⟩
   rcases J with J | J | J | ⟨e,J,U,aa⟩ | ⟨e,J,U⟩ | J | J
   . exact Or.inl J
   . exact Or.inr (Or.inl J)
   . exact Or.inr (Or.inr (Or.inl J))
   . exact Or.inr (Or.inr (Or.inr (Or.inl ⟨e,J,fun b I=>tX k b (U b I),fun b I=>tX k b (aa b I)⟩)))
   . exact Or.inr (Or.inr (Or.inr (Or.inr (Or.inl ⟨e,J,fun b I=>tX k b (U b I)⟩))))
   . exact Or.inr (Or.inr (Or.inr (Or.inr (Or.inr (Or.inl J)))))
   . exact Or.inr (Or.inr (Or.inr (Or.inr (Or.inr (Or.inr J)))))
theorem Fz {u:Nat} {l:List du} (N:k+1<=6) (h:∀ b ∈ l,gM H u nl sz k b):∀ b ∈ l,gM H u nl sz 6 b:=fun b I=>by
 have:∀ d,gM H u nl sz (k+d) b:=fun d=>by
  induction d with
  | zero=>exact h b I
  | succ d ay=>exact tX _ _ ay
 have e:=this (6 - k);rw [show k+(6 - k)=6 from N7] at e;exact e
theorem zU {n:Nat} (aG:mD n B y H K) (b3:mB H K.cd) (bb:∀ m≤n,∀ a3,hX m B y H K 6 a3) (aF:∀ m<n,∀ l,pa m B y H K 6 l):∀ (k:Nat) (a:du),k<=6->zR n B y H K k a
 | 0,a,_=>fun c P ret av s E a9 a0 au a6 k3 w h an d p aw=>aw.elim
 | k+1,⟨T,nn,m,g,O,ac,Z⟩,N=>fun c P ret av s E a9 a0 au a6 k3 w h an d p aw=>by
   have ay:∀ l,pa n B y H K k l:=fun l=>zT (fun x _=>zU aG b3 bb aF k x N7)
   have af:∀ a3 ∈ O,hX n B y H K 6 a3:=fun a3 _=>bb n (dA _) a3
   unfold gM at aw;have an:dx w (·<y) E O.length (es O):=an;have d:dx w (·<y) a0 ac.length (eJ ac):=d;have p:dx w (·<y) a6 Z.length (eJ Z):=p;obtain ⟨aO,aw⟩:=aw;have aO:∀ a3 ∈ O,f8 H c.u P.length K.cd 6 a3:=aO
   rcases aw with ⟨(rfl:T=1),F,⟨J,U,aa⟩ | ⟨J,U⟩⟩ | ⟨(rfl:T=2),F,J,U⟩ | ⟨(rfl:T=3),F⟩ | ⟨(rfl:T=4),F,J,U⟩ | ⟨(rfl:T=5),F,J⟩ | ⟨(rfl:T=6),F⟩ | ⟨(rfl:T=7),F⟩
   . exact Fp af h an aO F J U aa
   . exact Fq af h an aO F J U
   . exact Fy af h an aO F J U
   . exact Fs af h an aO aG b3 F
   . exact Fu af h an aO F (ay ac) (ay Z) J U d p
   . exact Ft af h an aO (fun G W aT aU=>Fo (fun m a1 a3 _=>bb m a1 a3) (fun m a1=>aF m a1 ac) W aT aU aO F (Fz N J)) d
   . exact Fv af h an aO F
   . exact Fw af h an aO F
theorem FA (H:Cx) (n u k:Nat) (l:List du) (c:Fr):Cq (g5 (eT (dT H n) (fE H n) H u k) l c):=qZ (vY H.lim H.lim) (n:=0) (tL (vY H.lim H.lim) (y8 H n).ent H H.lim (y8 H n).whl u k) l c
theorem FB (H:Cx) (n u:Nat) (ac:List du) (P:List Int) (s:Sw):dT H (n+1) u ac P s=(iM H.lim s).bind fun _ s=>if s.calls=24 then .stop 4 s else (g5 (eT (dT H n) (fE H n) H u 6) ac ⟨P,0⟩ { s with calls:=s.calls+1 }).bind fun d s=>.ok d.2.ret { s with calls:=s.calls - 1 }:=by
 unfold dT fE;rw [sv]
 rfl
theorem e7.call {n:Nat} {s:Sw} {lv:Value} {L u:Nat} (h:e7 w B y H K av s 0) (Y:H.lim+1<=s.ticks+n) (aQ:Lo w lv L P) (aE:K.S<=L) (b6:P=[]\/av.ownBlock≠some L) :
 ∃ c:Ca,c.C=w.heap.size/\c.u=u/\c.lv=lv/\(c.L=c.C\/c.L=L)/\el n (w.alloc (.cells #[dF B 0,di u,lv,di 0] 257)) B y H K av s c P 0:=by
 have b2:=h.ro.zS
 have ap:av.ownBlock≠some w.heap.size:=fun e=>by have:=(h.out.lt _ e).2;omega
 have bP:Cl (w.alloc (.cells #[dF B 0,di u,lv,di 0] 257)) B w.heap.size u lv 0:=heap_alloc_new w _
 have m:Lo (w.alloc (.cells #[dF B 0,di u,lv,di 0] 257)) lv L P:=aQ.moves (by
  rcases aQ.lt with e | e
  . exact Or.inl e
  . exact Or.inr ((dn w _).block L e))
 by_cases X:P=[]
 . subst X
   refine ⟨⟨w.heap.size,u,lv,w.heap.size⟩,rfl,rfl,rfl,Or.inl rfl,h.below (dn w _),bP,?_,b2,ap,b2,Ob,Or.inl rfl,Y⟩;obtain ⟨a,e⟩:=aQ.len;exact Or.inl ⟨rfl,a,e⟩
 . have ac:=aQ.lt.resolve_left X
   exact ⟨⟨w.heap.size,u,lv,L⟩,rfl,rfl,rfl,Or.inr rfl,h.below (dn w _),bP,m,b2,ap,aE,Of,Or.inr ⟨by show L≠w.heap.size;omega,b6.resolve_left X⟩,Y⟩
theorem fK.drop {L z:Nat} {c:Ca} (h:fK B A (kw c) av q w G) (F:c.C=z) (J:c.L=c.C\/c.L=L) (U:w0.heap.size<=z):fK B A (fun b=>b=L\/w0.heap.size<=b) av q w G:=h.mono (fun b e=>by
 rcases e with e | e
 . exact Or.inr N7
 . rcases J with a0 | a0
   . exact Or.inr N7
   . exact Or.inl N7)
theorem fK.lop {L:Nat} (h:fK B A (fun b=>b=L\/w.heap.size<=b) av q w G):fK B A (·=L) av q w G:=⟨h.os,h.tape,h.output,h.size,fun b F J U aa aB=>h.block b F J U (fun e=>by rcases e with e | e;exact aa e;omega) aB,h.own⟩
theorem enter_any {n:Nat} (aF:∀ l,pa n B y H K 6 l):mD (n+1) B y H K:=by
 intro u ac b4 t lv L P av s w aj C hLo hLS hLO aL an aw;obtain ⟨E,rfl⟩:=hLo.len;rw [FB]
 obtain ⟨ap,hR0⟩:∃ ap:Rr Int,ap=(iM H.lim s).bind fun _ s=>if s.calls=24 then .stop 4 s else (g5 (eT (dT H n) (fE H n) H u 6) ac ⟨P,0⟩ { s with calls:=s.calls+1 }).bind fun d s=>.ok d.2.ret { s with calls:=s.calls - 1 }:=⟨_,rfl⟩
 have aI:=hid hR0;rw [← hR0];have aM:=hid (tick_any B y H K av s w aj);have ag:=hid aF;have b0:=hid an;have aV:=hid aw;have m:=hid hLo;have R:=hid aj;have v:=hid hLO;have D:=hid C;have q:=hid hLS;clear aj C hLo hLO aL an aw aF hR0 hLS;go_enter func125,ntmps125;go_wp2_with fail;refine aM.mono ?_;rintro e dk ⟨bq,Y,S⟩
 rcases S.symm with ⟨bn,ay,Q,rfl,aE⟩ | ⟨a,ay,Q,rfl,aE⟩
 . exact ⟨rfl,bq,Y.gm,Or.inr ⟨bn,ay,aI.trans (hI Q),rfl,aE⟩⟩
 . have r:w.heap.size<=dk.heap.size:=Y.size
   have ax:ay.ticks=s.ticks+1:=by
    exact Sq
   have aD:=hid Y;have z:=hid (aI.trans (bind_ok Q));have b8:=hid aE;obtain ⟨bD,p,I, -, -⟩:=aE.blk;obtain ⟨aH,az,aK,aW,bg,q5,q6,q7,q8,q9,b5,qf⟩:=jt I;have bP:=aE.cl;clear S Q Y aE I;unfold tw
   by_cases W:ay.calls=24
   . have aq:((ay.calls:Int) == 24)=true:=by rw [W];rfl
     have aQ:=hid (stop_any B y H K bq ay 4 dk b8);have aY:=hid (z.trans (if_pos W));clear W;go_wp2_with fail;refine aQ.mono ?_;rintro e w2 ⟨rfl,ak,aj⟩;exact ⟨rfl,bq,(aD.trans (dR.grown ak)).gm,Or.inr ⟨4,ay,aY,rfl,aj⟩⟩
   . have aq:((ay.calls:Int) == 24)=false:=by rw [beq_eq_false_iff_ne];omega
     have aY:=hid (z.trans (if_neg W));have A:=hid (b8.put (i:=8) (u:=di ((ay.calls:Int)+1)) (s':={ ay with calls:=ay.calls+1 }) (e':=0) (fun _ _=>rfl) rfl rfl rfl b8.tl (by show ay.calls+1<=24;omega))
     have c1:Lo (dk.setCell (dj B 8) (di ((ay.calls:Int)+1))) (.slice E P.length P.length) L P:=m.moves (by
      rcases m.lt with e | e
      . exact Or.inl e
      . rcases v.out with e' | e'
        . exact Or.inl e'
        . have F:=R.ro.BS
          have J:=R.ro.DS;have U:=q.out
          exact Or.inr ((eh (by show L≠B;omega) _).trans (aD.block L e N7 N7 e')))
     have j:P=[]\/bq.ownBlock≠some L:=by
      rcases m.lt with e | e
      . exact Or.inl e
      . rcases v.out with e' | e'
        . exact Or.inl e'
        . exact Or.inr (fun x=>e' (aD.own L x e))
     obtain ⟨c,g,hcu,i,G,hCn⟩:=A.call (n:=n) (u:=u) (by show H.lim+1<=ay.ticks+n;rw [ax];have:=D.out;omega) c1 q j;simp only [hk] at g;have h:=hid ((aD.trans (dR.grown (sn (B:=B) (i:=8) (u:=di ((ay.calls:Int)+1))))).trans (dR.below (D:=K.D) (B:=B) (dn (dk.setCell (dj B 8) (di ((ay.calls:Int)+1))) (.cells #[dF B 0,di u,.slice E P.length P.length,di 0] 257))));have aJ:dx ((dk.setCell (dj B 8) (di ((ay.calls:Int)+1))).alloc (.cells #[dF B 0,di u,.slice E P.length P.length,di 0] 257)) (·<y) b4 ac.length (eJ ac):=b0.fm h R.ro.lB R.ro.lD (fun k e=>by have:=(R.out.out.lt k e).1;have:=R.ro.BS;have:=R.ro.lB;omega);have b9:=ag ac c P 0 bq { ay with calls:=ay.calls+1 } b4 t _ hCn aJ (by rw [hcu];exact aV)
     rw [g,hcu] at b9;have aZ:=hid b9;have T:=hid hCn;have ao:=hid (And.intro g G)
     have c7:wrap64 ((ay.calls:Int)+1)=(ay.calls:Int)+1:=OO
     clear b9 hCn aJ j c1 i hcu W;go_wp2_with fail;refine aZ.mono ?_;rintro e dD ⟨M,ak,⟨bn,bH,Q,rfl,aj⟩ | ⟨⟨a8,dl,dr⟩,bH,Q,rfl,aj⟩⟩
     . exact ⟨rfl,M,(h.gm.trans (fK.drop (L:=L) ak ao.1 ao.2 r)).lop,Or.inr ⟨bn,bH,aY.trans (hI Q),rfl,aj⟩⟩
     . have o:=hid (h.gm.trans (fK.drop (L:=L) ak ao.1 ao.2 r))
       have b:=FA H n u 6 ac ⟨P,0⟩ _ _ _ Q;have b:bH.calls=ay.calls+1:=b;have al:=hid (aY.trans (bind_ok Q));have br:=hid (aj.wd.put (i:=8) (u:=di (ay.calls:Int)) (s':={ bH with calls:=bH.calls - 1 }) (e':=0) (fun _ _=>by rw [b,Nat.add_sub_cancel];rfl) rfl rfl rfl aj.wd.tl (by show bH.calls - 1<=24;omega));have f:=aj.cl;rw [ao.out.1] at f;obtain ⟨bF,bo,ei,e2,bw,bV⟩:=il f;obtain ⟨N,ci4,bc, -, -⟩:=aj.wd.blk;obtain ⟨bG,bp,bx,bQ,r4,r5,r6,r7,r8,r9,cu,rf⟩:=jt bc
       have O:dD.cell? (dj B 8)=some (di ((ay.calls:Int)+1)):=by rw [r8,b];rfl
       have bB:B≠dk.heap.size:=N7
       clear ak Q aj f bc r8 b bG bp bx bQ r4 r5 r6 r7 r9 aH az aK aW bg q5 q6 q7 q8 q9 qf bF bo ei;unfold gN;go_wp2_with fail
       go_returns
       exact ⟨M,(o.trans (dR.grown sn).gm).lop,Or.inl ⟨dr,_,al,rfl,br⟩⟩
theorem zW (b3:mB H K.cd):∀ n,(∀ m≤n,mD m B y H K)/\∀ m≤n,∀ l,pa m B y H K 6 l
 | 0 =>by
   have bN:mD 0 B y H K:=fun u ac b4 t lv L P av s w aj C=>absurd C (by have:=aj.tl;omega)
   refine ⟨fun m a1=>?_,fun m a1 l=>?_⟩
   . obtain rfl:m=0:=by omega
     exact bN
   . obtain rfl:m=0:=by omega
     exact fun c P ret av s a p w h=>absurd h.fu (by have:=h.wd.tl;omega)
 | n + 1=>by
   obtain ⟨F,J⟩:=zW b3 n
   have aJ:∀ m≤n+1,mD m B y H K:=fun m a1=>by
    by_cases X:m<=n
    . exact F m X
    . obtain rfl:m=n+1:=by omega
      exact enter_any (J n (dA _))
   refine ⟨aJ,fun m a1 l=>?_⟩
   by_cases X:m<=n
   . exact J m X l
   . obtain rfl:m=n+1:=by omega
     exact zT (fun x _=>zU (aJ _ (dA _)) b3 (fun m a1 a3=>zQ (aJ m a1) b3 6 a3) (fun m a1 l=>J m N7 l) 6 x (dA _))
theorem FC (b3:mB H K.cd) (n:Nat):mD n B y H K:=(zW b3 n).1 n (dA _)
theorem FD (u:TypeId) (io:Value) (w:World) :
 CallsD prog 124 #[] (.panicking [{ v:=.iface u io,recovered:=false }]) w fun e S G=>e = .returned (.tuple #[])/\S = .panicking [{ v:=.iface u io,recovered:=true }]/\G=w:=by
 refine callsD_of_wpS func124 rfl fun a s aL=>?_
 apply wpS_region
 simp [wpOpsS,go_sem,recoverD,aL,ntmps124,Exit.thenS,bodyPostS,results,results124]
theorem FE (w:World) :
 CallsD prog 124 #[] .returning w fun e S G=>e = .returned (.tuple #[])/\S = .returning/\G=w:=by
 refine callsD_of_wpS func124 rfl fun a s aL=>?_
 apply wpS_region
 cases a
 simp_all [wpOpsS,go_sem,recoverD,aL,ntmps124,Exit.thenS,bodyPostS,results,results124]
theorem FF (u:TypeId) (io:Value) (M:World) (t:Array Value) (H:R (.returned (.tuple #[])) M) :
 Leaves prog Tryz.f74 t R [{ target:=Target.fn (Fn.func 124) #[],args:=#[] }] (.panicking [{ v:=.iface u io,recovered:=false }]) M:=by
 refine leaves_cons (f:=124) (args:=#[]) Ob O5 ?_;refine (FD u io M).mono ?_;exact Sk
theorem FG (M:World) (t:Array Value) (H:R (.returned (.tuple #[])) M) :
 Leaves prog Tryz.f74 t R [{ target:=Target.fn (Fn.func 124) #[],args:=#[] }] .returning M:=by
 refine leaves_cons (f:=124) (args:=#[]) Ob O5 ?_;refine (FE M).mono ?_;exact Sk
def Rr.en:Rr α->Int
 | .ok _ _=>0
 | .stop e _=>e
def kX (l:List dN):List (Nat × dN):=(List.range l.length).zip l
theorem FH (l:List dN) (j:Nat) (h:j<l.length):(kX l).drop j=(j,l[j]) :: (kX l).drop (j+1):=by
 have X:j<(kX l).length:=by simp [kX,h]
 rw [qw X];simp [kX]
theorem FI (l:List dN):(kX l).drop l.length=[]:=rM (by simp [kX])
theorem FJ {n:Nat} {s:Sw} (aG:mD n B y H K) (b3:mB H K.cd) (h:e7 w B y H K av s 0) (Y:H.lim+1<=s.ticks+n) (b2:0<H.us.length) :
 dw 74 #[dF B 0] w fun e G=>e = .returned (.tuple #[])/\∃ q,dR B K.D av q w G/\e7 G B y H K q (jw (dT H n) (kX H.us) s).st (jw (dT H n) (kX H.us) s).en:=by
 obtain ⟨bD,p,I, -, -⟩:=h.blk;obtain ⟨aH,az,aK,aW,bg,q5,q6,q7,q8,q9,b5,qf⟩:=jt I;have bK:=h.ro.us.bound;obtain ⟨a,cr,_,_,_,_,_,_,bC, -⟩:=h.ro.us.un 0 b2;rw [bC] at aH;have D:=hid bC;clear bC b2 az aK aW bg q5 q6 q7 q8 q9;have aS:=hid h;have aP:=hid aG;have bA:=hid b3;have aD:=hid Y
 obtain ⟨ap,hR0⟩:∃ ap,ap=jw (dT H n) (kX H.us) s:=⟨_,rfl⟩
 have aI:=hid hR0;rw [← hR0];clear h aG b3 Y I hR0;go_enter_defers func74,ntmps74;go_wp2_with fail
 go_loopw [9] (fun i wr=>∃ j:Nat,j<=H.us.length/\i=di j/\∃ q s',dR B K.D av q w wr/\e7 wr B y H K q s' 0/\H.lim+1<=s'.ticks+n/\ap=jw (dT H n) ((kX H.us).drop j) s') (fun i _=>H.us.length - (intOf i).toNat)
 case atStart=>exact ⟨0,dY _,rfl,av,s,dR.refl _ _ _ _,aS,aD,aI⟩
 case round=>
  obtain ⟨j,a2,rfl,bq,ay,m,aE,a8,r⟩:=hrel;have c:=hid m;have b8:=hid aE
  by_cases ac:j<H.us.length
  . obtain ⟨b,C,u1,aF,u2,aM,u3,bl,I,S⟩:=aE.ro.us.un j ac
    obtain ⟨bb,af,a4,am,a5,ax,_,_,bh,_,_⟩:=S;rw [D.out] at I;cases I;have ao:=hid (fun o=>aP j H.us[j].main u3 bl (dt) (wr.alloc o).heap.size [] bq ay (wr.alloc o) (aE.below (dn wr o)) a8 (Or.inl ⟨rfl,_,rfl⟩) (fZ aE.ro.zS (dn wr o).size) (Or.inl rfl) ac (bh.later (dn wr o)) ((bA j ac).1))
    have z:Hid (ap=(dT H n j H.us[j].main [] ay).bind fun _ s=>jw (dT H n) ((kX H.us).drop (j+1)) s):=by
     show _=_;rw [r,FH H.us j ac]
     rfl
    have d:he ay (dT H n j H.us[j].main [] ay).st:=(p4 H n).ent j H.us[j].main [] ay;clear m aE r bh;generalize H.us[j]=x at *;go_wp2_with fail;refine (ao _).mono ?_;rintro e w2 ⟨bu,ak,S⟩;have bz:=hid (((c.trans (dR.below (dn wr _))).gm.trans ak).fm (fun b e=>by rw [show b=_ from e];exact fZ c.size (dn wr _).size))
    rcases S.symm with ⟨bn,b1,Q,rfl,a6⟩ | ⟨v,b1,Q,rfl,a6⟩
    . refine FF _ _ _ _ ⟨rfl,bu,bz,?_⟩
      rw [z.out,hI Q];exact a6
    . have aY:=hid (z.trans (bind_ok Q))
      have U:=hid a6
      have k:ay.ticks<=b1.ticks:=by
       have:=d.2.2.2;exact SI
      clear ak S Q a6 af a4 am a5 ax;unfold fB;go_wp2_with fail;go_roundw
      case rel=>exact ⟨j+1,N7,Ou,bu,b1,bz,U,N7,aY⟩
      case measure=>simp [intOf];omega
  . obtain rfl:j=H.us.length:=by omega
    have z:Hid (ap = .ok () ay):=by
     show _=_;rw [r,FI]
     rfl
    clear m aE r;go_wp2_with fail;refine FG _ _ ⟨rfl,bq,c,?_⟩;rw [z.out];exact b8
end Go.Proofs.YtndkhgakfodldaaGreatDoor

namespace Go.Proofs.YtndkhgakfodldaaGreatDoor
open Go.RowKit Go.Shelf Go.Maps Go.WideMaps
variable {A:Nat->Prop} {B y b q g sz:Nat} {M w G:World} {t:List Int} {e:TypeId} {rs:List (List Nat)} {v ay aG:Value} {al ao:List Value}
theorem Tryz.infoSl:(prog.info? 49).map (fun i=>(i.zero,i.size,i.bytes))=some (some (dt),1,24):=by kernel_rfl
theorem gc.moves {n:Nat} {L:Lc} (h:gc w b n L) (I:G.heap[b]? = w.heap[b]?):gc G b n L:=by
 obtain ⟨D,⟨p,clock,al,r⟩,k⟩:=h;exact ⟨D,⟨p,clock,I.trans al,r⟩,k⟩
theorem gc.has {n:Nat} {L:Lc} (h:gc w b n L) (I:∀ x,w.heap[b]? = some x->G.heap[b]? = some x):gc G b n L:=by
 obtain ⟨D,⟨p,clock,al,r⟩,k⟩:=h;exact ⟨D,⟨p,clock,I _ al,r⟩,k⟩
theorem FK {C:Nat} {n:Nat} (h:w.ownsRow B e sz v n ao) (W:C<=B):w.ownsRow C e sz v n ao:=by
 refine ⟨h.1,?_⟩
 rcases h.2 with F | ⟨g,q,o,af,I,Q⟩
 . exact Or.inl F
 . exact Or.inr ⟨g,q,o,af,fZ W I,Q⟩
structure Nr (S0:Nat) (wr:World) (rs:List (List Nat)) (bs:List Int) (vn vb:Value) (vs:List Value):Prop where
 on:wr.ownsRow S0 49 1 vn rs.length vs
 ob:wr.ownsRow S0 3 1 vb bs.length (intV bs)
 ap:hP vn vb
 vl:vs.length=rs.length
 rw:∀ i (h:i<rs.length) (h':i<vs.length),wr.ownsRow S0 3 1 vs[i] rs[i].length (intV (hO rs[i]))/\hP vs[i] vn/\hP vs[i] vb
theorem Nr.keep {wr:World} (h:Nr y wr rs t aG ay al) (N:∀ b,y<=b->b<wr.heap.size->G.heap[b]? = wr.heap[b]?):Nr y G rs t aG ay al:=
 ⟨iZ h.on (fun k e=>N k (h.on.lt k e).1 (h.on.lt k e).2),iZ h.ob (fun k e=>N k (h.ob.lt k e).1 (h.ob.lt k e).2),h.ap,h.vl,fun i F J=>⟨iZ (h.rw i F J).1 (fun k e=>N k ((h.rw i F J).1.lt k e).1 ((h.rw i F J).1.lt k e).2),(h.rw i F J).2⟩⟩
theorem Nr.addN {d:Value} {r:List Nat} (h:Nr y w rs t aG ay al) (ap:G.ownsRow y 49 1 (.slice (some (dj g 0)) (rs.length+1) q) (rs.length+1) (al++[d]))
 (N:∀ (bv:Nat) (aI:TypeId) (b9 ai:Nat) (u:Value) (b:List Value),w.ownsRow bv aI b9 u ai b->hP u aG->G.ownsRow bv aI b9 u ai b/\hP u (.slice (some (dj g 0)) (rs.length+1) q)) (Q:w.ownsRow y 3 1 d r.length (intV (hO r))) (F:hP d aG) (J:hP d ay):Nr y G (rs++[r]) t (.slice (some (dj g 0)) (rs.length+1) q) ay (al++[d]):=by
 have I:=N _ _ _ _ _ _ h.ob h.ap.symm;refine ⟨by rw [eM];exact ap,I.1,I.2.symm,by rw [eM,eM,h.vl];rfl,fun i U aa=>?_⟩;rw [eM,oA] at U
 rcases gZ i rs.length with ac | E
 . have aB:i<al.length:=by rw [h.vl];exact ac
   rw [lE ac,lE aB];have:=N _ _ _ _ _ _ (h.rw i ac aB).1 (h.rw i ac aB).2.1;exact ⟨this.1,this.2,(h.rw i ac aB).2.2⟩
 . obtain rfl:i=rs.length:=by omega
   have:=N _ _ _ _ _ _ Q F;simp only [xh]
   have e:(al++[d])[rs.length]'aa=d:=by simp [← h.vl]
   rw [e];exact ⟨this.1,this.2,J⟩
theorem Nr.addB {x:Int} (h:Nr y w rs t aG ay al) (ap:G.ownsRow y 3 1 (.slice (some (dj g 0)) (t.length+1) q) (t.length+1) (intV t++[di x]))
 (N:∀ (bv:Nat) (aI:TypeId) (b9 ai:Nat) (u:Value) (b:List Value),w.ownsRow bv aI b9 u ai b->hP u ay->G.ownsRow bv aI b9 u ai b/\hP u (.slice (some (dj g 0)) (t.length+1) q)):Nr y G rs (t++[x]) aG (.slice (some (dj g 0)) (t.length+1) q) al:=by
 have Z:=N _ _ _ _ _ _ h.on h.ap;refine ⟨Z.1,by rw [eM,Dp];exact ap,Z.2,h.vl,fun i U aa=>?_⟩;have:=N _ _ _ _ _ _ (h.rw i U aa).1 (h.rw i U aa).2.2;exact ⟨this.1,(h.rw i U aa).2.1,this.2⟩
theorem wt:∀ l:List Int,(∀ i ∈ l,(Lit.int .i64 i).wf=true)->eu M A (fs l) (intV l)
 | [],_=>eu.nil
 | x :: r,Y=>.cons (eY (Y x (fI ..))) (wt r (fun j a2=>Y j (fh _ a2)))
theorem wu {y:Nat} {t:TypeId} {a:OA} {n:Nat} {ds:List D} (h:M.ownsRow y t sz (.slice a n q) n ao) (S:eu M A ds ao) (F:n<=ds.length) (J:ds.length<=17592186044416) (aO:∀ R,y<=R->R<M.heap.size->A R):dx M A a n ds:=by
 refine ⟨F,J,?_⟩
 rcases h.2 with ⟨e,ab⟩ | ⟨g,f,o,e,I,ak,_⟩
 . exact Or.inl ab
 . cases e
   refine Or.inr ⟨g,0,ao,rfl,aO g I (lt_of_heap ak),lt_of_heap ak,fun j u a2=>?_,S⟩;have:=h.cells (g:=g) rfl j u a2;rw [show ((dj g 0):Addr).add j=(dj g j) from On] at this
   rw [fY];exact this
theorem Nr.beg {n aj:Nat} {b4:OA} (h:Nr y w rs t aG (.slice b4 n aj) al) (Z:n=t.length) (aO:∀ R,y<=R->R<w.heap.size->A R) (Y:∀ i ∈ t,(Lit.int .i64 i).wf=true) (X:t.length<=1000):dx w A b4 t.length (fs t):=by
 subst Z;exact wu h.ob (wt t Y) Ql (by simp [fs];omega) aO
theorem zX (aO:∀ R,y<=R->R<w.heap.size->A R):∀ (rs:List (List Nat)) (al:List Value),al.length=rs.length->(∀ r ∈ rs,r.length<=3000000/\∀ i ∈ hO r,(Lit.int .i64 i).wf=true)->(∀ i (h:i<rs.length) (a5:i<al.length),w.ownsRow y 3 1 al[i] rs[i].length (intV (hO rs[i])))->eu w A (pT rs) al
 | [],[],_,_,_=>eu.nil
 | [],_ :: _,h,_,_=>Pq
 | _ :: _,[],h,_,_=>Pq
 | r :: rs,v :: al,h,Y,ap=>by
   have ab:=ap 0 Ob Ob;simp only [oz] at ab;obtain ⟨a,q,rfl,_,_⟩:=hS ab;have Q:=Y r (fI ..)
   have X:(hO r).length=r.length:=by simp [hO]
   refine .cons (dx.val (wu ab (wt _ Q.2) (by simp [fs,X]) (by simp [fs,X];omega) aO)) (zX aO rs al OU (fun e a5=>Y e (fh _ a5)) (fun i F J=>?_));have:=ap (i+1) P9 Pg;simpa using this
theorem Nr.near {n bh:Nat} {I:OA} (h:Nr y w rs t (.slice I n bh) ay al) (Z:n=rs.length) (aO:∀ R,y<=R->R<w.heap.size->A R) (Y:∀ r ∈ rs,r.length<=3000000/\∀ i ∈ hO r,(Lit.int .i64 i).wf=true) (X:rs.length<=1000):dx w A I rs.length (pT rs):=by
 subst Z;exact wu h.on (zX aO rs al h.vl Y (fun i F J=>(h.rw i F J).1)) (by simp [pT]) (by simp [pT];omega) aO
theorem FL {l:List dN} (aO:li l=true) (aw:nO l) (aE:∀ u ∈ l,u.uses.length<=2000000):∀ r ∈ fq l,r.length<=3000000/\∀ i ∈ r,i<l.length:=by
 intro r Q;unfold fq at Q;obtain ⟨j,a2,rfl⟩:=ig.1 Q;have a2:=s3.1 a2;rw [fV,ew a2,gE];unfold m4;refine ⟨?_,fun i V=>?_⟩
 . rw [gY,fM]
   have:=aE l[j] (eb a2);omega
 . rcases kk.1 V with rfl | V
   . exact a2
   . obtain ⟨s,a8,rfl⟩:=ig.1 V
     obtain ⟨R,b3,_,e,_⟩:=qM aO aw a2 a8;rw [e];show (R:Int).toNat<_;omega
theorem n9 (l:List dN):(fq l).length=l.length:=by simp [fq]
theorem oa (l:List dN):(hi l).length=l.length:=by simp [hi]
theorem FM (l:List dN) (j:Nat) (h:j<l.length):(fq l).take (j+1)=(fq l).take j++[m4 l j l[j]]:=by
 rw [gn (by rw [n9];exact h)];simp [fq,h]
theorem FN (l:List dN) (j:Nat) (h:j<l.length):(hi l).take (j+1)=(hi l).take j++[fG (l.take j)]:=by
 rw [gn (by rw [oa];exact h)];simp [hi]
theorem hP.new {u:Value} {C:Nat} {aI:TypeId} {z b9 n ai:Nat} {b:List Value} (h:w.ownsRow B e z v n ao) (a5:G.ownsRow C aI b9 u ai b) (aj:G.heap.size<=B):hP v u:=fun k F J=>by
 have:=(h.lt k F).1;have:=(a5.lt k J).2;omega
end Go.Proofs.YtndkhgakfodldaaGreatDoor

namespace Go.Proofs.YtndkhgakfodldaaGreatDoor
variable {j:Nat} {l:List dN}
theorem zY (a2:j<l.length) (h:j<(fq l).length):(fq l)[j]=m4 l j l[j]:=by simp [fq,a2]
theorem wv (h:j<(hi l).length):(hi l)[j]=fG (l.take j):=by simp [hi]
theorem sI (aO:li l=true) (aw:nO l) (a2:j<l.length) (m:Int) (a1:0<=m) (aZ:m<=l[j].uses.length):∃ i,∃ (V:i<l.length) (F:j<(fq l).length) (J:m.toNat<(fq l)[j].length),(fq l)[j][m.toNat]=i/\(m=0->i=j)/\(0<m->(g2 l l[j])[(m - 1).toNat]? = some l[i]):=by
 have F:j<(fq l).length:=by rw [n9];exact a2
 have e:=zY a2 F
 have X:(m4 l j l[j]).length=l[j].uses.length+1:=by simp [m4]
 have J:m.toNat<(fq l)[j].length:=by rw [e,X];omega
 by_cases ab:m=0
 . subst ab
   refine ⟨j,a2,F,J,?_,fun _=>rfl,fun h=>N7⟩;simp only [e]
   rfl
 . obtain ⟨p,rfl⟩:∃ p:Nat,m=(p:Int)+1:=⟨(m - 1).toNat,N7⟩
   have aA:p<l[j].uses.length:=N7
   obtain ⟨i,V,hij,X,Y⟩:=qM aO aw a2 (eb aA);refine ⟨i,V,F,J,?_,fun h=>absurd h ab,fun _=>?_⟩
   . simp only [e]
     have aI:((p:Int)+1).toNat=p+1:=N7
     simp only [aI];unfold m4;rw [nD,mM,X];show (i:Int).toNat=i;omega
   . rw [show ((p:Int)+1 - 1).toNat=p from N7]
     unfold g2;rw [oF,ew aA];show some (nN l l[j].uses[p])=_;rw [Y]
theorem zZ (hd:∀ u ∈ l,0<=u.data/\u.data<=512):∀ (d j:Nat),fG (l.take j)<=fG (l.take (j+d))
 | 0,j=>mN _
 | d + 1,j=>by
   have ay:=zZ hd d j;rw [show j+(d+1)=(j+d)+1 from rfl]
   by_cases h:j+d<l.length
   . rw [tu l (j+d) h]
     have:=hd _ (eb h);omega
   . rw [iq (i:=j+d) N7] at ay
     rw [iq (i:=j+d+1) N7];exact ay
theorem z6 (hd:∀ u ∈ l,0<=u.data/\u.data<=512) {i:Nat} (V:i<l.length) {g n:Int} (h:j6 l[i].data g n=true):0<=g/\∃ U:i<(hi l).length,0<=(hi l)[i]/\(hi l)[i]+g+n<=((ku l).toNat:Nat):=by
 have h:=of_decide_eq_true h
 have U:i<(hi l).length:=by rw [oa];exact V
 have I:=vC l hd;refine ⟨h.1,U,by rw [wv];exact (I i).1,?_⟩;rw [wv];have F:=tu l i V;have J:=zZ hd (l.length - (i+1)) (i+1);rw [show i+1+(l.length - (i+1))=l.length from N7,gu] at J;have ab:=(I i).1;have:=hd _ (eb V);unfold ku;omega
structure oc (l:List dN):Prop where
 a:li l=true
 n:nO l
 z:0<l.length
 f:l.length<=4
 d:∀ u ∈ l,0<=u.data/\u.data<=512
 s:fG l<=512
 u:∀ lim,mB (fJ l lim) (ku l).toNat
theorem Aa (h:hN l=0):oc l:=by
 unfold hN at h
 split at h
 . cases h
 rename_i F
 split at h
 . cases h
 rename_i J
 split at h
 . cases h
 rename_i U
 split at h
 rename_i aa
 case isFalse=>cases h
 rw [dO] at aa
 have aO:li l=true:=Pg
 have aw:nO l:=yo Qm;have b7:=e1.1 aa.1
 have hd:∀ u ∈ l,0<=u.data/\u.data<=512:=fun u aL=>yn (b7 u aL)
 refine ⟨aO,aw,N7,N7,hd,of_decide_eq_true aa.2,fun q j a2=>?_⟩;have a2:j<l.length:=a2;have ap:=b7 _ (eb a2);unfold mu hf at ap;simp only [dO] at ap;obtain ⟨al,aA,a1⟩:=ap
 have Z:∀ (d m a n:Int),numB (fP l[j] (lh (g2 l l[j])) (jK (g2 l l[j])) d) m a n=true->ji (fJ l q) j (ku l).toNat m a n:=fun d m a n h=>by
  unfold numB at h
  by_cases ab:m=0
  . subst ab
    rw [if_pos rfl] at h;obtain ⟨i,V,a9,au,e,bN, -⟩:=sI aO aw a2 0 (mN _) N7;obtain rfl:=bN rfl;obtain ⟨a7,k3,aH,k5⟩:=z6 hd V h;refine ⟨mN _,a7,a9,au,by show (fq l)[i][(0:Int).toNat]<_;rw [e];exact k3,?_,?_⟩
    . show 0<=(hi l)[(fq l)[i][(0:Int).toNat]]
      simp only [e];exact aH
    . show (hi l)[(fq l)[i][(0:Int).toNat]]+a+n<=_
      simp only [e];exact k5
  . rw [if_neg ab,dO] at h
    have aL:1<=m/\m<=l[j].uses.length:=of_decide_eq_true h.1;obtain ⟨i,V,a9,au,e, -,aJ⟩:=sI aO aw a2 m N7 aL.2
    have S:j6 l[i].data a n=true:=by
     have:=h.2;unfold fP lh at this;simp only [aJ N7] at this;exact this
    obtain ⟨a7,k3,aH,k5⟩:=z6 hd V S;refine ⟨N7,a7,a9,au,by show (fq l)[j][m.toNat]<_;rw [e];exact k3,?_,?_⟩
    . show 0<=(hi l)[(fq l)[j][m.toNat]]
      simp only [e];exact aH
    . show (hi l)[(fq l)[j][m.toNat]]+a+n<=_
      simp only [e];exact k5
 have c:∀ (i:Nat) (V:i<l.length) (a:Int) (k:Nat),ij l[i].parts a k=true->0<=a/\∃ aa:a.toNat<l[i].parts.length,l[i].parts[a.toNat].params=k:=fun i V a k h=>by
  unfold ij at h;rw [dO] at h;refine ⟨of_decide_eq_true h.1,?_⟩;have J:=h.2
  by_cases aa:a.toNat<l[i].parts.length
  . rw [ew aa] at J
    exact ⟨aa,of_decide_eq_true J⟩
  . rw [mL N7] at J
    cases J
 have b3:∀ (d m a:Int) (k:Nat),f6 (fP l[j] (lh (g2 l l[j])) (jK (g2 l l[j])) d) m a k=true->kW (fJ l q) j k m a:=fun d m a k h=>by
  unfold f6 at h
  by_cases ab:m=0
  . subst ab
    rw [if_pos rfl] at h;obtain ⟨i,V,a9,au,e,bN, -⟩:=sI aO aw a2 0 (mN _) N7;obtain rfl:=bN rfl;obtain ⟨a7,aH,k5⟩:=c i V a k h;refine ⟨mN _,a7,a9,au,by show (fq l)[i][(0:Int).toNat]<l.length;rw [e];exact V,?_,?_⟩
    . show a.toNat<(l[(fq l)[i][(0:Int).toNat]]'_).parts.length
      simp only [e];exact aH
    . show ((l[(fq l)[i][(0:Int).toNat]]'_).parts[a.toNat]'_).params=k
      simp only [e];exact k5
  . rw [if_neg ab,dO] at h
    have aL:1<=m/\m<=l[j].uses.length:=of_decide_eq_true h.1;obtain ⟨i,V,a9,au,e, -,aJ⟩:=sI aO aw a2 m N7 aL.2
    have S:ij l[i].parts a k=true:=by
     have:=h.2;unfold fP jK at this;simp only [aJ N7] at this;exact this
    obtain ⟨a7,aH,k5⟩:=c i V a k S;refine ⟨N7,a7,a9,au,by show (fq l)[j][m.toNat]<l.length;rw [e];exact V,?_,?_⟩
    . show a.toNat<(l[(fq l)[j][m.toNat]]'_).parts.length
      simp only [e];exact aH
    . show ((l[(fq l)[j][m.toNat]]'_).parts[a.toNat]'_).params=k
      simp only [e];exact k5
 have bC:∀ p ∈ l[j].parts,0<=p.params/\0<=p.locals/\p.params+p.locals<=16:=fun p b=>by
  unfold gb at al;simp only [dO] at al;have:=e1.1 al.2.1 p b;exact R3
 refine ⟨fun a a7=>sH (Z 0) (b3 0) rfl 6 l[j].main a1 a a7,fun p b=>⟨(bC p b).1,(bC p b).2.1,(bC p b).2.2,fun a a7=>?_⟩⟩;have aB:=bC p b;exact sH (Z (p.params+p.locals)) (b3 (p.params+p.locals)) (by show p.params+p.locals=((p.params+p.locals).toNat:Nat);omega) 6 p.body (e1.1 aA p b) a a7
end Go.Proofs.YtndkhgakfodldaaGreatDoor
