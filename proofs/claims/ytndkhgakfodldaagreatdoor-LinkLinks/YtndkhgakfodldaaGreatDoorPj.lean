import Derived.Test.YtndkhgakfodldaaGreatDoorPa
set_option maxRecDepth 100000
set_option maxHeartbeats 3200000
open Go.Proofs.Tryz
namespace Go.Proofs.YtndkhgakfodldaaGreatDoor
open Go.RowKit Go.Shelf
variable {R b:Nat} {l c:List Tk} {eq:World}
theorem F6 (R I:Nat) (a:OA) (d:List Tk) (f:Nat) (u:qm R I a d f) (l:List Tk) (w:World) (h:eG R a I d w l) (ag:3*l.length<=f) :
 ew 282 #[eL R 0] w (gk R a I d w (kO f l) (j9 (w.heap.size<=·))):=by
 have az:Hid (qm R I a d f):=u;have z:Hid (eG R a I d w l):=h;have ad:=h.lt;clear u h;go_enter func282,ntmps282;go_wp2_with fail;refine (pi R I a d l _ (z.alloc _)).mono ?_;rintro e eq ⟨H,⟨U,rfl⟩ | ⟨q,j,v,U,rfl,⟨Y,a9,rfl,ac,V,hx3⟩,bh⟩⟩
 . exact ⟨rfl,((eI.refl R w).alloc _).trans H,Or.inl ⟨by unfold kO;rw [U],rfl⟩⟩
 have b0:=H.size;simp at b0;have aI:=oG U;have s:Hid (pX l=some (q,j)):=U
 have g:Hid (eU ((eq.alloc (i1 q.op q.n q.mod q.name Y q.args.length a9))) (w.heap.size+1<=·) (some (ep eq.heap.size 0)) 1 (ft [q])):=
  qj (t:=174) (I:=a9) ac V hx3 (((eQ.refl eq _).alloc _).to (by simp)) (eT _ _) b0
 have a1:Hid (eI R w eq):=((eI.refl R w).alloc _).trans H;have n:Hid (eG R a I d eq j):=bh;have B:Hid (eq.heap[w.heap.size]? = some gx):=(H.block w.heap.size (by simp) (by omega)).trans (eT _ _);clear U ac V hx3 H bh;go_wp2_with fail;refine (az.block j _ ((n.alloc _).alloc _) (by omega)).mono ?_;rintro e w2 ⟨X,⟨U,rfl⟩ | ⟨b,t,v,U,rfl,⟨a5,a4,rfl,V⟩,aZ⟩⟩
 . exact ⟨rfl,((a1.alloc _).alloc _).trans X,Or.inl ⟨by unfold kO;rw [s.out];simp only [];rw [U],rfl⟩⟩
 have bl:=X.size;simp at bl;have Q:=sn _ _ _ _ U
 have O:Hid (kO f l=if eF t qz then (match ij f t.tail with | none=>none | some (o,a2)=>if o.length=0 then none else some (.mk 4 ⟨#[]⟩ ⟨#[]⟩ [q] b o,a2))
  else some (.mk 4 ⟨#[]⟩ ⟨#[]⟩ [q] b [],t)):=by show kO f l=_;unfold kO;rw [s.out];simp only [];rw [U];rfl
 have r:Hid (eI R w w2):=((a1.alloc _).alloc _).trans X;have aM:Hid (w2.heap[w.heap.size]? = some gx):=(X.block w.heap.size (by simp;omega) (by omega)).trans (fF (fF B))
 have bB:Hid (w2.heap[eq.heap.size+1]? = some (.cells #[em 4,.string ⟨#[]⟩,.string ⟨#[]⟩,.slice (some (ep eq.heap.size 0)) 1 1,eu,eu] 176 (0,0))):=(X.block (eq.heap.size+1) (by simp) (by omega)).trans (by
  have e:=eT (eq.alloc (i1 q.op q.n q.mod q.name Y q.args.length a9)) (jA 4 ⟨#[]⟩ ⟨#[]⟩ (some (ep eq.heap.size 0)) 1 1 none 0 0 none 0 0)
  simpa using e)
 obtain ⟨a3,G,J,S,a6,ap,aw⟩:=he bB
 have c:eU w2 (eq.heap.size+2<=·) a5 b.length (fw b):=by simpa using V
 -- the arguments lie below that block, the body above it
 have i:Hid (eU (w2.setCell ⟨eq.heap.size+1,4,none⟩ (.slice a5 b.length a4)) (fun k=>w.heap.size+1<=k/\k≠eq.heap.size+1) (some (ep eq.heap.size 0)) 1 (ft [q])):=by
  refine g.moves ⟨by simp;omega,fun k D x=>?_⟩
  have aA:k<eq.heap.size+1:=by simpa using D
  exact ⟨⟨x,by omega⟩,(fa (by show k≠eq.heap.size+1;omega) _).trans ((X.block k (by simp;omega) (by omega)).trans ((Below.refl _ _).alloc (eD _) _ |>.block k (by simp;omega)))⟩
 have ch:Hid (eU (w2.setCell ⟨eq.heap.size+1,4,none⟩ (.slice a5 b.length a4)) (fun k=>w.heap.size+1<=k/\k≠eq.heap.size+1) a5 b.length (fw b)):=
  c.moves ⟨by simp,fun k D x=>⟨⟨by omega,by omega⟩,fa (by show k≠eq.heap.size+1;omega) _⟩⟩
 have b3:Hid (eG R a I d (w2.setCell ⟨eq.heap.size+1,4,none⟩ (.slice a5 b.length a4)) t):=aZ.setAbove z (by show _<=eq.heap.size+1;omega) _;have ab:Hid (eI R w (w2.setCell ⟨eq.heap.size+1,4,none⟩ (.slice a5 b.length a4))):=r.set (by show _<=eq.heap.size+1;omega) _;have aP:Hid ((w2.setCell ⟨eq.heap.size+1,4,none⟩ (.slice a5 b.length a4)).heap[w.heap.size]? = some gx):=(fa (by show w.heap.size≠eq.heap.size+1;omega) _).trans aM;have bI:Hid ((w2.setCell ⟨eq.heap.size+1,4,none⟩ (.slice a5 b.length a4)).heap[eq.heap.size+1]? = some (.cells #[em 4,.string ⟨#[]⟩,.string ⟨#[]⟩,.slice (some (ep eq.heap.size 0)) 1 1,.slice a5 b.length a4,eu] 176 (0,0))):=heap_set bB _
 have bE:(w2.setCell ⟨eq.heap.size+1,4,none⟩ (.slice a5 b.length a4)).heap.size=w2.heap.size:=by simp only [gU]
 clear U X aZ V c g B aM a1 r n s;go_wp2_with fail;generalize w2.setCell ⟨eq.heap.size+1,4,none⟩ (.slice a5 b.length a4)=eC at *;clear a3 G J S a6 ap aw bB
 by_cases Z:eF t qz=true
 . have bx:=fN (by decide) Z
   refine (jR R I a d t qz eC (by decide) b3 Z).mono ?_;rintro e eA ⟨rfl,b4,C⟩;have bp:=C.size;go_wp2_with fail;refine (az.block t.tail eA b4 (by omega)).mono ?_;rintro e eJ ⟨ar,⟨U,rfl⟩ | ⟨o,a0,v,U,rfl,⟨av,aX,rfl,hx5⟩,bu⟩⟩
   . exact ⟨rfl,(ab.trans C).trans ar,Or.inl ⟨by rw [O.out,if_pos Z,U],rfl⟩⟩
   have bK:=ar.size;have aj:Hid (eI R w eJ):=(ab.trans C).trans ar;have bb:Hid (eJ.heap[w.heap.size]? = some gx):=(ar.block w.heap.size (by omega) (by omega)).trans ((C.block w.heap.size (by omega) (by omega)).trans aP);have aG:Hid (eJ.heap[eq.heap.size+1]? = some (.cells #[em 4,.string ⟨#[]⟩,.string ⟨#[]⟩,.slice (some (ep eq.heap.size 0)) 1 1,.slice a5 b.length a4,eu] 176 (0,0))):=(ar.block (eq.heap.size+1) (by omega) (by omega)).trans ((C.block (eq.heap.size+1) (by omega) (by omega)).trans bI);have am:eQ eC (fun k=>w.heap.size+1<=k/\k≠eq.heap.size+1) eJ (fun k=>w.heap.size+1<=k/\k≠eq.heap.size+1):=((eQ.refl eC _).keeps C (by intro k _ N;omega)).keeps ar (by intro k _ N;omega);obtain ⟨a3,G,J,S,a6,ap,aw⟩:=he bb;obtain ⟨bM,ax,bf,aQ,bn,bs,aO⟩:=he aG
   by_cases aa:o.length=0
   . have A:Hid (kO f l=none):=by show kO f l=_;rw [O.out,if_pos Z,U];simp only [];rw [if_pos aa]
     clear U b4 C bu ar am hx5;go_wp2_with fail;exact ⟨rfl,aj.set (by show _<=eq.heap.size+1;omega) _,Or.inl ⟨A,rfl⟩⟩
   . have A:Hid (kO f l=some (.mk 4 ⟨#[]⟩ ⟨#[]⟩ [q] b o,a0)):=by show kO f l=_;rw [O.out,if_pos Z,U];simp only [];rw [if_neg aa]
     have p:Hid (gk R a I d w (kO f l) (j9 (w.heap.size<=·)) (.returned (.agg #[em 4,.string ⟨#[]⟩,.string ⟨#[]⟩,.slice (some (ep eq.heap.size 0)) 1 1,.slice a5 b.length a4,.slice av o.length aX])) (set6 (eJ.setCell ⟨eq.heap.size+1,5,none⟩ (.slice av o.length aX)) w.heap.size (em 4) (.string ⟨#[]⟩) (.string ⟨#[]⟩) (.slice (some (ep eq.heap.size 0)) 1 1) (.slice a5 b.length a4) (.slice av o.length aX))):=by
      have m:eQ eJ (fun k=>w.heap.size+1<=k/\k≠eq.heap.size+1) (set6 (eJ.setCell ⟨eq.heap.size+1,5,none⟩ (.slice av o.length aX)) w.heap.size (em 4) (.string ⟨#[]⟩) (.string ⟨#[]⟩) (.slice (some (ep eq.heap.size 0)) 1 1) (.slice a5 b.length a4) (.slice av o.length aX)) (w.heap.size<=·):=
       (((eQ.refl eJ (fun k=>w.heap.size+1<=k/\k≠eq.heap.size+1)).set (p:=⟨eq.heap.size+1,5,none⟩) (by intro k _ N;exact N.2) (.slice av o.length aX)).set6 (b:=w.heap.size) (by intro k _ N;omega) (em 4) (.string ⟨#[]⟩) (.string ⟨#[]⟩) (.slice (some (ep eq.heap.size 0)) 1 1) (.slice a5 b.length a4) (.slice av o.length aX)).trans ⟨eD _,fun k _ N=>⟨by omega,rfl⟩⟩
      have ay:eQ eJ (eA.heap.size<=·) eJ (fun k=>w.heap.size+1<=k/\k≠eq.heap.size+1):=⟨eD _,fun k _ N=>⟨⟨by omega,by omega⟩,rfl⟩⟩
      exact q2 (s:=.mk 4 ⟨#[]⟩ ⟨#[]⟩ [q] b o) A ((aj.set (p:=⟨eq.heap.size+1,5,none⟩) (by show w.heap.size<=eq.heap.size+1;omega) (.slice av o.length aX)).set6 (b:=w.heap.size) (eD _) _ _ _ _ _ _) ((bu.setAbove z (p:=⟨eq.heap.size+1,5,none⟩) (by show w.heap.size<=eq.heap.size+1;omega) (.slice av o.length aX)).set6 z (b:=w.heap.size) (eD _) _ _ _ _ _ _) (eY _) (eY _) (i.moves (am.trans m)) (ch.moves (am.trans m)) ((hx5.moves ay).moves m)
     clear U b4 C bu ar am hx5;go_wp2_with fail;refine bodyPost_ret (v:=.agg #[em 4,.string ⟨#[]⟩,.string ⟨#[]⟩,.slice (some (ep eq.heap.size 0)) 1 1,.slice a5 b.length a4,.slice av o.length aX]) (by simp [results,results282,go_sem,a3,G,J,S,a6,ap]) rfl p
 . refine (jS R I a d t qz eC b3 (by simpa using Z)).mono ?_
   rintro e eA ⟨rfl,b4,C⟩;have bp:=C.size
   have A:Hid (kO f l=some (.mk 4 ⟨#[]⟩ ⟨#[]⟩ [q] b [],t)):=by show kO f l=_;rw [O.out,if_neg Z]
   have b1:Hid (eA.heap[w.heap.size]? = some gx):=(C.block w.heap.size (by omega) (by omega)).trans aP;have aF:Hid (eA.heap[eq.heap.size+1]? = some (.cells #[em 4,.string ⟨#[]⟩,.string ⟨#[]⟩,.slice (some (ep eq.heap.size 0)) 1 1,.slice a5 b.length a4,eu] 176 (0,0))):=(C.block (eq.heap.size+1) (by omega) (by omega)).trans bI
   have p:Hid (gk R a I d w (kO f l) (j9 (w.heap.size<=·)) (.returned (.agg #[em 4,.string ⟨#[]⟩,.string ⟨#[]⟩,.slice (some (ep eq.heap.size 0)) 1 1,.slice a5 b.length a4,eu])) (set6 eA w.heap.size (em 4) (.string ⟨#[]⟩) (.string ⟨#[]⟩) (.slice (some (ep eq.heap.size 0)) 1 1) (.slice a5 b.length a4) (eu))):=by
    have m:eQ eC (fun k=>w.heap.size+1<=k/\k≠eq.heap.size+1) (set6 eA w.heap.size (em 4) (.string ⟨#[]⟩) (.string ⟨#[]⟩) (.slice (some (ep eq.heap.size 0)) 1 1) (.slice a5 b.length a4) (eu)) (w.heap.size<=·):=
     (((eQ.refl eC (fun k=>w.heap.size+1<=k/\k≠eq.heap.size+1)).keeps C (by intro k _ N;omega)).set6 (b:=w.heap.size) (by intro k _ N;omega) (em 4) (.string ⟨#[]⟩) (.string ⟨#[]⟩) (.slice (some (ep eq.heap.size 0)) 1 1) (.slice a5 b.length a4) (eu)).trans ⟨eD _,fun k _ N=>⟨by omega,rfl⟩⟩
    exact q2 (s:=.mk 4 ⟨#[]⟩ ⟨#[]⟩ [q] b []) A ((ab.trans C).set6 (b:=w.heap.size) (eD _) _ _ _ _ _ _) (b4.set6 z (b:=w.heap.size) (eD _) _ _ _ _ _ _) (eY _) (eY _) (i.moves m) (ch.moves m) (Or.inl rfl)
   obtain ⟨a3,G,J,S,a6,ap,aw⟩:=he b1;obtain ⟨bM,ax,bf,aQ,bn,bs,aO⟩:=he aF;clear b4 C;go_wp2_with fail;refine bodyPost_ret (v:=.agg #[em 4,.string ⟨#[]⟩,.string ⟨#[]⟩,.slice (some (ep eq.heap.size 0)) 1 1,.slice a5 b.length a4,eu]) (by simp [results,results282,go_sem,a3,G,J,S,a6,ap]) rfl p
theorem F7 (R I:Nat) (a:OA) (d:List Tk) (f:Nat) (u:qm R I a d f) (l:List Tk) (w:World) (h:eG R a I d w l) (ag:3*l.length+1<=f+1) :
 ew 254 #[eL R 0] w (gk R a I d w (hi (f+1) l) (j9 (w.heap.size<=·))):=by
 have az:Hid (qm R I a d f):=u;have z:Hid (eG R a I d w l):=h;have ad:=h.lt;clear u h;go_enter func254,ntmps254;go_wp2_with fail
 obtain ⟨w0,ai⟩:∃ w0,w0=w.alloc gx:=⟨_,rfl⟩
 have au:Hid (eG R a I d w0 l):=by rw [ai];exact z.alloc _
 have ao:Hid (eI R w w0):=by rw [ai];exact (eI.refl R w).alloc _
 have c:Hid (w0.heap[w.heap.size]? = some gx):=by rw [ai];exact eT _ _
 have al:w.heap.size+1<=w0.heap.size:=by rw [ai];simp
 rw [← ai];clear ai
 by_cases T:eF l mY=true
 . have aI:=fN (by decide) T
   refine (jR R I a d l mY w0 (by decide) au T).mono ?_;rintro e u1 ⟨rfl,KR1,KK1⟩;have ar:=KK1.size;have L:Hid (u1.heap[w.heap.size]? = some gx):=(KK1.block w.heap.size (by omega) (by omega)).trans c;go_wp2_with fail;refine (F6 R I a d f az l.tail u1 KR1 (by omega)).mono ?_;rintro e u2 ⟨j,⟨U,rfl⟩ | ⟨s,t,v,U,rfl,⟨Y,a9,a5,a4,a7,c3,rfl,ac,V,hx3,hx4,hx5⟩,KR2⟩⟩
   . exact ⟨rfl,(ao.trans KK1).trans j,Or.inl ⟨by rw [Ap T,U],rfl⟩⟩
   have a0:Hid (u2.heap[w.heap.size]? = some gx):=(j.block w.heap.size (by omega) (by omega)).trans L;obtain ⟨a3,G,J,S,a6,ap,aw⟩:=he a0
   have p:Hid (gk R a I d w (hi (f+1) l) (j9 (w.heap.size<=·)) (.returned (.agg #[em s.op,.string s.mod,.string s.name,.slice Y s.args.length a9,.slice a5 s.body.length a4,.slice a7 s.other.length c3])) (set6 u2 w.heap.size (em s.op) (.string s.mod) (.string s.name) (.slice Y s.args.length a9) (.slice a5 s.body.length a4) (.slice a7 s.other.length c3))):=
    tM (s:=s) z (by rw [Ap T,U]) ((ao.trans KK1).trans j) KR2 ac V (K:=u1.heap.size) hx3 hx4 hx5 (by omega)
   clear U j KR2 KK1 KR1 ac V hx3 hx4 hx5;go_wp2_with fail;refine bodyPost_ret (v:=.agg #[em s.op,.string s.mod,.string s.name,.slice Y s.args.length a9,.slice a5 s.body.length a4,.slice a7 s.other.length c3]) (by simp [results,results254,go_sem,a3,G,J,S,a6,ap]) rfl p
 refine (jS R I a d l mY w0 au (by simpa using T)).mono ?_;rintro e eq ⟨rfl,bh,H⟩;have n:Hid (eG R a I d eq l):=bh;have a1:Hid (eI R w eq):=ao.trans H;have B:Hid (eq.heap[w.heap.size]? = some gx):=(H.block w.heap.size (by omega) (by omega)).trans c;have b0:=H.size
 have y:eF l mY=false:=by simpa using T
 clear bh H au ao c T;go_wp2_with fail
 by_cases E:eF l nO=true
 . have Q:=fN (by decide) E
   refine (jR R I a d l nO eq (by decide) n E).mono ?_;rintro e u1 ⟨rfl,KR1,KK1⟩;have ar:=KK1.size;have L:Hid (u1.heap[w.heap.size]? = some gx):=(KK1.block w.heap.size (by omega) (by omega)).trans B;go_wp2_with fail;refine (pi R I a d l.tail u1 KR1).mono ?_;rintro e u2 ⟨j,⟨U,rfl⟩ | ⟨q,t,v,U,rfl,⟨a5,a4,rfl,ac,V,hx3⟩,KR2⟩⟩
   . exact ⟨rfl,(a1.trans KK1).trans j,Or.inl ⟨by rw [wE y E,U],rfl⟩⟩
   have an:=j.size;have aD:=oG U;have a0:Hid (u2.heap[w.heap.size]? = some gx):=(j.block w.heap.size (by omega) (by omega)).trans L;have aF:Hid (pX l.tail=some (q,t)):=U
   have g:Hid (eU (u2.alloc (i1 q.op q.n q.mod q.name a5 q.args.length a4)) (w.heap.size+1<=·) (some (ep u2.heap.size 0)) 1 (ft [q])):=
    qj (t:=174) (I:=a4) ac V hx3 (((eQ.refl u2 _).alloc _).to (by omega)) (eT _ _) (by omega)
   have aa:Hid (eG R a I d u2 t):=KR2;have F:Hid (eI R w u2):=(a1.trans KK1).trans j;clear U ac V hx3 KR2 j KR1 KK1 L;go_wp2_with fail;refine (az.block t _ ((aa.alloc _).alloc _) (by omega)).mono ?_;rintro e u3 ⟨i,⟨U,rfl⟩ | ⟨b,a2,v,U,rfl,⟨a7,c3,rfl,hx3⟩,KR3⟩⟩
   . exact ⟨rfl,((F.alloc _).alloc _).trans i,Or.inl ⟨by rw [wE y E,aF.out];simp only [];rw [U],rfl⟩⟩
   have aj:=i.size;simp at aj
   have A:Hid (hi (f+1) l=some (.mk 5 ⟨#[]⟩ ⟨#[]⟩ [q] b [],a2)):=by show hi (f+1) l=_;rw [wE y E,aF.out];simp only [];rw [U]
   have af:Hid (u3.heap[w.heap.size]? = some gx):=(i.block w.heap.size (by simp;omega) (by omega)).trans (fF (fF a0))
   have aB:Hid (u3.heap[u2.heap.size+1]? = some (.cells #[em 5,.string ⟨#[]⟩,.string ⟨#[]⟩,.slice (some (ep u2.heap.size 0)) 1 1,eu,eu] 176 (0,0))):=(i.block (u2.heap.size+1) (by simp) (by omega)).trans (by
    have e:=eT (u2.alloc (i1 q.op q.n q.mod q.name a5 q.args.length a4)) (jA 5 ⟨#[]⟩ ⟨#[]⟩ (some (ep u2.heap.size 0)) 1 1 none 0 0 none 0 0)
    simpa using e)
   obtain ⟨a3,G,J,S,a6,ap,aw⟩:=he af;obtain ⟨bM,ax,bf,aQ,bn,bs,aO⟩:=he aB
   have av:eU u3 (u2.heap.size+2<=·) a7 b.length (fw b):=by simpa using hx3
   have p:Hid (gk R a I d w (hi (f+1) l) (j9 (w.heap.size<=·)) (.returned (.agg #[em 5,.string ⟨#[]⟩,.string ⟨#[]⟩,.slice (some (ep u2.heap.size 0)) 1 1,.slice a7 b.length c3,eu])) (set6 (u3.setCell ⟨u2.heap.size+1,4,none⟩ (.slice a7 b.length c3)) w.heap.size (em 5) (.string ⟨#[]⟩) (.string ⟨#[]⟩) (.slice (some (ep u2.heap.size 0)) 1 1) (.slice a7 b.length c3) (eu))):=by
    have m:eQ u3 (fun k=>w.heap.size+1<=k/\k≠u2.heap.size+1) (set6 (u3.setCell ⟨u2.heap.size+1,4,none⟩ (.slice a7 b.length c3)) w.heap.size (em 5) (.string ⟨#[]⟩) (.string ⟨#[]⟩) (.slice (some (ep u2.heap.size 0)) 1 1) (.slice a7 b.length c3) (eu)) (w.heap.size<=·):=
     (((eQ.refl u3 (fun k=>w.heap.size+1<=k/\k≠u2.heap.size+1)).set (p:=⟨u2.heap.size+1,4,none⟩) (by intro k _ N;exact N.2) (.slice a7 b.length c3)).set6 (b:=w.heap.size) (by intro k _ N;omega) (em 5) (.string ⟨#[]⟩) (.string ⟨#[]⟩) (.slice (some (ep u2.heap.size 0)) 1 1) (.slice a7 b.length c3) (eu)).trans ⟨eD _,fun k _ N=>⟨by omega,rfl⟩⟩
    have ay:eQ u3 (u2.heap.size+2<=·) u3 (fun k=>w.heap.size+1<=k/\k≠u2.heap.size+1):=⟨eD _,fun k _ N=>⟨⟨by omega,by omega⟩,rfl⟩⟩
    have am:eQ (u2.alloc (i1 q.op q.n q.mod q.name a5 q.args.length a4)) (w.heap.size+1<=·) u3 (fun k=>w.heap.size+1<=k/\k≠u2.heap.size+1):=by
     refine ⟨by simp;omega,fun k D x=>?_⟩
     have aA:k<u2.heap.size+1:=by simpa using D
     exact ⟨⟨x,by omega⟩,(i.block k (by simp;omega) (by omega)).trans ((Below.refl _ _).alloc (eD _) _ |>.block k (by simp;omega))⟩
    exact q2 (s:=.mk 5 ⟨#[]⟩ ⟨#[]⟩ [q] b []) A (((((F.alloc _).alloc _).trans i).set (p:=⟨u2.heap.size+1,4,none⟩) (by show w.heap.size<=u2.heap.size+1;omega) (.slice a7 b.length c3)).set6 (b:=w.heap.size) (eD _) _ _ _ _ _ _) ((KR3.setAbove z (p:=⟨u2.heap.size+1,4,none⟩) (by show w.heap.size<=u2.heap.size+1;omega) (.slice a7 b.length c3)).set6 z (b:=w.heap.size) (eD _) _ _ _ _ _ _) (eY _) (eY _) (g.moves (am.trans m)) ((av.moves ay).moves m) (Or.inl rfl)
   clear U i KR3 hx3 av;go_wp2_with fail;refine bodyPost_ret (v:=.agg #[em 5,.string ⟨#[]⟩,.string ⟨#[]⟩,.slice (some (ep u2.heap.size 0)) 1 1,.slice a7 b.length c3,eu]) (by simp [results,results254,go_sem,a3,G,J,S,a6,ap]) rfl p
 refine (jS R I a d l nO eq n (by simpa using E)).mono ?_;rintro e w2 ⟨rfl,aZ,X⟩;have ah:Hid (eG R a I d w2 l):=aZ;have r:Hid (eI R w w2):=a1.trans X;have aM:Hid (w2.heap[w.heap.size]? = some gx):=(X.block w.heap.size (by omega) (by omega)).trans B;have bl:=X.size
 have K:eF l nO=false:=by simpa using E
 clear aZ X n a1 B E;go_wp2_with fail
 by_cases M:eF l oC=true
 . have bx:=fN (by decide) M
   refine (jR R I a d l oC w2 (by decide) ah M).mono ?_;rintro e u1 ⟨rfl,KR1,KK1⟩;have ar:=KK1.size;have L:Hid (u1.heap[w.heap.size]? = some gx):=(KK1.block w.heap.size (by omega) (by omega)).trans aM;go_wp2_with fail;refine (pi R I a d l.tail u1 KR1).mono ?_;rintro e u2 ⟨j,⟨U,rfl⟩ | ⟨q,t,v,U,rfl,⟨a5,a4,rfl,ac,V,hx3⟩,KR2⟩⟩
   . exact ⟨rfl,(r.trans KK1).trans j,Or.inl ⟨by rw [wF y K M,U];rfl,rfl⟩⟩
   have an:=j.size;have a0:Hid (u2.heap[w.heap.size]? = some gx):=(j.block w.heap.size (by omega) (by omega)).trans L;have aF:Hid (pX l.tail=some (q,t)):=U
   have aN:Hid (q.mod.size<=maxLen/\q.name.size<=maxLen/\eU u2 (u1.heap.size<=·) a5 q.args.length (ft q.args)):=⟨ac,V,hx3⟩
   have aa:Hid (eG R a I d u2 t):=KR2;have F:Hid (eI R w u2):=(r.trans KK1).trans j;clear U ac V hx3 KR2 j KR1 KK1 L;go_wp2_with fail;refine (wB R I a d t _ (aa.alloc _) _ _ _ _ _ _ _ _ _ _ _ _).mono ?_;rintro e u3 ⟨i,⟨ak,rfl⟩ | ⟨ak,rfl,KR3⟩⟩
   . exact ⟨rfl,(F.alloc _).trans i,Or.inl ⟨by rw [wF y K M,aF.out];simp [ki,ak],rfl⟩⟩
   have aj:=i.size;simp at aj
   have A:Hid (hi (f+1) l=some (.mk 6 ⟨#[]⟩ ⟨#[]⟩ [q] [] [],t.tail)):=by show hi (f+1) l=_;rw [wF y K M,aF.out];simp [ki,ak]
   have af:Hid (u3.heap[w.heap.size]? = some gx):=(i.block w.heap.size (by simp;omega) (by omega)).trans (fF a0);obtain ⟨a3,G,J,S,a6,ap,aw⟩:=he af
   have p:Hid (gk R a I d w (hi (f+1) l) (j9 (w.heap.size<=·)) (.returned (.agg #[em 6,.string ⟨#[]⟩,.string ⟨#[]⟩,.slice (some (ep u2.heap.size 0)) 1 1,eu,eu])) (set6 u3 w.heap.size (em 6) (.string ⟨#[]⟩) (.string ⟨#[]⟩) (.slice (some (ep u2.heap.size 0)) 1 1) (eu) (eu))):=
    tM (s:=.mk 6 ⟨#[]⟩ ⟨#[]⟩ [q] [] []) z A ((F.alloc _).trans i) KR3 (eY _) (eY _) (K:=u1.heap.size) (qj (t:=174) (I:=a4) aN.1 aN.2.1 aN.2.2 (((eQ.refl u2 _).alloc _).keeps i (by intro k _ N;omega)) ((i.block u2.heap.size (by simp) (by omega)).trans (eT _ _)) an) (Or.inl rfl) (Or.inl rfl) (by omega)
   clear i KR3;go_wp2_with fail;refine bodyPost_ret (v:=.agg #[em 6,.string ⟨#[]⟩,.string ⟨#[]⟩,.slice (some (ep u2.heap.size 0)) 1 1,eu,eu]) (by simp [results,results254,go_sem,a3,G,J,S,a6,ap]) rfl p
 refine (jS R I a d l oC w2 ah (by simpa using M)).mono ?_;rintro e eC ⟨rfl,b3,ab⟩;have Z:Hid (eG R a I d eC l):=b3;have P:Hid (eI R w eC):=r.trans ab;have aP:Hid (eC.heap[w.heap.size]? = some gx):=(ab.block w.heap.size (by omega) (by omega)).trans aM;have bE:=ab.size
 have ae:eF l oC=false:=by simpa using M
 clear b3 ab ah r aM M;go_wp2_with fail
 by_cases o:eF l pz=true
 . have b9:=fN (by decide) o
   refine (jR R I a d l pz eC (by decide) Z o).mono ?_;rintro e u1 ⟨rfl,KR1,KK1⟩;have ar:=KK1.size;have L:Hid (u1.heap[w.heap.size]? = some gx):=(KK1.block w.heap.size (by omega) (by omega)).trans aP;go_wp2_with fail;refine (pi R I a d l.tail u1 KR1).mono ?_;rintro e u2 ⟨j,⟨U,rfl⟩ | ⟨q,t,v,U,rfl,⟨a5,a4,rfl,ac,V,hx3⟩,KR2⟩⟩
   . exact ⟨rfl,(P.trans KK1).trans j,Or.inl ⟨by rw [wG y K ae o,U];rfl,rfl⟩⟩
   have an:=j.size;have a0:Hid (u2.heap[w.heap.size]? = some gx):=(j.block w.heap.size (by omega) (by omega)).trans L;have aF:Hid (pX l.tail=some (q,t)):=U
   have aN:Hid (q.mod.size<=maxLen/\q.name.size<=maxLen/\eU u2 (u1.heap.size<=·) a5 q.args.length (ft q.args)):=⟨ac,V,hx3⟩
   have aa:Hid (eG R a I d u2 t):=KR2;have F:Hid (eI R w u2):=(P.trans KK1).trans j;clear U ac V hx3 KR2 j KR1 KK1 L;go_wp2_with fail;refine (wB R I a d t _ (aa.alloc _) _ _ _ _ _ _ _ _ _ _ _ _).mono ?_;rintro e u3 ⟨i,⟨ak,rfl⟩ | ⟨ak,rfl,KR3⟩⟩
   . exact ⟨rfl,(F.alloc _).trans i,Or.inl ⟨by rw [wG y K ae o,aF.out];simp [ki,ak],rfl⟩⟩
   have aj:=i.size;simp at aj
   have A:Hid (hi (f+1) l=some (.mk 7 ⟨#[]⟩ ⟨#[]⟩ [q] [] [],t.tail)):=by show hi (f+1) l=_;rw [wG y K ae o,aF.out];simp [ki,ak]
   have af:Hid (u3.heap[w.heap.size]? = some gx):=(i.block w.heap.size (by simp;omega) (by omega)).trans (fF a0);obtain ⟨a3,G,J,S,a6,ap,aw⟩:=he af
   have p:Hid (gk R a I d w (hi (f+1) l) (j9 (w.heap.size<=·)) (.returned (.agg #[em 7,.string ⟨#[]⟩,.string ⟨#[]⟩,.slice (some (ep u2.heap.size 0)) 1 1,eu,eu])) (set6 u3 w.heap.size (em 7) (.string ⟨#[]⟩) (.string ⟨#[]⟩) (.slice (some (ep u2.heap.size 0)) 1 1) (eu) (eu))):=
    tM (s:=.mk 7 ⟨#[]⟩ ⟨#[]⟩ [q] [] []) z A ((F.alloc _).trans i) KR3 (eY _) (eY _) (K:=u1.heap.size) (qj (t:=174) (I:=a4) aN.1 aN.2.1 aN.2.2 (((eQ.refl u2 _).alloc _).keeps i (by intro k _ N;omega)) ((i.block u2.heap.size (by simp) (by omega)).trans (eT _ _)) an) (Or.inl rfl) (Or.inl rfl) (by omega)
   clear i KR3;go_wp2_with fail;refine bodyPost_ret (v:=.agg #[em 7,.string ⟨#[]⟩,.string ⟨#[]⟩,.slice (some (ep u2.heap.size 0)) 1 1,eu,eu]) (by simp [results,results254,go_sem,a3,G,J,S,a6,ap]) rfl p
 refine (jS R I a d l pz eC Z (by simpa using o)).mono ?_;rintro e eA ⟨rfl,b4,C⟩;have W:Hid (eG R a I d eA l):=b4;have O:Hid (eI R w eA):=P.trans C;have b1:Hid (eA.heap[w.heap.size]? = some gx):=(C.block w.heap.size (by omega) (by omega)).trans aP;have bp:=C.size
 have aq:eF l pz=false:=by simpa using o
 clear b4 C Z P aP o;go_wp2_with fail;refine (F3 R I a d l eA W).mono ?_;rintro e u2 ⟨j,⟨U,rfl⟩ | ⟨s,t,v,U,rfl,⟨Y,a9,a5,a4,a7,c3,rfl,ac,V,hx3,hx4,hx5⟩,KR2⟩⟩
 . exact ⟨rfl,O.trans j,Or.inl ⟨by rw [wH y K ae aq,U];rfl,rfl⟩⟩
 have an:=j.size;have a0:Hid (u2.heap[w.heap.size]? = some gx):=(j.block w.heap.size (by omega) (by omega)).trans b1;have aF:Hid (ic l=some (s,t)):=U
 have aN:Hid (s.mod.size<=maxLen/\s.name.size<=maxLen/\eU u2 (eA.heap.size<=·) Y s.args.length (ft s.args)/\eU u2 (eA.heap.size<=·) a5 s.body.length (fw s.body)/\eU u2 (eA.heap.size<=·) a7 s.other.length (fw s.other)):=⟨ac,V,hx3,hx4,hx5⟩
 have aa:Hid (eG R a I d u2 t):=KR2;have F:Hid (eI R w u2):=O.trans j;clear U ac V hx3 hx4 hx5 KR2 j;go_wp2_with fail;refine (wB R I a d t _ aa _ _ _ _ _ _ _ _ _ _ _ _).mono ?_;rintro e u3 ⟨i,⟨ak,rfl⟩ | ⟨ak,rfl,KR3⟩⟩
 . exact ⟨rfl,F.trans i,Or.inl ⟨by rw [wH y K ae aq,aF.out];simp [ki,ak],rfl⟩⟩
 have aj:=i.size
 have A:Hid (hi (f+1) l=some (s,t.tail)):=by show hi (f+1) l=_;rw [wH y K ae aq,aF.out];simp [ki,ak]
 have af:Hid (u3.heap[w.heap.size]? = some gx):=(i.block w.heap.size (by omega) (by omega)).trans a0;obtain ⟨a3,G,J,S,a6,ap,aw⟩:=he af
 have p:Hid (gk R a I d w (hi (f+1) l) (j9 (w.heap.size<=·)) (.returned (.agg #[em s.op,.string s.mod,.string s.name,.slice Y s.args.length a9,.slice a5 s.body.length a4,.slice a7 s.other.length c3])) (set6 u3 w.heap.size (em s.op) (.string s.mod) (.string s.name) (.slice Y s.args.length a9) (.slice a5 s.body.length a4) (.slice a7 s.other.length c3))):=by
  have a8:eQ u2 (eA.heap.size<=·) u3 (eA.heap.size<=·):=(eQ.refl u2 _).keeps i (by intro k _ N;omega);exact tM (s:=s) z A (F.trans i) KR3 aN.1 aN.2.1 (K:=eA.heap.size) (aN.2.2.1.moves a8) (aN.2.2.2.1.moves a8) (aN.2.2.2.2.moves a8) (by omega)
 clear i KR3;go_wp2_with fail;refine bodyPost_ret (v:=.agg #[em s.op,.string s.mod,.string s.name,.slice Y s.args.length a9,.slice a5 s.body.length a4,.slice a7 s.other.length c3]) (by simp [results,results254,go_sem,a3,G,J,S,a6,ap]) rfl p
theorem F8 (R I:Nat) (a:OA) (d:List Tk):∀ f,qm R I a d f:=by
 intro f
 induction f using Nat.strongRecOn with
 | ind f aH=>
   cases f with
   | zero=>exact ⟨fun _ _ _ h=>by omega,fun _ _ _ h=>by omega⟩
   | succ f=>
     exact ⟨fun l b h ag=>F7 R I a d f (aH f (by omega)) l b h ag,fun l b h ag=>F5 R I a d f (fun g af=>aH g (by omega)) l b h ag⟩
def pB (l:List Tk):Option (List St × List Tk):=ij (3*l.length+8) l
theorem F9 {b:List St} (h:pB l=some (b,c)):c.length<l.length:=sn _ _ _ _ h
theorem Ar (R I:Nat) (a:OA) (d l:List Tk) (w:World) (h:eG R a I d w l) :
 ew 201 #[eL R 0] w (gk R a I d w (pB l) (wA (w.heap.size<=·))):=(F8 R I a d _).block l w h (by omega)
def hH (l:List Tk):List Tk:=if eF l fQ then l.tail else l
def gM (l:List Tk):Option (ge × List Tk):=
 if eF (hH l) sB then (match hS (hH l).tail with
  | none=>none
  | some (n,j)=>if eF j ln then (match pNum j.tail with | none=>none | some (k,t)=>if eF t hM then some (⟨1,n,eF l fQ,k⟩,t.tail) else none) else none)
 else if eF (hH l) sC then (match hS (hH l).tail with
  | none=>none
  | some (n,j)=>if eF j hM then some (⟨2,n,eF l fQ,0⟩,j.tail) else none)
 else if eF (hH l) sD then (match hS (hH l).tail with
  | none=>none
  | some (n,j)=>if eF j kT then (match pNum j.tail with | none=>none | some (k,t)=>if eF t kD then (if eF t.tail hM then some (⟨3,n,eF l fQ,k⟩,t.tail.tail) else none) else none) else none)
 else none
def kP:Nat->List ByteArray->List Tk->Option (List ByteArray × List Tk)
 | 0,_,_=>none
 | f+1,P,l=>
   if eF l oE then (match hS l.tail with | none=>none | some (n,j)=>kP f (P++[n]) j)
   else if eF l ib then some (P,l.tail) else none
def hk (t:ByteArray):Nat->List ByteArray->List Tk->Option (List ByteArray × List Tk)
 | 0,_,_=>none
 | f+1,P,l=>
   if eF l t then (match hS l.tail with | none=>none | some (n,j)=>if eF j hM then hk t f (P++[n]) j.tail else none)
   else some (P,l)
def kQ (l:List Tk):Option (List ByteArray × List Tk):=
 if eF l ib then some ([],l.tail) else (match hS l with | none=>none | some (n,j)=>kP (j.length+1) [n] j)
def jn (l:List Tk):Option (fH × List Tk):=
 if eF (hH l) xq then (match hS (hH l).tail with
  | none=>none
  | some (n,j)=>if eF j iU then (match kQ j.tail with
    | none=>none
    | some (H,t)=>(match hk kC (t.length+1) [] t with
      | none=>none
      | some (y,a2)=>(match pB a2 with | none=>none | some (b,i)=>some (⟨n,eF l fQ,H,y,b⟩,i)))) else none)
 else none
def q3 (l:List Tk):Bool:=
 let t:=if eF l fQ then (l.getD 1 kg).text else (ez l).text
 t.toList == sB.toList||t.toList == sC.toList||t.toList == sD.toList
def lG:Nat->List ge->List Tk->Option (List ge × List Tk)
 | 0,_,_=>none
 | f+1,P,l=>if q3 l then (match gM l with | none=>none | some (o,j)=>lG f (P++[o]) j) else some (P,l)
def lH:Nat->List fH->List Tk->Option (List fH × List Tk)
 | 0,_,_=>none
 | f+1,P,l=>if eF l qy then some (P,l.tail) else (match jn l with | none=>none | some (y,j)=>lH f (P++[y]) j)
def kv (l:List Tk):Option (fh × List Tk):=
 if eF l uy then (match hS l.tail with
  | none=>none
  | some (n,j)=>if eF j pA then (match hk lm (j.tail.length+1) [] j.tail with
    | none=>none
    | some (B,t)=>(match lG (t.length+1) [] t with
      | none=>none
      | some (y,a2)=>(match lH (a2.length+1) [] a2 with
        | none=>none
        | some (H,i)=>(match pB i with
          | none=>none
          | some (b,a0)=>if eF a0 lQ then some (⟨n,B,y,H,b⟩,a0.tail) else none)))) else none)
 else none
theorem wJ (l:List Tk):(hH l).length<=l.length:=by
 unfold hH;split
 . simp
 . exact eD _
theorem As {d:ge} (h:gM l=some (d,c)):c.length<l.length:=by
 have az:=wJ l;unfold gM at h
 split at h
 . rename_i Z
   have:=fN (by decide) Z
   split at h
   . cases h
   rename_i n j G
   have:=jZ G
   split at h
   . rename_i E
     have:=fN (by decide) E
     split at h
     . cases h
     rename_i k t J
     have:=Bd J
     split at h
     . rename_i M
       have:=fN (by decide) M;obtain ⟨_,rfl⟩:=fD (fe h);omega
     . cases h
   . cases h
 split at h
 . rename_i Z
   have:=fN (by decide) Z
   split at h
   . cases h
   rename_i n j G
   have:=jZ G
   split at h
   . rename_i M
     have:=fN (by decide) M;obtain ⟨_,rfl⟩:=fD (fe h);omega
   . cases h
 split at h
 . rename_i Z
   have:=fN (by decide) Z
   split at h
   . cases h
   rename_i n j G
   have:=jZ G
   split at h
   . rename_i E
     have:=fN (by decide) E
     split at h
     . cases h
     rename_i k t J
     have:=Bd J
     split at h
     . rename_i M
       have:=fN (by decide) M
       split at h
       . rename_i o
         have:=fN (by decide) o;obtain ⟨_,rfl⟩:=fD (fe h);omega
       . cases h
     . cases h
   . cases h
 . cases h
theorem At:∀ (f:Nat) (P:List ByteArray) (l c:List Tk) (q:List ByteArray),kP f P l=some (q,c)->c.length<=l.length
 | 0,_,_,_,_,h=>by simp [kP] at h
 | f + 1,P,l,c,q,h=>by
   unfold kP at h
   split at h
   . rename_i Z
     have:=fN (by decide) Z
     split at h
     . cases h
     rename_i n j G
     have:=jZ G;have:=At f _ _ _ _ h;omega
   split at h
   . rename_i Z
     have:=fN (by decide) Z;obtain ⟨_,rfl⟩:=fD (fe h);omega
   . cases h
theorem Au (t:ByteArray) (aj:0<t.size):∀ (f:Nat) (P:List ByteArray) (l c:List Tk) (q:List ByteArray),hk t f P l=some (q,c)->c.length<=l.length
 | 0,_,_,_,_,h=>by simp [hk] at h
 | f + 1,P,l,c,q,h=>by
   unfold hk at h
   split at h
   . rename_i Z
     have:=fN aj Z
     split at h
     . cases h
     rename_i n j G
     have:=jZ G
     split at h
     . rename_i E
       have:=fN (by decide) E;have:=Au t aj f _ _ _ _ h;omega
     . cases h
   . obtain ⟨_,rfl⟩:=fD (fe h)
     exact eD _
theorem Ga {x:List ByteArray} (h:kQ l=some (x,c)):c.length<=l.length:=by
 unfold kQ at h
 split at h
 . rename_i Z
   have:=fN (by decide) Z;obtain ⟨_,rfl⟩:=fD (fe h);omega
 split at h
 . cases h
 rename_i n j G
 have:=jZ G;have:=At _ _ _ _ _ h;omega
theorem Av {p:fH} (h:jn l=some (p,c)):c.length<l.length:=by
 have az:=wJ l;unfold jn at h
 split at h
 . rename_i Z
   have:=fN (by decide) Z
   split at h
   . cases h
   rename_i n j G
   have:=jZ G
   split at h
   . rename_i E
     have:=fN (by decide) E
     split at h
     . cases h
     rename_i H t J
     have:=Ga J
     split at h
     . cases h
     rename_i y a2 S
     have:=Au _ (by decide) _ _ _ _ _ S
     split at h
     . cases h
     rename_i b i a6
     have:=F9 a6;obtain ⟨_,rfl⟩:=fD (fe h);omega
   . cases h
 . cases h
theorem Gb (R I:Nat) (a:OA) (d l:List Tk) (w:World) (h:eG R a I d w l) :
 ew 198 #[eL R 0] w fun e r=>e = .returned (.bool (q3 l))/\et w r:=by
 have z:Hid (eG R a I d w l):=h;have K:=tK (ez l).kind (ez l).n (ez l).text;have ae:=tK (l.getD 1 kg).kind (l.getD 1 kg).n (l.getD 1 kg).text
 have aJ:Hid (eF l fQ=((ez l).text.toList == [112,117,98])):=by show eF l fQ=_;unfold eF;rw [iB fQ]
 have aK:Hid (q3 l=((if eF l fQ then (l.getD 1 kg).text else (ez l).text).toList == [99,111,110,115,116]||(if eF l fQ then (l.getD 1 kg).text else (ez l).text).toList == [118,97,114]||(if eF l fQ then (l.getD 1 kg).text else (ez l).text).toList == [97,114,114,97,121])):=by
  show q3 l=_;unfold q3;rw [iB sB,iB sC,iB sD]
 have aE:Hid (∀ r,eG R a I d r l->ew 252 #[eL R 0,em 1] r fun e T=>e = .returned (.agg #[em (l.getD 1 kg).kind,em (l.getD 1 kg).n,.string (l.getD 1 kg).text])/\Below r.heap.size r T):=fun r q=>Ae R I 1 a d l r (by omega) q
 clear h;go_enter func198,ntmps198;go_wp2_with fail;refine (sm R I a d l w z).mono ?_;rintro e eq ⟨rfl,ai⟩
 by_cases az:((ez l).text.toList == [112,117,98])=true
 . have m:Hid (eF l fQ=true):=aJ.trans az
   generalize l.getD 1 kg=x at *;go_wp2_with fail;refine (aE eq (z.later ai)).mono ?_;rintro e w2 ⟨rfl,aB⟩;go_wp2_with fail
   all_goals go_ret
   all_goals refine ⟨ret_bool ?_,ai.trans (aB.mono ai.size)⟩
   all_goals rw [aK.out,m.out];simp_all
 . have b:((ez l).text.toList == [112,117,98])=false:=by simpa using az
   have m:Hid (eF l fQ=false):=aJ.trans b;clear az;generalize ez l=x at *;go_wp2_with fail
   all_goals go_ret
   all_goals refine ⟨ret_bool ?_,ai⟩
   all_goals rw [aK.out,m.out];simp_all
def so (d:ge) (_:World) (v:Value):Prop:=v = .agg #[em d.kind,.string d.name,.bool d.pub,em d.n]/\d.name.size<=maxLen
abbrev set4 (w:World) (b:Nat) (Z aK aN aY:Value):World:=(((w.setCell (ep b 0) Z).setCell (ep b 1) aK).setCell (ep b 2) aN).setCell (ep b 3) aY
theorem eI.set4 {w:World} (h:eI R w eq) (az:w.heap.size<=b) (Z aK aN aY:Value):eI R w (set4 eq b Z aK aN aY):=(((h.set az Z).set az aK).set az aN).set az aY
theorem eG.set4 {I:Nat} {w0:World} {a:OA} {d g:List Tk} (h:eG R a I d eq l) (a3:eG R a I d w0 g) (az:w0.heap.size<=b) (Z aK aN aY:Value):eG R a I d (set4 eq b Z aK aN aY) l:=(((h.setAbove a3 az Z).setAbove a3 az aK).setAbove a3 az aN).setAbove a3 az aY
abbrev jF:Obj:=.cells #[em 0,.string ⟨#[]⟩,.bool false,em 0] 170 (0,0)
abbrev jG (k:Int) (x:ByteArray) (p:Bool) (n:Int):Obj:=.cells #[em k,.string x,.bool p,em n] 170 (0,0)
theorem Aw (R I:Nat) (a:OA) (d l:List Tk) (w:World) (h:eG R a I d w l) :
 ew 199 #[eL R 0] w (gk R a I d w (gM l) so):=by
 have z:Hid (eG R a I d w l):=h;have ad:=h.lt;clear h;go_enter func199,ntmps199;go_wp2_with fail;refine (wy R I a d l fQ _ (by decide) (z.alloc _)).mono ?_;rintro e eq ⟨rfl,RD,f⟩;have a0:Hid (eG R a I d eq (hH l)):=RD;have al:Hid (eI R w eq):=((eI.refl R w).alloc _).trans f;have b0:=f.size;simp at b0;have B:Hid (eq.heap[w.heap.size]? = some jF):=(f.block w.heap.size (by simp) (by omega)).trans (eT _ _);clear RD f;go_wp2_with fail
 obtain ⟨w2,ae⟩:∃ w2,w2=eq.alloc (jG 0 ⟨#[]⟩ (eF l fQ) 0):=⟨_,rfl⟩
 have ab:Hid (eG R a I d w2 (hH l)):=by rw [ae];exact a0.alloc _
 have a4:Hid (eI R w w2):=by rw [ae];exact al.alloc _
 have ac:Hid (w2.heap[w.heap.size]? = some jF):=by rw [ae];exact fF B
 have a5:Hid (w2.heap[eq.heap.size]? = some (jG 0 ⟨#[]⟩ (eF l fQ) 0)):=by rw [ae];exact eT _ _
 have bl:w2.heap.size=eq.heap.size+1:=by rw [ae];simp
 rw [← ae];clear ae a0 al B;refine (Ao R I _ a d (hH l) sB sC sD w2 bl.symm ab (by decide) (by decide) (by decide)).mono ?_;rintro e eC ⟨f,q⟩;have bE:=f.size;have m:Hid (eI R w eC):=a4.trans f;have N:Hid (eC.heap[w.heap.size]? = some jF):=(f.block w.heap.size (by omega) (by omega)).trans ac;have L:Hid (eC.heap[eq.heap.size]? = some (jG 0 ⟨#[]⟩ (eF l fQ) 0)):=(f.block eq.heap.size (by omega) (by omega)).trans a5;clear f ab a4 ac a5
 rcases q with ⟨D,b6,fX,rfl⟩ | ⟨D,rfl,RD⟩ | ⟨D,b6,rfl,RD⟩ | ⟨D,b6,fX,rfl,RD⟩
 . exact ⟨rfl,m,Or.inl ⟨by unfold gM;rw [D,b6,fX];rfl,rfl⟩⟩
 . have o:Hid (eG R a I d eC (hH l).tail):=RD
   clear RD;go_wp2_with fail;refine (kN R I a d (hH l).tail eC o).mono ?_;rintro e eA ⟨f,⟨U,rfl⟩ | ⟨x,i,v,U,rfl,⟨rfl,bu⟩,RD⟩⟩
   . exact ⟨rfl,m.trans f,Or.inl ⟨by unfold gM;rw [if_pos D,U],rfl⟩⟩
   have aB:Hid (gM l=if eF i ln then (match pNum i.tail with | none=>none | some (k,t)=>if eF t hM then some (⟨1,x,eF l fQ,k⟩,t.tail) else none) else none):=by show gM l=_;unfold gM;rw [if_pos D,U]<;>rfl
   clear U;have r:Hid (eG R a I d eA i):=RD;have y:Hid (eI R w eA):=m.trans f;have s:Hid (eA.heap[w.heap.size]? = some jF):=(f.block w.heap.size (by omega) (by omega)).trans N;have g:Hid (eA.heap[eq.heap.size]? = some (jG 0 ⟨#[]⟩ (eF l fQ) 0)):=(f.block eq.heap.size (by omega) (by omega)).trans L;have af:=f.size;clear RD f o m N L;have H:Hid (eG R a I d ((eA.setCell (ep eq.heap.size 1) (.string x)).setCell (ep eq.heap.size 0) (em 1)) i):=((r).setAbove z (by show _<=eq.heap.size;omega) _).setAbove z (by show _<=eq.heap.size;omega) _;have j:Hid (eI R w ((eA.setCell (ep eq.heap.size 1) (.string x)).setCell (ep eq.heap.size 0) (em 1))):=((y).set (by show _<=eq.heap.size;omega) _).set (by show _<=eq.heap.size;omega) _;have E:Hid (((eA.setCell (ep eq.heap.size 1) (.string x)).setCell (ep eq.heap.size 0) (em 1)).heap[w.heap.size]? = some jF):=(fa (by show w.heap.size≠eq.heap.size;omega) _).trans ((fa (by show w.heap.size≠eq.heap.size;omega) _).trans (s))
   have C:Hid (((eA.setCell (ep eq.heap.size 1) (.string x)).setCell (ep eq.heap.size 0) (em 1)).heap[eq.heap.size]? = some (jG 1 x (eF l fQ) 0)):=heap_set (heap_set (g) _) _
   have a8:((eA.setCell (ep eq.heap.size 1) (.string x)).setCell (ep eq.heap.size 0) (em 1)).heap.size=eA.heap.size:=by simp only [gU]
   obtain ⟨a3,G,J,S,a6⟩:=mm g
   have a7:eq.heap.size<eA.heap.size:=by omega
   go_wp2_with fail;generalize (eA.setCell (ep eq.heap.size 1) (.string x)).setCell (ep eq.heap.size 0) (em 1)=eJ at *;clear a3 G J S a6 r y s g;refine (jE R I _ a d i ln eJ (by omega) H (by decide)).mono ?_;rintro e eZ ⟨f,⟨b,rfl⟩ | ⟨b,rfl,RD⟩⟩
   . exact ⟨rfl,j.trans f,Or.inl ⟨by rw [aB.out,if_neg (by simp [b])],rfl⟩⟩
   have ao:Hid (gM l=(match pNum i.tail with | none=>none | some (k,t)=>if eF t hM then some (⟨1,x,eF l fQ,k⟩,t.tail) else none)):=by show gM l=_;rw [aB.out,if_pos b]
   clear b;have Y:Hid (eG R a I d eZ i.tail):=RD;have K:Hid (eI R w eZ):=j.trans f;have T:Hid (eZ.heap[w.heap.size]? = some jF):=(f.block w.heap.size (by omega) (by omega)).trans E;have X:Hid (eZ.heap[eq.heap.size]? = some (jG 1 x (eF l fQ) 0)):=(f.block eq.heap.size (by omega) (by omega)).trans C;have ah:=f.size;clear RD f H j E C;go_wp2_with fail;refine (ww R I a d i.tail eZ Y).mono ?_;rintro e eW ⟨f,⟨U,rfl⟩ | ⟨c,l7,v,U,rfl,rfl,RD⟩⟩
   . exact ⟨rfl,K.trans f,Or.inl ⟨by rw [ao.out,U],rfl⟩⟩
   have aq:Hid (gM l=if eF l7 hM then some (⟨1,x,eF l fQ,c⟩,l7.tail) else none):=by show gM l=_;rw [ao.out,U]
   clear U;have O:Hid (eG R a I d eW l7):=RD;have W:Hid (eI R w eW):=K.trans f;have Q:Hid (eW.heap[w.heap.size]? = some jF):=(f.block w.heap.size (by omega) (by omega)).trans T;have F:Hid (eW.heap[eq.heap.size]? = some (jG 1 x (eF l fQ) 0)):=(f.block eq.heap.size (by omega) (by omega)).trans X;have an:=f.size;clear RD f Y K T X;have Z:Hid (eG R a I d (eW.setCell (ep eq.heap.size 3) (em c)) l7):=(O).setAbove z (by show _<=eq.heap.size;omega) _;have M:Hid (eI R w (eW.setCell (ep eq.heap.size 3) (em c))):=(W).set (by show _<=eq.heap.size;omega) _;have a2:Hid ((eW.setCell (ep eq.heap.size 3) (em c)).heap[w.heap.size]? = some jF):=(fa (by show w.heap.size≠eq.heap.size;omega) _).trans (Q);have a1:Hid ((eW.setCell (ep eq.heap.size 3) (em c)).heap[eq.heap.size]? = some (jG 1 x (eF l fQ) c)):=heap_set (F) _
   have am:(eW.setCell (ep eq.heap.size 3) (em c)).heap.size=eW.heap.size:=by simp only [gU]
   obtain ⟨a3,G,J,S,a6⟩:=mm F
   have aj:eq.heap.size<eW.heap.size:=by omega
   go_wp2_with fail;generalize eW.setCell (ep eq.heap.size 3) (em c)=aY at *;clear a3 G J S a6 O W Q F;refine (jE R I _ a d l7 hM aY (by omega) Z (by decide)).mono ?_;rintro e aZ ⟨n,⟨b,rfl⟩ | ⟨b,rfl,ZR⟩⟩
   . exact ⟨rfl,M.trans n,Or.inl ⟨by rw [aq.out,if_neg (by simp [b])],rfl⟩⟩
   have u:=n.size
   have A:Hid (gM l=some (⟨1,x,eF l fQ,c⟩,l7.tail)):=by show gM l=_;rw [aq.out,if_pos b]
   have V:Hid (aZ.heap[w.heap.size]? = some jF):=(n.block w.heap.size (by omega) (by omega)).trans a2;have P:Hid (aZ.heap[eq.heap.size]? = some (jG 1 x (eF l fQ) c)):=(n.block eq.heap.size (by omega) (by omega)).trans a1;obtain ⟨a3,G,J,S,a6⟩:=mm V;obtain ⟨bM,ax,bf,aQ,bn⟩:=mm P
   have p:Hid (gk R a I d w (gM l) so (.returned (.agg #[em 1,.string x,.bool (eF l fQ),em c])) (set4 aZ w.heap.size (em 1) (.string x) (.bool (eF l fQ)) (em c))):=
    ⟨(M.trans n).set4 (eD _) _ _ _ _,Or.inr ⟨⟨1,x,eF l fQ,c⟩,l7.tail,_,A,rfl,⟨rfl,bu⟩,ZR.set4 z (eD _) _ _ _ _⟩⟩
   clear n ZR b;go_wp2_with fail;refine bodyPost_ret (v:=.agg #[em 1,.string x,.bool (eF l fQ),em c]) (by simp [results,results199,go_sem,a3,G,J,S]) rfl p
 . have o:Hid (eG R a I d eC (hH l).tail):=RD
   clear RD;go_wp2_with fail;refine (kN R I a d (hH l).tail eC o).mono ?_;rintro e eA ⟨f,⟨U,rfl⟩ | ⟨x,i,v,U,rfl,⟨rfl,bu⟩,RD⟩⟩
   . exact ⟨rfl,m.trans f,Or.inl ⟨by unfold gM;rw [if_neg (by simp [D]),if_pos b6,U],rfl⟩⟩
   have aB:Hid (gM l=if eF i hM then some (⟨2,x,eF l fQ,0⟩,i.tail) else none):=by show gM l=_;unfold gM;rw [if_neg (by simp [D]),if_pos b6,U]<;>rfl
   clear U;have r:Hid (eG R a I d eA i):=RD;have y:Hid (eI R w eA):=m.trans f;have s:Hid (eA.heap[w.heap.size]? = some jF):=(f.block w.heap.size (by omega) (by omega)).trans N;have g:Hid (eA.heap[eq.heap.size]? = some (jG 0 ⟨#[]⟩ (eF l fQ) 0)):=(f.block eq.heap.size (by omega) (by omega)).trans L;have af:=f.size;clear RD f o m N L;have H:Hid (eG R a I d ((eA.setCell (ep eq.heap.size 1) (.string x)).setCell (ep eq.heap.size 0) (em 2)) i):=((r).setAbove z (by show _<=eq.heap.size;omega) _).setAbove z (by show _<=eq.heap.size;omega) _;have j:Hid (eI R w ((eA.setCell (ep eq.heap.size 1) (.string x)).setCell (ep eq.heap.size 0) (em 2))):=((y).set (by show _<=eq.heap.size;omega) _).set (by show _<=eq.heap.size;omega) _;have E:Hid (((eA.setCell (ep eq.heap.size 1) (.string x)).setCell (ep eq.heap.size 0) (em 2)).heap[w.heap.size]? = some jF):=(fa (by show w.heap.size≠eq.heap.size;omega) _).trans ((fa (by show w.heap.size≠eq.heap.size;omega) _).trans (s))
   have C:Hid (((eA.setCell (ep eq.heap.size 1) (.string x)).setCell (ep eq.heap.size 0) (em 2)).heap[eq.heap.size]? = some (jG 2 x (eF l fQ) 0)):=heap_set (heap_set (g) _) _
   have a8:((eA.setCell (ep eq.heap.size 1) (.string x)).setCell (ep eq.heap.size 0) (em 2)).heap.size=eA.heap.size:=by simp only [gU]
   obtain ⟨a3,G,J,S,a6⟩:=mm g
   have a7:eq.heap.size<eA.heap.size:=by omega
   go_wp2_with fail;generalize (eA.setCell (ep eq.heap.size 1) (.string x)).setCell (ep eq.heap.size 0) (em 2)=eJ at *;clear a3 G J S a6 r y s g;refine (jE R I _ a d i hM eJ (by omega) H (by decide)).mono ?_;rintro e aZ ⟨n,⟨b,rfl⟩ | ⟨b,rfl,ZR⟩⟩
   . exact ⟨rfl,j.trans n,Or.inl ⟨by rw [aB.out,if_neg (by simp [b])],rfl⟩⟩
   have u:=n.size
   have A:Hid (gM l=some (⟨2,x,eF l fQ,0⟩,i.tail)):=by show gM l=_;rw [aB.out,if_pos b]
   have V:Hid (aZ.heap[w.heap.size]? = some jF):=(n.block w.heap.size (by omega) (by omega)).trans E;have P:Hid (aZ.heap[eq.heap.size]? = some (jG 2 x (eF l fQ) 0)):=(n.block eq.heap.size (by omega) (by omega)).trans C;obtain ⟨a3,G,J,S,a6⟩:=mm V;obtain ⟨bM,ax,bf,aQ,bn⟩:=mm P
   have p:Hid (gk R a I d w (gM l) so (.returned (.agg #[em 2,.string x,.bool (eF l fQ),em 0])) (set4 aZ w.heap.size (em 2) (.string x) (.bool (eF l fQ)) (em 0))):=
    ⟨(j.trans n).set4 (eD _) _ _ _ _,Or.inr ⟨⟨2,x,eF l fQ,0⟩,i.tail,_,A,rfl,⟨rfl,bu⟩,ZR.set4 z (eD _) _ _ _ _⟩⟩
   clear n ZR b;go_wp2_with fail;refine bodyPost_ret (v:=.agg #[em 2,.string x,.bool (eF l fQ),em 0]) (by simp [results,results199,go_sem,a3,G,J,S]) rfl p
 . have o:Hid (eG R a I d eC (hH l).tail):=RD
   clear RD;go_wp2_with fail;refine (kN R I a d (hH l).tail eC o).mono ?_;rintro e eA ⟨f,⟨U,rfl⟩ | ⟨x,i,v,U,rfl,⟨rfl,bu⟩,RD⟩⟩
   . exact ⟨rfl,m.trans f,Or.inl ⟨by unfold gM;rw [if_neg (by simp [D]),if_neg (by simp [b6]),if_pos fX,U],rfl⟩⟩
   have aB:Hid (gM l=if eF i kT then (match pNum i.tail with | none=>none | some (k,t)=>if eF t kD then (if eF t.tail hM then some (⟨3,x,eF l fQ,k⟩,t.tail.tail) else none) else none) else none):=by show gM l=_;unfold gM;rw [if_neg (by simp [D]),if_neg (by simp [b6]),if_pos fX,U]<;>rfl
   clear U;have r:Hid (eG R a I d eA i):=RD;have y:Hid (eI R w eA):=m.trans f;have s:Hid (eA.heap[w.heap.size]? = some jF):=(f.block w.heap.size (by omega) (by omega)).trans N;have g:Hid (eA.heap[eq.heap.size]? = some (jG 0 ⟨#[]⟩ (eF l fQ) 0)):=(f.block eq.heap.size (by omega) (by omega)).trans L;have af:=f.size;clear RD f o m N L;have H:Hid (eG R a I d ((eA.setCell (ep eq.heap.size 1) (.string x)).setCell (ep eq.heap.size 0) (em 3)) i):=((r).setAbove z (by show _<=eq.heap.size;omega) _).setAbove z (by show _<=eq.heap.size;omega) _;have j:Hid (eI R w ((eA.setCell (ep eq.heap.size 1) (.string x)).setCell (ep eq.heap.size 0) (em 3))):=((y).set (by show _<=eq.heap.size;omega) _).set (by show _<=eq.heap.size;omega) _;have E:Hid (((eA.setCell (ep eq.heap.size 1) (.string x)).setCell (ep eq.heap.size 0) (em 3)).heap[w.heap.size]? = some jF):=(fa (by show w.heap.size≠eq.heap.size;omega) _).trans ((fa (by show w.heap.size≠eq.heap.size;omega) _).trans (s))
   have C:Hid (((eA.setCell (ep eq.heap.size 1) (.string x)).setCell (ep eq.heap.size 0) (em 3)).heap[eq.heap.size]? = some (jG 3 x (eF l fQ) 0)):=heap_set (heap_set (g) _) _
   have a8:((eA.setCell (ep eq.heap.size 1) (.string x)).setCell (ep eq.heap.size 0) (em 3)).heap.size=eA.heap.size:=by simp only [gU]
   obtain ⟨a3,G,J,S,a6⟩:=mm g
   have a7:eq.heap.size<eA.heap.size:=by omega
   go_wp2_with fail;generalize (eA.setCell (ep eq.heap.size 1) (.string x)).setCell (ep eq.heap.size 0) (em 3)=eJ at *;clear a3 G J S a6 r y s g;refine (jE R I _ a d i kT eJ (by omega) H (by decide)).mono ?_;rintro e eZ ⟨f,⟨b,rfl⟩ | ⟨b,rfl,RD⟩⟩
   . exact ⟨rfl,j.trans f,Or.inl ⟨by rw [aB.out,if_neg (by simp [b])],rfl⟩⟩
   have ao:Hid (gM l=(match pNum i.tail with | none=>none | some (k,t)=>if eF t kD then (if eF t.tail hM then some (⟨3,x,eF l fQ,k⟩,t.tail.tail) else none) else none)):=by show gM l=_;rw [aB.out,if_pos b]
   clear b;have Y:Hid (eG R a I d eZ i.tail):=RD;have K:Hid (eI R w eZ):=j.trans f;have T:Hid (eZ.heap[w.heap.size]? = some jF):=(f.block w.heap.size (by omega) (by omega)).trans E;have X:Hid (eZ.heap[eq.heap.size]? = some (jG 3 x (eF l fQ) 0)):=(f.block eq.heap.size (by omega) (by omega)).trans C;have ah:=f.size;clear RD f H j E C;go_wp2_with fail;refine (ww R I a d i.tail eZ Y).mono ?_;rintro e eW ⟨f,⟨U,rfl⟩ | ⟨c,l7,v,U,rfl,rfl,RD⟩⟩
   . exact ⟨rfl,K.trans f,Or.inl ⟨by rw [ao.out,U],rfl⟩⟩
   have aq:Hid (gM l=if eF l7 kD then (if eF l7.tail hM then some (⟨3,x,eF l fQ,c⟩,l7.tail.tail) else none) else none):=by show gM l=_;rw [ao.out,U]
   clear U;have O:Hid (eG R a I d eW l7):=RD;have W:Hid (eI R w eW):=K.trans f;have Q:Hid (eW.heap[w.heap.size]? = some jF):=(f.block w.heap.size (by omega) (by omega)).trans T;have F:Hid (eW.heap[eq.heap.size]? = some (jG 3 x (eF l fQ) 0)):=(f.block eq.heap.size (by omega) (by omega)).trans X;have an:=f.size;clear RD f Y K T X;have Z:Hid (eG R a I d (eW.setCell (ep eq.heap.size 3) (em c)) l7):=(O).setAbove z (by show _<=eq.heap.size;omega) _;have M:Hid (eI R w (eW.setCell (ep eq.heap.size 3) (em c))):=(W).set (by show _<=eq.heap.size;omega) _;have a2:Hid ((eW.setCell (ep eq.heap.size 3) (em c)).heap[w.heap.size]? = some jF):=(fa (by show w.heap.size≠eq.heap.size;omega) _).trans (Q);have a1:Hid ((eW.setCell (ep eq.heap.size 3) (em c)).heap[eq.heap.size]? = some (jG 3 x (eF l fQ) c)):=heap_set (F) _
   have am:(eW.setCell (ep eq.heap.size 3) (em c)).heap.size=eW.heap.size:=by simp only [gU]
   obtain ⟨a3,G,J,S,a6⟩:=mm F
   have aj:eq.heap.size<eW.heap.size:=by omega
   go_wp2_with fail;generalize eW.setCell (ep eq.heap.size 3) (em c)=aY at *;clear a3 G J S a6 O W Q F;refine (jE R I _ a d l7 kD aY (by omega) Z (by decide)).mono ?_;rintro e bd ⟨f,⟨b,rfl⟩ | ⟨b,rfl,RD⟩⟩
   . exact ⟨rfl,M.trans f,Or.inl ⟨by rw [aq.out,if_neg (by simp [b])],rfl⟩⟩
   have a9:Hid (gM l=if eF l7.tail hM then some (⟨3,x,eF l fQ,c⟩,l7.tail.tail) else none):=by show gM l=_;rw [aq.out,if_pos b]
   clear b;have ak:Hid (eG R a I d bd l7.tail):=RD;have aa:Hid (eI R w bd):=M.trans f;have ag:Hid (bd.heap[w.heap.size]? = some jF):=(f.block w.heap.size (by omega) (by omega)).trans a2;have ai:Hid (bd.heap[eq.heap.size]? = some (jG 3 x (eF l fQ) c)):=(f.block eq.heap.size (by omega) (by omega)).trans a1;have ap:=f.size;clear RD f Z M a2 a1;go_wp2_with fail;refine (jE R I _ a d l7.tail hM bd (by omega) ak (by decide)).mono ?_;rintro e aZ ⟨n,⟨b,rfl⟩ | ⟨b,rfl,ZR⟩⟩
   . exact ⟨rfl,aa.trans n,Or.inl ⟨by rw [a9.out,if_neg (by simp [b])],rfl⟩⟩
   have u:=n.size
   have A:Hid (gM l=some (⟨3,x,eF l fQ,c⟩,l7.tail.tail)):=by show gM l=_;rw [a9.out,if_pos b]
   have V:Hid (aZ.heap[w.heap.size]? = some jF):=(n.block w.heap.size (by omega) (by omega)).trans ag;have P:Hid (aZ.heap[eq.heap.size]? = some (jG 3 x (eF l fQ) c)):=(n.block eq.heap.size (by omega) (by omega)).trans ai;obtain ⟨a3,G,J,S,a6⟩:=mm V;obtain ⟨bM,ax,bf,aQ,bn⟩:=mm P
   have p:Hid (gk R a I d w (gM l) so (.returned (.agg #[em 3,.string x,.bool (eF l fQ),em c])) (set4 aZ w.heap.size (em 3) (.string x) (.bool (eF l fQ)) (em c))):=
    ⟨(aa.trans n).set4 (eD _) _ _ _ _,Or.inr ⟨⟨3,x,eF l fQ,c⟩,l7.tail.tail,_,A,rfl,⟨rfl,bu⟩,ZR.set4 z (eD _) _ _ _ _⟩⟩
   clear n ZR b;go_wp2_with fail;refine bodyPost_ret (v:=.agg #[em 3,.string x,.bool (eF l fQ),em c]) (by simp [results,results199,go_sem,a3,G,J,S]) rfl p
end Go.Proofs.YtndkhgakfodldaaGreatDoor
