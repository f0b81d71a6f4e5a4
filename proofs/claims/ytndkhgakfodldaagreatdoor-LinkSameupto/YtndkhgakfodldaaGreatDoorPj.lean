import Derived.Test.YtndkhgakfodldaaGreatDoorPa
set_option maxRecDepth 100000
set_option maxHeartbeats 3200000
open Go.Proofs.Tryz
namespace Go.Proofs.YtndkhgakfodldaaGreatDoor
open Go.RowKit Go.Shelf
theorem IA (R q:Nat) (a:OA) (d:List Tk) (ai:ko d) (f:Nat) (u:qq R q a d f) (l:List Tk) (w:World) (h:dH R a q d w l) (Y:3*l.length<=f) :
 dw 282 #[dF R 0] w (fL R a q d w (kG f l) (kF (w.heap.size<=·))):=by
 have y:Hid (qq R q a d f):=u;have z:Hid (dH R a q d w l):=h;have ad:=h.lt;clear u h;go_enter func282,ntmps282;go_wp2_with fail;refine (rG R q a d ai l _ (z.alloc _)).mono ?_;rintro e dk ⟨W,⟨Z,rfl⟩ | ⟨x,P,v,Z,rfl,⟨E,ah,rfl,a4,am,hx3⟩,b4⟩⟩
 . exact ⟨rfl,((dK.refl R w).alloc _).trans W,Or.inl ⟨by unfold kG;rw [Z],rfl⟩⟩
 have ba:=W.size;simp at ba;have bg:=pK Z;have aO:Hid (pX l=some (x,P)):=Z
 have bl:Hid (ee ((dk.alloc (kC x.op x.n x.mod x.name E x.args.length ah))) (w.heap.size+1<=·) (some (dj dk.heap.size 0)) 1 (eV [x])):=
  uH (t:=174) (q:=ah) a4 am hx3 (((dU.refl dk _).alloc _).to Ob) (dX _ _) ba
 have a2:Hid (dK R w dk):=((dK.refl R w).alloc _).trans W;have n:Hid (dH R a q d dk P):=b4;have B:Hid (dk.heap[w.heap.size]? = some fU):=(W.block w.heap.size Ob N7).trans (dX _ _);clear Z a4 am hx3 W b4;go_wp2_with fail;refine (y.block P _ ((n.alloc _).alloc _) N7).mono ?_;rintro e w2 ⟨T,⟨Z,rfl⟩ | ⟨p,j,v,Z,rfl,⟨a0,ae,rfl,am⟩,aY⟩⟩
 . exact ⟨rfl,((a2.alloc _).alloc _).trans T,Or.inl ⟨by unfold kG;rw [aO.out];simp only [];rw [Z],rfl⟩⟩
 have bA:=T.size;simp at bA;have a9:=uJ _ _ _ _ Z
 have g:Hid (kG f l=if dG j r2 then (match iE f j.tail with | none=>none | some (aj,D)=>if aj.length=0 then none else some (.mk 4 ⟨#[]⟩ ⟨#[]⟩ [x] p aj,D))
  else some (.mk 4 ⟨#[]⟩ ⟨#[]⟩ [x] p [],j)):=by show kG f l=_;unfold kG;rw [aO.out];simp only [];rw [Z];rfl
 have K:Hid (dK R w w2):=((a2.alloc _).alloc _).trans T;have O:Hid (w2.heap[w.heap.size]? = some fU):=(T.block w.heap.size Of N7).trans (eR (eR B))
 have aG:Hid (w2.heap[dk.heap.size+1]? = some (.cells #[di 4,.string ⟨#[]⟩,.string ⟨#[]⟩,.slice (some (dj dk.heap.size 0)) 1 1,dt,dt] 176 (0,0))):=(T.block (dk.heap.size+1) Ob N7).trans (by
  have e:=dX (dk.alloc (kC x.op x.n x.mod x.name E x.args.length ah)) (jz 4 ⟨#[]⟩ ⟨#[]⟩ (some (dj dk.heap.size 0)) 1 1 none 0 0 none 0 0)
  simpa using e)
 obtain ⟨ab,F,J,U,aa,aB,bj⟩:=ha aG
 have c:ee w2 (dk.heap.size+2<=·) a0 p.length (eE p):=by simpa using am
 -- the arguments lie below that block, the body above it
 have r:Hid (ee (w2.setCell ⟨dk.heap.size+1,4,none⟩ (.slice a0 p.length ae)) (fun k=>w.heap.size+1<=k/\k≠dk.heap.size+1) (some (dj dk.heap.size 0)) 1 (eV [x])):=by
  refine bl.moves ⟨Of,fun k Q o=>?_⟩
  have H:k<dk.heap.size+1:=by simpa using Q
  exact ⟨⟨o,N7⟩,(eh (by show k≠dk.heap.size+1;omega) _).trans ((T.block k Of N7).trans ((Below.refl _ _).alloc (dA _) _ |>.block k Of))⟩
 have co:Hid (ee (w2.setCell ⟨dk.heap.size+1,4,none⟩ (.slice a0 p.length ae)) (fun k=>w.heap.size+1<=k/\k≠dk.heap.size+1) a0 p.length (eE p)):=
  c.moves ⟨Ob,fun k Q o=>⟨⟨N7,N7⟩,eh (by show k≠dk.heap.size+1;omega) _⟩⟩
 have b3:Hid (dH R a q d (w2.setCell ⟨dk.heap.size+1,4,none⟩ (.slice a0 p.length ae)) j):=aY.setAbove z PX _;have i:Hid (dK R w (w2.setCell ⟨dk.heap.size+1,4,none⟩ (.slice a0 p.length ae))):=K.set PX _;have t:Hid ((w2.setCell ⟨dk.heap.size+1,4,none⟩ (.slice a0 p.length ae)).heap[w.heap.size]? = some fU):=(eh (by show w.heap.size≠dk.heap.size+1;omega) _).trans O;have aZ:Hid ((w2.setCell ⟨dk.heap.size+1,4,none⟩ (.slice a0 p.length ae)).heap[dk.heap.size+1]? = some (.cells #[di 4,.string ⟨#[]⟩,.string ⟨#[]⟩,.slice (some (dj dk.heap.size 0)) 1 1,.slice a0 p.length ae,dt] 176 (0,0))):=heap_set aG _
 have bX:(w2.setCell ⟨dk.heap.size+1,4,none⟩ (.slice a0 p.length ae)).heap.size=w2.heap.size:=O9
 clear Z T aY am c bl B O a2 K n aO;go_wp2_with fail;generalize w2.setCell ⟨dk.heap.size+1,4,none⟩ (.slice a0 p.length ae)=dC at *;clear ab F J U aa aB bj aG
 by_cases a8:dG j r2=true
 . have bf:=f9 N9 a8
   refine (lx R q a d j r2 dC N9 b3 a8).mono ?_;rintro e dD ⟨rfl,al,C⟩;have bv:=C.size;go_wp2_with fail;refine (y.block j.tail dD al N7).mono ?_;rintro e dJ ⟨s,⟨Z,rfl⟩ | ⟨aj,l5,v,Z,rfl,⟨V,av,rfl,hx5⟩,az⟩⟩
   . exact ⟨rfl,(i.trans C).trans s,Or.inl ⟨by rw [g.out,if_pos a8,Z],rfl⟩⟩
   have bV:=s.size;have ac:Hid (dK R w dJ):=(i.trans C).trans s;have bu:Hid (dJ.heap[w.heap.size]? = some fU):=(s.block w.heap.size N7 N7).trans ((C.block w.heap.size N7 N7).trans t);have b9:Hid (dJ.heap[dk.heap.size+1]? = some (.cells #[di 4,.string ⟨#[]⟩,.string ⟨#[]⟩,.slice (some (dj dk.heap.size 0)) 1 1,.slice a0 p.length ae,dt] 176 (0,0))):=(s.block (dk.heap.size+1) N7 N7).trans ((C.block (dk.heap.size+1) N7 N7).trans aZ);have b:dU dC (fun k=>w.heap.size+1<=k/\k≠dk.heap.size+1) dJ (fun k=>w.heap.size+1<=k/\k≠dk.heap.size+1):=((dU.refl dC _).keeps C Pl).keeps s Pl;obtain ⟨ab,F,J,U,aa,aB,bj⟩:=ha bu;obtain ⟨bU,bd,bs,bI,bM,bL,g6⟩:=ha b9
   by_cases ap:aj.length=0
   . have A:Hid (kG f l=none):=by show kG f l=_;rw [g.out,if_pos a8,Z];simp only [];rw [if_pos ap]
     clear Z al C az s b hx5;go_wp2_with fail;exact ⟨rfl,ac.set PX _,Or.inl ⟨A,rfl⟩⟩
   . have A:Hid (kG f l=some (.mk 4 ⟨#[]⟩ ⟨#[]⟩ [x] p aj,l5)):=by show kG f l=_;rw [g.out,if_pos a8,Z];simp only [];rw [if_neg ap]
     have aD:Hid (fL R a q d w (kG f l) (kF (w.heap.size<=·)) (.returned (.agg #[di 4,.string ⟨#[]⟩,.string ⟨#[]⟩,.slice (some (dj dk.heap.size 0)) 1 1,.slice a0 p.length ae,.slice V aj.length av])) (set6 (dJ.setCell ⟨dk.heap.size+1,5,none⟩ (.slice V aj.length av)) w.heap.size (di 4) (.string ⟨#[]⟩) (.string ⟨#[]⟩) (.slice (some (dj dk.heap.size 0)) 1 1) (.slice a0 p.length ae) (.slice V aj.length av))):=by
      have m:dU dJ (fun k=>w.heap.size+1<=k/\k≠dk.heap.size+1) (set6 (dJ.setCell ⟨dk.heap.size+1,5,none⟩ (.slice V aj.length av)) w.heap.size (di 4) (.string ⟨#[]⟩) (.string ⟨#[]⟩) (.slice (some (dj dk.heap.size 0)) 1 1) (.slice a0 p.length ae) (.slice V aj.length av)) (w.heap.size<=·):=
       (((dU.refl dJ (fun k=>w.heap.size+1<=k/\k≠dk.heap.size+1)).set (p:=⟨dk.heap.size+1,5,none⟩) (by intro k _ N;exact N.2) (.slice V aj.length av)).set6 (b:=w.heap.size) Pl (di 4) (.string ⟨#[]⟩) (.string ⟨#[]⟩) (.slice (some (dj dk.heap.size 0)) 1 1) (.slice a0 p.length ae) (.slice V aj.length av)).trans ⟨dA _,fun k _ N=>⟨N7,rfl⟩⟩
      have G:dU dJ (dD.heap.size<=·) dJ (fun k=>w.heap.size+1<=k/\k≠dk.heap.size+1):=⟨dA _,fun k _ N=>⟨⟨N7,N7⟩,rfl⟩⟩
      exact sU (s:=.mk 4 ⟨#[]⟩ ⟨#[]⟩ [x] p aj) A ((ac.set (p:=⟨dk.heap.size+1,5,none⟩) (by show w.heap.size<=dk.heap.size+1;omega) (.slice V aj.length av)).set6 (b:=w.heap.size) (dA _) _ _ _ _ _ _) ((az.setAbove z (p:=⟨dk.heap.size+1,5,none⟩) (by show w.heap.size<=dk.heap.size+1;omega) (.slice V aj.length av)).set6 z (b:=w.heap.size) (dA _) _ _ _ _ _ _) (dY _) (dY _) (r.moves (b.trans m)) (co.moves (b.trans m)) ((hx5.moves G).moves m)
     clear Z al C az s b hx5;go_wp2_with fail;refine bodyPost_ret (v:=.agg #[di 4,.string ⟨#[]⟩,.string ⟨#[]⟩,.slice (some (dj dk.heap.size 0)) 1 1,.slice a0 p.length ae,.slice V aj.length av]) (by simp [results,results282,go_sem,ab,F,J,U,aa,aB]) rfl aD
 . refine (kE R q a d j r2 dC b3 (by simpa using a8)).mono ?_
   rintro e dD ⟨rfl,al,C⟩;have bv:=C.size
   have A:Hid (kG f l=some (.mk 4 ⟨#[]⟩ ⟨#[]⟩ [x] p [],j)):=by show kG f l=_;rw [g.out,if_neg a8]
   have X:Hid (dD.heap[w.heap.size]? = some fU):=(C.block w.heap.size N7 N7).trans t;have aV:Hid (dD.heap[dk.heap.size+1]? = some (.cells #[di 4,.string ⟨#[]⟩,.string ⟨#[]⟩,.slice (some (dj dk.heap.size 0)) 1 1,.slice a0 p.length ae,dt] 176 (0,0))):=(C.block (dk.heap.size+1) N7 N7).trans aZ
   have aD:Hid (fL R a q d w (kG f l) (kF (w.heap.size<=·)) (.returned (.agg #[di 4,.string ⟨#[]⟩,.string ⟨#[]⟩,.slice (some (dj dk.heap.size 0)) 1 1,.slice a0 p.length ae,dt])) (set6 dD w.heap.size (di 4) (.string ⟨#[]⟩) (.string ⟨#[]⟩) (.slice (some (dj dk.heap.size 0)) 1 1) (.slice a0 p.length ae) (dt))):=by
    have m:dU dC (fun k=>w.heap.size+1<=k/\k≠dk.heap.size+1) (set6 dD w.heap.size (di 4) (.string ⟨#[]⟩) (.string ⟨#[]⟩) (.slice (some (dj dk.heap.size 0)) 1 1) (.slice a0 p.length ae) (dt)) (w.heap.size<=·):=
     (((dU.refl dC (fun k=>w.heap.size+1<=k/\k≠dk.heap.size+1)).keeps C Pl).set6 (b:=w.heap.size) Pl (di 4) (.string ⟨#[]⟩) (.string ⟨#[]⟩) (.slice (some (dj dk.heap.size 0)) 1 1) (.slice a0 p.length ae) (dt)).trans ⟨dA _,fun k _ N=>⟨N7,rfl⟩⟩
    exact sU (s:=.mk 4 ⟨#[]⟩ ⟨#[]⟩ [x] p []) A ((i.trans C).set6 (b:=w.heap.size) (dA _) _ _ _ _ _ _) (al.set6 z (b:=w.heap.size) (dA _) _ _ _ _ _ _) (dY _) (dY _) (r.moves m) (co.moves m) (Or.inl rfl)
   obtain ⟨ab,F,J,U,aa,aB,bj⟩:=ha X;obtain ⟨bU,bd,bs,bI,bM,bL,g6⟩:=ha aV;clear al C;go_wp2_with fail;refine bodyPost_ret (v:=.agg #[di 4,.string ⟨#[]⟩,.string ⟨#[]⟩,.slice (some (dj dk.heap.size 0)) 1 1,.slice a0 p.length ae,dt]) (by simp [results,results282,go_sem,ab,F,J,U,aa,aB]) rfl aD
theorem IB (R q:Nat) (a:OA) (d:List Tk) (ai:ko d) (f:Nat) (u:qq R q a d f) (l:List Tk) (w:World) (h:dH R a q d w l) (Y:3*l.length+1<=f+1) :
 dw 254 #[dF R 0] w (fL R a q d w (jr (f+1) l) (kF (w.heap.size<=·))):=by
 have y:Hid (qq R q a d f):=u;have z:Hid (dH R a q d w l):=h;have ad:=h.lt;clear u h;go_enter func254,ntmps254;go_wp2_with fail
 obtain ⟨w0,s⟩:∃ w0,w0=w.alloc fU:=⟨_,rfl⟩
 have ag:Hid (dH R a q d w0 l):=by rw [s];exact z.alloc _
 have V:Hid (dK R w w0):=by rw [s];exact (dK.refl R w).alloc _
 have D:Hid (w0.heap[w.heap.size]? = some fU):=by rw [s];exact dX _ _
 have a9:w.heap.size+1<=w0.heap.size:=by rw [s];simp
 rw [← s];clear s
 by_cases a3:dG l pI=true
 . have bg:=f9 N9 a3
   refine (lx R q a d l pI w0 N9 ag a3).mono ?_;rintro e u1 ⟨rfl,KR1,KK1⟩;have ao:=KK1.size;have a8:Hid (u1.heap[w.heap.size]? = some fU):=(KK1.block w.heap.size N7 N7).trans D;go_wp2_with fail;refine (IA R q a d ai f y l.tail u1 KR1 N7).mono ?_;rintro e u2 ⟨b,⟨Z,rfl⟩ | ⟨o,j,v,Z,rfl,⟨E,ah,a0,ae,a6,c3,rfl,a4,am,hx3,a5,hx5⟩,KR2⟩⟩
   . exact ⟨rfl,(V.trans KK1).trans b,Or.inl ⟨by rw [BI a3,Z],rfl⟩⟩
   have M:Hid (u2.heap[w.heap.size]? = some fU):=(b.block w.heap.size N7 N7).trans a8;obtain ⟨ab,F,J,U,aa,aB,bj⟩:=ha M
   have aD:Hid (fL R a q d w (jr (f+1) l) (kF (w.heap.size<=·)) (.returned (.agg #[di o.op,.string o.mod,.string o.name,.slice E o.args.length ah,.slice a0 o.body.length ae,.slice a6 o.other.length c3])) (set6 u2 w.heap.size (di o.op) (.string o.mod) (.string o.name) (.slice E o.args.length ah) (.slice a0 o.body.length ae) (.slice a6 o.other.length c3))):=
    xa (s:=o) z (by rw [BI a3,Z]) ((V.trans KK1).trans b) KR2 a4 am (lo:=u1.heap.size) hx3 a5 hx5 N7
   clear Z b KR2 KK1 KR1 a4 am hx3 a5 hx5;exact Rn
 refine (kE R q a d l pI w0 ag (by simpa using a3)).mono ?_;rintro e dk ⟨rfl,b4,W⟩;have n:Hid (dH R a q d dk l):=b4;have a2:Hid (dK R w dk):=V.trans W;have B:Hid (dk.heap[w.heap.size]? = some fU):=(W.block w.heap.size N7 N7).trans D;have ba:=W.size
 have m:dG l pI=false:=by simpa using a3
 clear b4 W ag V D a3;go_wp2_with fail
 by_cases r:dG l oK=true
 . rw [(ai.f n.out).2.2.1] at r;cases r
 refine (kE R q a d l oK dk n (by simpa using r)).mono ?_;rintro e w2 ⟨rfl,aY,T⟩;have an:Hid (dH R a q d w2 l):=aY;have K:Hid (dK R w w2):=a2.trans T;have O:Hid (w2.heap[w.heap.size]? = some fU):=(T.block w.heap.size N7 N7).trans B;have bA:=T.size
 have p:dG l oK=false:=by simpa using r
 clear aY T n a2 B r;go_wp2_with fail
 by_cases g:dG l oL=true
 . rw [(ai.f an.out).2.2.2] at g;cases g
 refine (kE R q a d l oL w2 an (by simpa using g)).mono ?_;rintro e dC ⟨rfl,b3,i⟩;have a7:Hid (dH R a q d dC l):=b3;have H:Hid (dK R w dC):=K.trans i;have t:Hid (dC.heap[w.heap.size]? = some fU):=(i.block w.heap.size N7 N7).trans O;have bX:=i.size
 have I:dG l oL=false:=by simpa using g
 clear b3 i an K O g;go_wp2_with fail
 by_cases G:dG l qI=true
 . have b8:=f9 N9 G
   refine (lx R q a d l qI dC N9 a7 G).mono ?_;rintro e u1 ⟨rfl,KR1,KK1⟩;have ao:=KK1.size;have a8:Hid (u1.heap[w.heap.size]? = some fU):=(KK1.block w.heap.size N7 N7).trans t;go_wp2_with fail;refine (rG R q a d ai l.tail u1 KR1).mono ?_;rintro e u2 ⟨b,⟨Z,rfl⟩ | ⟨x,j,v,Z,rfl,⟨a0,ae,rfl,a4,am,hx3⟩,KR2⟩⟩
   . exact ⟨rfl,(H.trans KK1).trans b,Or.inl ⟨by rw [xe m p I G,Z];rfl,rfl⟩⟩
   have ak:=b.size;have M:Hid (u2.heap[w.heap.size]? = some fU):=(b.block w.heap.size N7 N7).trans a8;have aV:Hid (pX l.tail=some (x,j)):=Z
   have aZ:Hid (x.mod.size<=maxLen/\x.name.size<=maxLen/\ee u2 (u1.heap.size<=·) a0 x.args.length (eV x.args)):=⟨a4,am,hx3⟩
   have af:Hid (dH R a q d u2 j):=KR2;have L:Hid (dK R w u2):=(H.trans KK1).trans b;clear Z a4 am hx3 KR2 b KR1 KK1 a8;go_wp2_with fail;refine (BH R q a d j _ (af.alloc _) _ _ _ _ _ _ _ _ _ _ _ _).mono ?_;rintro e u3 ⟨c,⟨b6,rfl⟩ | ⟨b6,rfl,KR3⟩⟩
   . exact ⟨rfl,(L.alloc _).trans c,Or.inl ⟨by rw [xe m p I G,aV.out];simp [mU,b6],rfl⟩⟩
   have aj:=c.size;simp at aj
   have A:Hid (jr (f+1) l=some (.mk 7 ⟨#[]⟩ ⟨#[]⟩ [x] [] [],j.tail)):=by show jr (f+1) l=_;rw [xe m p I G,aV.out];simp [mU,b6]
   have ac:Hid (u3.heap[w.heap.size]? = some fU):=(c.block w.heap.size Of N7).trans (eR M);obtain ⟨ab,F,J,U,aa,aB,bj⟩:=ha ac
   have aD:Hid (fL R a q d w (jr (f+1) l) (kF (w.heap.size<=·)) (.returned (.agg #[di 7,.string ⟨#[]⟩,.string ⟨#[]⟩,.slice (some (dj u2.heap.size 0)) 1 1,dt,dt])) (set6 u3 w.heap.size (di 7) (.string ⟨#[]⟩) (.string ⟨#[]⟩) (.slice (some (dj u2.heap.size 0)) 1 1) (dt) (dt))):=
    xa (s:=.mk 7 ⟨#[]⟩ ⟨#[]⟩ [x] [] []) z A ((L.alloc _).trans c) KR3 (dY _) (dY _) (lo:=u1.heap.size) (uH (t:=174) (q:=ae) aZ.1 aZ.2.1 aZ.2.2 (((dU.refl u2 _).alloc _).keeps c Pl) ((c.block u2.heap.size Ob N7).trans (dX _ _)) ak) (Or.inl rfl) (Or.inl rfl) N7
   clear c KR3;go_wp2_with fail;refine bodyPost_ret (v:=.agg #[di 7,.string ⟨#[]⟩,.string ⟨#[]⟩,.slice (some (dj u2.heap.size 0)) 1 1,dt,dt]) Pd rfl aD
 refine (kE R q a d l qI dC a7 (by simpa using G)).mono ?_;rintro e dD ⟨rfl,al,C⟩;have S:Hid (dH R a q d dD l):=al;have Q:Hid (dK R w dD):=H.trans C;have X:Hid (dD.heap[w.heap.size]? = some fU):=(C.block w.heap.size N7 N7).trans t;have bv:=C.size
 have P:dG l qI=false:=by simpa using G
 clear al C a7 H t G;go_wp2_with fail;refine (Ix R q a d ai l dD S).mono ?_;rintro e u2 ⟨b,⟨Z,rfl⟩ | ⟨o,j,v,Z,rfl,⟨E,ah,a0,ae,a6,c3,rfl,a4,am,hx3,a5,hx5⟩,KR2⟩⟩
 . exact ⟨rfl,Q.trans b,Or.inl ⟨by rw [xf m p I P,Z];rfl,rfl⟩⟩
 have ak:=b.size;have M:Hid (u2.heap[w.heap.size]? = some fU):=(b.block w.heap.size N7 N7).trans X;have aV:Hid (hM l=some (o,j)):=Z
 have aZ:Hid (o.mod.size<=maxLen/\o.name.size<=maxLen/\ee u2 (dD.heap.size<=·) E o.args.length (eV o.args)/\ee u2 (dD.heap.size<=·) a0 o.body.length (eE o.body)/\ee u2 (dD.heap.size<=·) a6 o.other.length (eE o.other)):=⟨a4,am,hx3,a5,hx5⟩
 have af:Hid (dH R a q d u2 j):=KR2;have L:Hid (dK R w u2):=Q.trans b;clear Z a4 am hx3 a5 hx5 KR2 b;go_wp2_with fail;refine (BH R q a d j _ af _ _ _ _ _ _ _ _ _ _ _ _).mono ?_;rintro e u3 ⟨c,⟨b6,rfl⟩ | ⟨b6,rfl,KR3⟩⟩
 . exact ⟨rfl,L.trans c,Or.inl ⟨by rw [xf m p I P,aV.out];simp [mU,b6],rfl⟩⟩
 have aj:=c.size
 have A:Hid (jr (f+1) l=some (o,j.tail)):=by show jr (f+1) l=_;rw [xf m p I P,aV.out];simp [mU,b6]
 have ac:Hid (u3.heap[w.heap.size]? = some fU):=(c.block w.heap.size N7 N7).trans M;obtain ⟨ab,F,J,U,aa,aB,bj⟩:=ha ac
 have aD:Hid (fL R a q d w (jr (f+1) l) (kF (w.heap.size<=·)) (.returned (.agg #[di o.op,.string o.mod,.string o.name,.slice E o.args.length ah,.slice a0 o.body.length ae,.slice a6 o.other.length c3])) (set6 u3 w.heap.size (di o.op) (.string o.mod) (.string o.name) (.slice E o.args.length ah) (.slice a0 o.body.length ae) (.slice a6 o.other.length c3))):=by
  have a1:dU u2 (dD.heap.size<=·) u3 (dD.heap.size<=·):=(dU.refl u2 _).keeps c Pl;exact xa (s:=o) z A (L.trans c) KR3 aZ.1 aZ.2.1 (lo:=dD.heap.size) (aZ.2.2.1.moves a1) (aZ.2.2.2.1.moves a1) (aZ.2.2.2.2.moves a1) N7
 clear c KR3;exact Rn
theorem IC (R q:Nat) (a:OA) (d:List Tk) (ai:ko d):∀ f,qq R q a d f:=by
 intro f
 induction f using Nat.strongRecOn with
 | ind f ay=>
   cases f with
   | zero=>exact ⟨fun _ _ _ h=>N7,fun _ _ _ h=>N7⟩
   | succ f=>
     exact ⟨fun g b h Y=>IB R q a d ai f (ay f N7) g b h Y,fun g b h Y=>Iz R q a d f (fun al ak=>ay al N7) g b h Y⟩
def pB (l:List Tk):Option (List St × List Tk):=iE (3*l.length+8) l
theorem ID (R q:Nat) (a:OA) (d:List Tk) (ai:ko d) (l:List Tk) (w:World) (h:dH R a q d w l) :
 dw 201 #[dF R 0] w (fL R a q d w (pB l) (w9 (w.heap.size<=·))):=(IC R q a d ai _).block l w h N7
def pq (l:List Tk):List Tk:=if dG l ld then l.tail else l
def IE (l:List Tk):Option (gG × List Tk):=
 if dG (pq l) xZ then (match iw (pq l).tail with
  | none=>none
  | some (n,P)=>if dG P pJ then (match pNum P.tail with | none=>none | some (k,j)=>if dG j nI then some (⟨1,n,dG l ld,k⟩,j.tail) else none) else none)
 else if dG (pq l) x0 then (match iw (pq l).tail with
  | none=>none
  | some (n,P)=>if dG P nI then some (⟨2,n,dG l ld,0⟩,P.tail) else none)
 else if dG (pq l) x6 then (match iw (pq l).tail with
  | none=>none
  | some (n,P)=>if dG P nH then (match pNum P.tail with | none=>none | some (k,j)=>if dG j oN then (if dG j.tail nI then some (⟨3,n,dG l ld,k⟩,j.tail.tail) else none) else none) else none)
 else none
def BL:Nat->List ByteArray->List Tk->Option (List ByteArray × List Tk)
 | 0,_,_=>none
 | f+1,H,g=>
   if dG g sb then (match iw g.tail with | none=>none | some (n,P)=>BL f (H++[n]) P)
   else if dG g mT then some (H,g.tail) else none
def lA (t:ByteArray):Nat->List ByteArray->List Tk->Option (List ByteArray × List Tk)
 | 0,_,_=>none
 | f+1,H,g=>
   if dG g t then (match iw g.tail with | none=>none | some (n,P)=>if dG P nI then lA t f (H++[n]) P.tail else none)
   else some (H,g)
def IF (l:List Tk):Option (List ByteArray × List Tk):=
 if dG l mT then some ([],l.tail) else (match iw l with | none=>none | some (n,P)=>BL (P.length+1) [n] P)
def sV (l:List Tk):Option (fa × List Tk):=
 if dG (pq l) JQ then (match iw (pq l).tail with
  | none=>none
  | some (n,P)=>if dG P lf then (match IF P.tail with
    | none=>none
    | some (a,j)=>(match lA JR (j.length+1) [] j with
      | none=>none
      | some (b,D)=>(match pB D with | none=>none | some (p,l4)=>some (⟨n,dG l ld,a,b,p⟩,l4)))) else none)
 else none
def nz (l:List Tk):Bool:=
 let n:=if dG l ld then (l.getD 1 j4).text else (hd l).text
 n.toList == xZ.toList||n.toList == x0.toList||n.toList == x6.toList
def rH:Nat->List gG->List Tk->Option (List gG × List Tk)
 | 0,_,_=>none
 | f+1,H,g=>if nz g then (match IE g with | none=>none | some (d,P)=>rH f (H++[d]) P) else some (H,g)
def qs:Nat->List fa->List Tk->Option (List fa × List Tk)
 | 0,_,_=>none
 | f+1,H,g=>if dG g x7 then some (H,g.tail) else (match sV g with | none=>none | some (D,P)=>qs f (H++[D]) P)
def kH (l:List Tk):Option (ec × List Tk):=
 if dG l xY then (match iw l.tail with
  | none=>none
  | some (n,P)=>if dG P sa then (match lA mS (P.tail.length+1) [] P.tail with
    | none=>none
    | some (m,j)=>(match rH (j.length+1) [] j with
      | none=>none
      | some (Y,D)=>(match qs (D.length+1) [] D with
        | none=>none
        | some (a,l4)=>(match pB l4 with
          | none=>none
          | some (p,l5)=>if dG l5 oM then some (⟨n,m,Y,a,p⟩,l5.tail) else none)))) else none)
 else none
theorem IG (R q:Nat) (a:OA) (d l:List Tk) (w:World) (h:dH R a q d w l) :
 dw 198 #[dF R 0] w fun e G=>e = .returned (.bool (nz l))/\dm w G:=by
 have z:Hid (dH R a q d w l):=h;have p:=uE (hd l).kind (hd l).n (hd l).text;have I:=uE (l.getD 1 j4).kind (l.getD 1 j4).n (l.getD 1 j4).text
 have aQ:Hid (dG l ld=((hd l).text.toList == [112,117,98])):=by show dG l ld=_;unfold dG;rw [kj ld]
 have b0:Hid (nz l=((if dG l ld then (l.getD 1 j4).text else (hd l).text).toList == [99,111,110,115,116]||(if dG l ld then (l.getD 1 j4).text else (hd l).text).toList == [118,97,114]||(if dG l ld then (l.getD 1 j4).text else (hd l).text).toList == [97,114,114,97,121])):=by
  show nz l=_;unfold nz;rw [kj xZ,kj x0,kj x6]
 have bz:Hid (∀ G,dH R a q d G l->dw 252 #[dF R 0,di 1] G fun e a7=>e = .returned (.agg #[di (l.getD 1 j4).kind,di (l.getD 1 j4).n,.string (l.getD 1 j4).text])/\Below G.heap.size G a7):=fun G a5=>Bv R q 1 a d l G N7 a5
 clear h;go_enter func198,ntmps198;go_wp2_with fail;refine (sT R q a d l w z).mono ?_;rintro e dk ⟨rfl,aq⟩
 by_cases aA:((hd l).text.toList == [112,117,98])=true
 . have c:Hid (dG l ld=true):=aQ.trans aA
   generalize l.getD 1 j4=o at *;go_wp2_with fail;refine (bz dk (z.later aq)).mono ?_;rintro e w2 ⟨rfl,aN⟩;go_wp2_with fail
   all_goals go_ret
   all_goals refine ⟨ret_bool ?_,aq.trans (aN.mono aq.size)⟩
   all_goals rw [b0.out,c.out];simp_all
 . have b:((hd l).text.toList == [112,117,98])=false:=by simpa using aA
   have c:Hid (dG l ld=false):=aQ.trans b;clear aA;generalize hd l=o at *;go_wp2_with fail
   all_goals go_ret
   all_goals refine ⟨ret_bool ?_,aq⟩
   all_goals rw [b0.out,c.out];simp_all
end Go.Proofs.YtndkhgakfodldaaGreatDoor
