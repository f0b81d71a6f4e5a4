import Derived.Test.YtndkhgakfodldaaGreatDoorUr
import Derived.Test.YtndkhgakfodldaaGreatDoorPo
import Derived.Test.YtndkhgakfodldaaGreatDoorXe
set_option maxRecDepth 100000
set_option maxHeartbeats 12800000
set_option linter.unusedSimpArgs false
set_option linter.unusedVariables false
open Go.Proofs.Tryz
open List renaming length → Ln
namespace Go.Proofs.YtndkhgakfodldaaGreatDoor
open Go.RowKit Go.Maps Go.WideMaps
variable {M x w:World} {a y E:OA} {b b9 cp L T X y3:Nat} {s:ByteArray}
def lV:Fc:=⟨⟨#[99,110,116]⟩,[⟨1,3,0,⟨#[107]⟩⟩,⟨2,0,0,⟨#[115,117,109]⟩⟩,⟨3,4,1,⟨#[116]⟩⟩,⟨4,1,0,⟨#[100,111,119,110]⟩⟩]⟩
def BX (O:Except Int ga):ga:=match O with | .ok u=>u | .error _=>⟨⟨#[]⟩,[],0,[],[]⟩
def qH:ga:=BX (oN oj [])
def qI:ga:=BX (oN nL [lV])
theorem I5:oN oj [] = .ok qH:=by kernel_rfl
theorem I6:oN nL [lV] = .ok qI:=by kernel_rfl
theorem eU.num {A:Nat->Prop} {n:Nat} {ds:List D} (h:eU w A a n ds) (U:n≠0):∃ b C,a=some (ep b C)/\b<w.heap.size/\A b/\∀ (j:Nat) (k:Int),ds[j]? = some (.int k)->w.cell? ⟨b,C+j,none⟩=some (em k):=by
 rcases h with h | ⟨b,C,d,ab,aT,F,a1,Q⟩
 . exact absurd h U
 . refine ⟨b,C,ab,F,aT,fun j k ac=>?_⟩
   obtain ⟨v,a7,ez⟩:=Q.get j _ ac;rw [um ez] at a7;exact a1 j _ a7
theorem I7 (w:World) :
 ew 57 #[] w fun e r=>∃ y I,e = .returned (.agg #[.string ⟨#[99,110,116]⟩,.slice y 4 I])/\eE r eV y 4 (g2 lV.items)/\et w r:=by
 go_enter func57,ntmps57;go_wp2_with fail
 obtain ⟨M,L⟩:∃ M,M=jp w [(#[.string ⟨#[99,110,116]⟩,.slice (some ⟨w.heap.size+1,0,none⟩) 4 4],30),(#[em 1,em 3,em 0,.string ⟨#[107]⟩,em 2,em 0,em 0,.string ⟨#[115,117,109]⟩,em 3,em 4,em 1,.string ⟨#[116]⟩,em 4,em 1,em 0,.string ⟨#[100,111,119,110]⟩],98)]:=⟨_,rfl⟩
 have ab:et w M:=by rw [L];exact tO _ _
 have ax:eE M eV (some ⟨w.heap.size+1,0,none⟩) 4 (g2 lV.items):=by
  rw [L];refine kc (kb w _ 1 _ _ rfl) ?_ (by decide) (by decide);exact .cons (f8 rfl) (.cons (f8 rfl) (.cons (f8 rfl) (.cons (gy (by decide)) (.cons (f8 rfl) (.cons (f8 rfl) (.cons (f8 rfl) (.cons (gy (by decide)) (.cons (f8 rfl) (.cons (f8 rfl) (.cons (f8 rfl) (.cons (gy (by decide)) (.cons (f8 rfl) (.cons (f8 rfl) (.cons (f8 rfl) (.cons (gy (by decide)) .nil)))))))))))))))
 refine bodyPost_ret (v:=.agg #[.string ⟨#[99,110,116]⟩,.slice (some ⟨w.heap.size+1,0,none⟩) 4 4]) (by simp [results,results57,go_sem]) rfl ⟨some ⟨w.heap.size+1,0,none⟩,4,rfl,?_,?_⟩
 . rw [L] at ax;exact ax
 . rw [L] at ab;exact ab
theorem I8 (w:World):ew 55 #[.string pj] w fun e r=>∃ v Y a9 a5 a4 a7 c3 ay am,e = .returned (.tuple #[v,em 0])/\hm r eV nL v Y a9 a5 a4 a7 c3 ay am/\et w r:=
 (Gp pj w (by decide)).mono fun e r ⟨h,F⟩=>by
   rcases h with ⟨h,_⟩ | ⟨m,v,Y,a9,a5,a4,a7,c3,ay,am,az,_,ah,aS⟩
   . rw [Az] at h;cases h
   . rw [Az] at az
     obtain rfl:=fe az;exact ⟨v,Y,a9,a5,a4,a7,c3,ay,am,ah,aS,F⟩
structure Sg (w W:World) (b1 b3 b5:Nat) (a:OA) (cap:Nat) (s:ByteArray) (x1:OA) (n1 y1:Nat) (b2 o2 y2:Nat) (x3:OA) (n3 y3:Nat) (z1:OA) (d1:Nat) (z2:OA) (d2:Nat) (z3:OA) (d3:Nat) (z4:OA) (d4:Nat):Prop where
 below:et w W
 h1:W.heap[b1]? = some (.cells #[.string ⟨#[99,110,116]⟩,.slice a 4 cap] 30 (0,0))
 its:Fx.zcy W a lV.items
 fit:Fx.AllFit lV.items
 h3:W.heap[b3]? = some (.cells #[.string s,.slice x1 n1 y1,em 5,.slice (some (ep b2 o2)) 1 y2,.slice x3 n3 y3] 42 (0,0))
 l3:b2<W.heap.size
 c3:W.cell? ⟨b2,o2+1,none⟩=some (em 1)
 h5:W.heap[b5]? = some (.cells #[.string ⟨#[116,111,112]⟩,.slice z1 1 d1,.slice z2 0 d2,.slice z3 0 d3,.slice z4 3 d4] 27 (0,0))
 mo:hm W eV nL (.agg #[.string ⟨#[116,111,112]⟩,.slice z1 1 d1,.slice z2 0 d2,.slice z3 0 d3,.slice z4 3 d4]) z1 d1 z2 d2 z3 d3 z4 d4
theorem Sg.later {b7 ae:Nat} {I:Nat} {V K:Nat} {H:OA} {f:Nat} {aZ b6 bk bm:OA} {aL aU bd z:Nat} (h:Sg w M b7 b9 ae a I s E L T V K X H f y3 aZ aL b6 aU bk bd bm z) (F:et M x):Sg w x b7 b9 ae a I s E L T V K X H f y3 aZ aL b6 aU bk bd bm z:=
 ⟨h.below.trans (F.mono h.below.size),(F.block _ (lt_of_heap h.h1)).trans h.h1,h.its.later F,h.fit,(F.block _ (lt_of_heap h.h3)).trans h.h3,gl h.l3 F.size,(F.cell (p:=⟨V,K+1,none⟩) h.l3).trans h.c3,(F.block _ (lt_of_heap h.h5)).trans h.h5,h.mo.later F⟩
structure Tg (W:World) (b7:Nat) (s:ByteArray) (x1:OA) (n1 y1:Nat) (d:Int) (x2:OA) (n2 y2 b3 o3 y3:Nat):Prop where
 h7:W.heap[b7]? = some (.cells #[.string s,.slice x1 n1 y1,em d,.slice x2 n2 y2,.slice (some (ep b3 o3)) 3 y3] 42 (0,0))
 l7:b3<W.heap.size
 n:W.cell? ⟨b3,o3+1,none⟩=some (em 4)
 m:W.cell? ⟨b3,o3+2,none⟩=some (em 1)
 at':W.cell? ⟨b3,o3+3,none⟩=some (em 1)
theorem Tg.later {p:Nat} {d:Int} {ae:OA} {K V:Nat} (h:Tg M p s E L T d ae K X b9 V y3) (F:et M x):Tg x p s E L T d ae K X b9 V y3:=
 ⟨(F.block _ (lt_of_heap h.h7)).trans h.h7,gl h.l7 F.size,(F.cell (p:=⟨b9,V+1,none⟩) h.l7).trans h.n,(F.cell (p:=⟨b9,V+2,none⟩) h.l7).trans h.m,(F.cell (p:=⟨b9,V+3,none⟩) h.l7).trans h.at'⟩
theorem xQ (ax:eE w eV y 4 (g2 lV.items)) (t:TypeId):eE (w.alloc (.cells #[.string ⟨#[99,110,116]⟩,.slice y 4 cp] t)) eV (some (ep w.heap.size 0)) 1 (qE [lV]):=by
 refine kc (kb w [(#[.string ⟨#[99,110,116]⟩,.slice y 4 cp],t)] 0 _ _ rfl) ?_ (by decide) (by decide);exact .cons (gy (by decide)) (.cons (ax.moves ⟨by simp,fun b F _=>⟨trivial,(ey _ _).block b F⟩⟩).val .nil)
theorem I9 (ax:eE w eV y 4 (g2 lV.items)) (o:Obj) (t:TypeId):eE ((w.alloc o).alloc (.cells #[.string ⟨#[99,110,116]⟩,.slice y 4 cp] t)) eV (some ⟨w.heap.size+1,0,none⟩) 1 (qE [lV]):=by
 have:=xQ (cp:=cp) (ax.moves (r:=w.alloc o) ⟨by simp,fun b F _=>⟨trivial,(ey _ _).block b F⟩⟩) t;simpa using this
theorem xR {Z aK aN aY be:Value} {t:TypeId} (h:M.heap[b]? = some (.cells #[Z,aK,aN,aY,be] t (0,0))):M.cell? (ep b 0)=some Z/\M.cell? (ep b 1)=some aK/\M.cell? (ep b 2)=some aN/\M.cell? (ep b 3)=some aY/\M.cell? (ep b 4)=some be:=
 have S:=fi h
 ⟨S.1,S.2.1,S.2.2.1,S.2.2.2.1,S.2.2.2.2.1⟩
theorem j2 {r:World} {x:Obj} (h:w.heap[b]? = some x) (F:et w r):r.heap[b]? = some x:=(F.block _ (lt_of_heap h)).trans h
theorem Ja (w:World) (o:Obj):(w.alloc o).drew.heap[w.heap.size]? = some o:=eT w o
theorem BZ (w:World) (o p:Obj):((w.alloc o).alloc p).heap[w.heap.size+1]? = some p:=by simpa using eT (w.alloc o) p
mutual
def D.fineB:D->Bool
 | .int n=>(Lit.int .i64 n).wf
 | .str _=>true
 | .bool _=>true
 | .list n y=>decide (n<=Ln y)&&(decide (Ln y<=17592186044416)&&uL y)
def uL:List D->Bool
 | []=>true
 | o :: y=>o.fineB&&uL y
end
mutual
theorem Jb:∀ o:D,o.fineB=true->o.fine
 | .int _,h=>by unfold D.fineB at h;unfold D.fine;exact h
 | .str _,_=>by unfold D.fine;trivial
 | .bool _,_=>by unfold D.fine;trivial
 | .list n y,h=>by
   unfold D.fineB at h;unfold D.fine;simp only [fs,decide_eq_true_eq] at h;exact ⟨h.1,h.2.1,uM y h.2.2⟩
theorem uM:∀ l:List D,uL l=true->D.fines l
 | [],_=>by unfold D.fines;trivial
 | o :: y,h=>by
   unfold uL at h;unfold D.fines;rw [fs] at h;exact ⟨Jb o h.1,uM y h.2⟩
end
variable {A:Nat->Prop} {a E ae H aj al:OA} {b:Nat} {l:List eO} {o:eO} {u:ga} {w r:World}
def ng (w:World) (A:Nat->Prop) (u:ga) (E ae H:OA):Prop:=eE w A E (Ln u.uses) (fj u.uses)/\eE w A ae (Ln u.parts) (iI u.parts)/\eE w A H (Ln u.main) (f9 u.main)
theorem ng.moves {q:Nat->Prop} (h:ng w A u E ae H) (m:eQ w A r q):ng r q u E ae H:=⟨h.1.moves m,h.2.1.moves m,h.2.2.moves m⟩
theorem Jc (ag:D.fines u.ds) (G:eU w A E (Ln u.uses) (fj u.uses)) (J:eU w A ae (Ln u.parts) (iI u.parts)) (S:eU w A H (Ln u.main) (f9 u.main)):ng w A u E ae H:=by
 simp only [ga.ds,D.fines,D.fine] at ag;obtain ⟨_,⟨Y,a5,a7⟩,_,⟨b7,V,b9⟩,⟨a9,a4,c3⟩,_⟩:=ag;exact ⟨G.toD Y a5 a7,J.toD b7 V b9,S.toD a9 a4 c3⟩
structure qJ (w:World) (b:Nat) (u:ga) (x1:OA) (xc1:Nat) (x2:OA) (xc2:Nat) (x3:OA) (xc3:Nat):Prop where
 blk:w.heap[b]? = some (.cells #[.string u.name,.slice x1 (Ln u.uses) xc1,em u.data,.slice x2 (Ln u.parts) xc2,.slice x3 (Ln u.main) xc3] 42 (0,0))
 ls:ng w eV u x1 x2 x3
theorem qJ.later {c f d:Nat} (h:qJ w b u E c ae f H d) (F:et w r):qJ r b u E c ae f H d:=
 ⟨j2 h.blk F,h.ls.moves (eQ.of_below F _)⟩
def B0 (u:ga) (w:World) (e:Ending) (r:World):Prop:=∃ E c ae f H d,e = .returned (.tuple #[.agg #[.string u.name,.slice E (Ln u.uses) c,em u.data,.slice ae (Ln u.parts) f,.slice H (Ln u.main) d],em 0])/\ng r (w.heap.size<=·) u E ae H/\et w r
theorem B1 {m:fh} {l:List Fc} (W:oN m l = .ok u) (ag:D.fines u.ds) {v:Value} {Y a5 a7 ay:OA} {a9 a4 c3 am:Nat} (aS:hm w eV m v Y a9 a5 a4 a7 c3 ay am) {al:OA} (bL:Nat) (br:eE w eV al (Ln l) (qE l)) :
 ew 21 #[v,.slice al (Ln l) bL] w fun e r=>B0 u w e r:=
 (I1 m v Y a9 a5 a4 a7 c3 ay am l al bL w aS br).mono fun e r ⟨h,F⟩=>by
   rw [W] at h;obtain ⟨E,T,ae,X,H,y3,ah,G,J,S⟩:=h;exact ⟨E,T,ae,X,H,y3,ah,Jc ag G J S,F⟩
theorem ng.new (c f d:Nat) (h:ng w A u E ae H) (t:TypeId) (aj:t=42):qJ (w.alloc (.cells #[.string u.name,.slice E (Ln u.uses) c,em u.data,.slice ae (Ln u.parts) f,.slice H (Ln u.main) d] t)) w.heap.size u E c ae f H d:=by
 subst aj;exact ⟨eT _ _,h.moves ⟨by simp,fun b F _=>⟨trivial,(ey _ _).block b F⟩⟩⟩
theorem ng.set {K:Nat} (c f d:Nat) {Z aK aN aY be:Value} (h:ng w (K<=·) u E ae H) (aS:w.heap[b]? = some (.cells #[Z,aK,aN,aY,be] 42)) (F:b<K):qJ (set5 w b (.string u.name) (.slice E (Ln u.uses) c) (em u.data) (.slice ae (Ln u.parts) f) (.slice H (Ln u.main) d)) b u E c ae f H d:=by
 refine ⟨heap_set (heap_set (heap_set (heap_set (heap_set aS _) _) _) _) _,h.moves ⟨by simp [set5],fun k N a2=>⟨trivial,?_⟩⟩⟩
 have U:k≠b:=by omega
 exact (fa U _).trans ((fa U _).trans ((fa U _).trans ((fa U _).trans (fa U _))))
theorem B2 (c f d:Nat) (ag:D.fines u.ds) (U:u.name.size<=maxLen) (h:ng w eV u E ae H):fB w eV u.ds [.string u.name,.slice E (Ln u.uses) c,em u.data,.slice ae (Ln u.parts) f,.slice H (Ln u.main) d]:=by
 simp only [ga.ds,D.fines,D.fine] at ag;unfold ga.ds;exact .cons (gy U) (.cons h.1.val (.cons (f8 ag.2.2.1) (.cons h.2.1.val (.cons h.2.2.val .nil))))
theorem Jd (u t:ga) (aI:oN oj [] = .ok u) (aj:oN nL [lV] = .ok t) (C:D.fines u.ds) (U:D.fines t.ds) (b1:u.name.size<=maxLen) (al:t.name.size<=maxLen) (w:World) :
 ew 75 #[] w fun e r=>∃ a,e = .returned (.slice (some a) 2 2)/\eE r eV (some a) 2 (oL [u,t])/\et w r:=by
 have bl:=hid (fun (M:World) (v:Value) (Y:OA) (a9:Nat) (a5:OA) (a4:Nat) (a7:OA) (c3:Nat) (ay:OA) (am:Nat) (aS:hm M eV oj v Y a9 a5 a4 a7 c3 ay am)=>B1 aI C aS (al:=none) 0 ⟨eD _,eY _,Or.inl rfl⟩)
 have P:Hid (∀ (M:World) (v:Value) (Y:OA) (a9:Nat) (a5:OA) (a4:Nat) (a7:OA) (c3:Nat) (ay:OA) (am:Nat),hm M eV nL v Y a9 a5 a4 a7 c3 ay am->∀ (K:OA) (bL:Nat),eE M eV K 1 (qE [lV])->ew 21 #[v,.slice K 1 bL] M fun e r=>B0 t M e r):=fun M v Y a9 a5 a4 a7 c3 ay am aS K bL br=>B1 aj U aS (l:=[lV]) bL br
 have aN:=hid (And.intro C b1);have ad:=hid (And.intro U al);clear aI aj C U b1 al;go_enter func75,ntmps75;go_wp2_with fail;refine (Gx _).mono ?_;rintro e eq ⟨v,Y,a9,a5,a4,a7,c3,ay,am,rfl,aS,ai⟩;have aq:=hid aS;have B:=hid ai;clear aS ai;go_wp2_with fail;refine (bl _ _ _ _ _ _ _ _ _ _ aq).mono ?_;rintro e w2 ⟨E,c,ae,f,H,d,rfl,a1,aB⟩;have aF:=hid (a1.new c f d 42 rfl);have aM:=hid (es B (es aB (ey w2 (g5 u.name E (Ln u.uses) c u.data ae (Ln u.parts) f H (Ln u.main) d))));clear a1 aB aq B;go_wp2_with fail
 obtain ⟨S,hW2⟩:∃ S,S=w2.alloc (g5 u.name E (Ln u.uses) c u.data ae (Ln u.parts) f H (Ln u.main) d):=⟨_,rfl⟩
 rw [← hW2] at aF aM ⊢;clear hW2;refine (Gy _).mono ?_;rintro e eJ ⟨rfl,ap⟩
 have az:et S eJ:=by rw [ap];exact Below.refl _ _
 clear ap;go_wp2_with fail;refine (I8 eJ).mono ?_;rintro e eZ ⟨Q,aZ,aL,b6,aU,bk,bd,bm,z,rfl,aS,x⟩;have W:=es az x;obtain rfl:Q = .agg #[.string ⟨#[116,111,112]⟩,.slice aZ 1 aL,.slice b6 0 aU,.slice bk 0 bd,.slice bm 3 z]:=aS.val;have aq:=hid aS;have bO:=hid W;clear aS W x az;go_wp2_with fail
 obtain ⟨b,hW6⟩:∃ b,b=eZ.alloc (jB ⟨#[116,111,112]⟩ aZ 1 aL b6 0 aU bk 0 bd bm 3 z):=⟨_,rfl⟩
 have I:et eZ b:=by rw [hW6];exact ey _ _
 have ab:=es bO I;have q:=hid (es aM ab);have A:=hid (aF.later ab)
 have m:Hid (b.heap[eZ.heap.size]? = some (.cells #[.string ⟨#[116,111,112]⟩,.slice aZ 1 aL,.slice b6 0 aU,.slice bk 0 bd,.slice bm 3 z] 27 (0,0))/\hm b eV nL (.agg #[.string ⟨#[116,111,112]⟩,.slice aZ 1 aL,.slice b6 0 aU,.slice bk 0 bd,.slice bm 3 z]) aZ aL b6 aU bk bd bm z):=⟨by rw [hW6];exact eT _ _,aq.later I⟩
 rw [← hW6];clear hW6 I ab bO aM aq aF
 rename_i j aA
 have F:∀ {l:World} {p:Nat} {T X y3:OA} {g h i:Nat} {o aH a0 aW a3 ag aO aJ aG ah ao a8 ar aX aQ a2 aK b0 Z aT:Value},et w l->qJ l w2.heap.size u E c ae f H d->qJ l p t T g X h y3 i->j { tmps:=#[eu,eL w2.heap.size 0,em 0,eL eZ.heap.size 0,em 0,eL p 0,em 0,o,aH,a0,aW,a3,ag,aO,aJ,aG,ah,ao,a8,ar,aX,aQ,a2,aK,b0,Z,aT],defers:=[] } l:=by
  intro l p T X y3 g h i o aH a0 aW a3 ag aO aJ aG ah ao a8 ar aX aQ a2 aK b0 Z aT bK G J;have bv:=hid bK;have aP:=hid G;have ac:=hid J;obtain ⟨av,an,aD,aR,b3⟩:=xR G.blk;obtain ⟨bg,b2,bi,bt,r4⟩:=xR J.blk;have aV:=lt_of_heap G.blk;have ba:=lt_of_heap J.blk;clear bK G J q A m;refine aA _ _ ?_;clear aA;go_wp2_with fail;have N:=ey l (.cells #[.string u.name,.slice E (Ln u.uses) c,em u.data,.slice ae (Ln u.parts) f,.slice H (Ln u.main) d,.string t.name,.slice T (Ln t.uses) g,em t.data,.slice X (Ln t.parts) h,.slice y3 (Ln t.main) i] 42);go_ret;refine ⟨(ep l.heap.size 0),rfl,?_,es bv N⟩;refine kc (eR.new l _ _) ?_ (by simp [oL,ga.ds]) (by simp [oL,ga.ds])
  have e:oL [u,t]=u.ds++t.ds:=by simp [oL]
  rw [e];have ak:=B2 c f d aN.1 aN.2 (aP.ls.moves (eQ.of_below N _));have au:=B2 g h i ad.1 ad.2 (ac.ls.moves (eQ.of_below N _));exact ak.append au
 clear aA;have b9:=hid (j2 m.1 (mJ b));have b5:=lt_of_heap m.1;have aa:=hid (fun (M:World) (L:et b M)=>xR (j2 m.1 L))
 go_region_held (fun M=>M.cell? (ep eZ.heap.size 0)=some (.string ⟨#[116,111,112]⟩)/\M.cell? (ep eZ.heap.size 1)=some (.slice aZ 1 aL)/\M.cell? (ep eZ.heap.size 2)=some (.slice b6 0 aU)/\M.cell? (ep eZ.heap.size 3)=some (.slice bk 0 bd)/\M.cell? (ep eZ.heap.size 4)=some (.slice bm 3 z))
  (first | with_reducible exact aa _ af | with_reducible exact aa _ (es af (ey _ _)) | with_reducible exact aa _ (ik af (by omega) _ _ _ _ _) | with_reducible exact aa _ bD | with_reducible exact aa _ (es bD (ey _ _)) | with_reducible exact aa _ (es bD (gc _ _ _)) | with_reducible exact aa _ (mJ _) | with_reducible exact aa _ (gX _ _) | with_reducible exact aa _ (es (mJ _) (ey _ _)))
  (first
  | (go_at_call 57;refine (I7 _).mono ?_;rintro e eW ⟨y,cp,rfl,ax,O⟩;have V:=hid ax;(first | (with_reducible have bD:=hid (es (mJ b) O)) | (have a6:=hid (j2 (Ja b _) O);have bD:=hid (es (gX b _) O)));have b7:=bD.size;clear ax O)
  | (go_at_call 21;(with_reducible refine (P _ _ _ _ _ _ _ _ _ _ (m.2.later (es bD (ey _ _))) _ _ (xQ V _)).mono ?_);rintro e aY ⟨T,g,X,h,y3,i,rfl,a1,n⟩;have k:=hid a1;have af:=hid (es bD (es (ey _ _) n));(first | (with_reducible refine And.elim ?_ (uJ (j2 (j2 a6 (ey _ _)) n));intro bT R;have s:=hid (j2 (j2 a6 (ey _ _)) n);obtain ⟨aw,aE,b4,b8,ef,cr⟩:=R) | skip);clear a1 n)
  | (go_at_call 21;(with_reducible refine (P _ _ _ _ _ _ _ _ _ _ (m.2.later (es bD (gc _ _ _))) _ _ ((xQ V _).later (ey _ _))).mono ?_);rintro e aY ⟨T,g,X,h,y3,i,rfl,a1,n⟩;have k:=hid a1;have af:=hid (es bD (es (gc _ _ _) n));(refine And.elim ?_ (uJ (j2 (BZ eW _ _) n));intro bT R;have s:=hid (j2 (BZ eW _ _) n);obtain ⟨aw,aE,b4,b8,ef,cr⟩:=R);clear a1 n)
  | (go_at_call 21;(with_reducible refine (P _ _ _ _ _ _ _ _ _ _ (m.2.later (es bD (gc _ _ _))) _ _ (I9 V _ _)).mono ?_);rintro e aY ⟨T,g,X,h,y3,i,rfl,a1,n⟩;have k:=hid a1;have af:=hid (es bD (es (gc _ _ _) n));(refine And.elim ?_ (uJ (j2 (fF (eT eW _)) n));intro bT R;have s:=hid (j2 (fF (eT eW _)) n);obtain ⟨aw,aE,b4,b8,ef,cr⟩:=R);clear a1 n))
 . show j _ _
   exact F (es q (es af (ey aY _))) (A.later (es af (ey aY _))) (k.new g h i 42 rfl)
 . show j _ _
   exact F (es q (ik af (b:=eW.heap.size+1) (by omega) _ _ _ _ _)) (A.later (ik af (b:=eW.heap.size+1) (by omega) _ _ _ _ _)) (k.set g h i s (by simp<;>omega))
 . show j _ _
   exact F (es q (ik af (b:=eW.heap.size) (by omega) _ _ _ _ _)) (A.later (ik af (b:=eW.heap.size) (by omega) _ _ _ _ _)) (k.set g h i s (by simp<;>omega))
 . show j _ _
   exact F (es q (ik af (b:=b.heap.size) (by omega) _ _ _ _ _)) (A.later (ik af (b:=b.heap.size) (by omega) _ _ _ _ _)) (k.set g h i s (by simp<;>omega))
theorem Je:D.fines qH.ds:=uM _ (by kernel_rfl)
theorem Jf:D.fines qI.ds:=uM _ (by kernel_rfl)
theorem B3 {n k:Nat} (h:n=k) (N:k<=maxLen):n<=maxLen:=h ▸ N
theorem Jg (w:World) :
 ew 75 #[] w fun e r=>∃ a,e = .returned (.slice (some a) 2 2)/\eE r eV (some a) 2 (oL [qH,qI])/\et w r:=
 Jd qH qI I5 I6 Je Jf (B3 (k:=3) (by kernel_rfl) (by decide)) (B3 (k:=3) (by kernel_rfl) (by decide)) w
def pH:eO:=oT qH
theorem Jh:lY qH = .ok pH:=by kernel_rfl
theorem eE.ints {n:Nat} {ds:List D} (h:eE w A a n ds) (U:0<n):∃ b C,a=some (ep b C)/\b<w.heap.size/\∀ (j:Nat) (k:Int),ds[j]? = some (.int k)->w.cell? ⟨b,C+j,none⟩=some (em k):=by
 obtain ⟨b,C,ab,F,a1⟩:=h.cell U;refine ⟨b,C,ab,F,fun j k ac=>?_⟩;obtain ⟨v,a7,ez⟩:=a1 j _ ac;rw [(hw ez).1] at a7;exact a7
structure xS (w:World) (b3 o3 b4 o4 b5 o5:Nat):Prop where
 l3:b3<w.heap.size
 c0:w.cell? ⟨b3,o3+12,none⟩=some (em 12)
 c1:w.cell? ⟨b3,o3+13,none⟩=some (em 15)
 c2:w.cell? ⟨b3,o3+14,none⟩=some (em 0)
 c3:w.cell? ⟨b3,o3+15,none⟩=some (em 16)
 l4:b4<w.heap.size
 f0:w.cell? (ep b4 o4)=some (em 4)
 f1:w.cell? ⟨b4,o4+1,none⟩=some (em 1)
 f2:w.cell? ⟨b4,o4+2,none⟩=some (em 0)
 f3:w.cell? ⟨b4,o4+3,none⟩=some (em 6)
 f4:w.cell? ⟨b4,o4+4,none⟩=some (em 3)
 f5:w.cell? ⟨b4,o4+5,none⟩=some (em 0)
 en:eE w eV (some (ep b5 o5)) 1 (gS [0])
theorem xS.later {b9 V aa a6 ae b:Nat} (h:xS w b9 V aa a6 ae b) (F:et w r):xS r b9 V aa a6 ae b:=
 have aI:∀ j,r.cell? (ep b9 j)=w.cell? (ep b9 j):=fun j=>F.cell (p:=(ep b9 j)) h.l3
 have bq:∀ j,r.cell? (ep aa j)=w.cell? (ep aa j):=fun j=>F.cell (p:=(ep aa j)) h.l4
 ⟨gl h.l3 F.size,(aI _).trans h.c0,(aI _).trans h.c1,(aI _).trans h.c2,(aI _).trans h.c3,gl h.l4 F.size,(bq _).trans h.f0,(bq _).trans h.f1,(bq _).trans h.f2,(bq _).trans h.f3,(bq _).trans h.f4,(bq _).trans h.f5,h.en.later F⟩
def sO (l:List eO):List D:=l.flatMap eO.ds
structure B4 (w:World) (b off:Nat) (o:eO) (x1:OA) (y1:Nat) (x3:OA) (y3:Nat) (x4:OA) (y4:Nat) (x5:OA) (y5:Nat):Prop where
 lt:b<w.heap.size
 c0:w.cell? (ep b off)=some (.string o.name)
 c1:w.cell? ⟨b,off+1,none⟩=some (.slice x1 (Ln o.uses) y1)
 c2:w.cell? ⟨b,off+2,none⟩=some (em o.data)
 c3:w.cell? ⟨b,off+3,none⟩=some (.slice x3 (Ln o.code) y3)
 c4:w.cell? ⟨b,off+4,none⟩=some (.slice x4 (Ln o.fixes) y4)
 c5:w.cell? ⟨b,off+5,none⟩=some (.slice x5 (Ln o.entries) y5)
 c6:w.cell? ⟨b,off+6,none⟩=some (em o.main)
 ov:jk w o x1 x3 x4 x5
theorem eE.ob (h:eE w eV a (Ln l) (sO l)) (i:Nat) (X:i<Ln l):∃ b C E T H y3 aj b9 al b7,a=some (ep b C)/\B4 w b (C+i*7) l[i] E T H y3 aj b9 al b7:=by
 obtain ⟨b,C,ab,F,a1⟩:=h.cell (by omega);generalize Q:l[i]=q;obtain ⟨u,c,data,f,fixes,entries,main⟩:=q
 have g:∀ j o,j<7->(eO.mk u c data f fixes entries main).ds[j]? = some o->∃ v,w.cell? ⟨b,C+i*7+j,none⟩=some v/\fT w eV o v:=fun j o ac ez=>by
  rw [kd];exact a1 (i*7+j) o ((mw eO.ds 7 (fun _=>rfl) l i X j ac).trans (by rw [Q];exact ez))
 obtain ⟨Z,av,b5⟩:=g 0 (.str u) (by omega) rfl;obtain ⟨aK,an,aL⟩:=g 1 (.list (Ln c) (fj c)) (by omega) rfl;obtain ⟨aN,aD,aU⟩:=g 2 (.int data) (by omega) rfl;obtain ⟨aY,aR,bd⟩:=g 3 (.list (Ln f) (lZ f)) (by omega) rfl;obtain ⟨be,b3,z⟩:=g 4 (.list (Ln fixes) (oV fixes)) (by omega) rfl;obtain ⟨P,q5,c0⟩:=g 5 (.list (Ln entries) (gS entries)) (by omega) rfl;obtain ⟨t,q6,W⟩:=g 6 (.int main) (by omega) rfl;obtain ⟨rfl,w0⟩:=lj b5;obtain ⟨E,T,rfl,G⟩:=hY aL;obtain ⟨rfl,w2⟩:=hw aU;obtain ⟨H,y3,rfl,S⟩:=hY bd;obtain ⟨aj,b9,rfl,a6⟩:=hY z;obtain ⟨al,b7,rfl,ap⟩:=hY c0;obtain ⟨rfl,eZ⟩:=hw W;exact ⟨b,C,E,T,H,y3,aj,b9,al,b7,ab,F,av,an,aD,aR,b3,q5,q6,w0,G,w2,S,a6,ap,eZ⟩
def xT (w:World) (a:OA) (n:Nat):Prop:=∀ b C,a=some (ep b C)->∀ i,i<n->∃ q k o,w.cell? ⟨b,C+i*7+1,none⟩=some (.slice q k o)/\k<=o
def nh (w:World) (a:OA) (l:List eO):Prop:=eE w eV a (Ln l) (sO l)/\xT w a (Ln l)
theorem nh.later (h:nh w a l) (F:et w r):nh r a l:=by
 refine ⟨h.1.later F,fun b C ab i X=>?_⟩;obtain ⟨q,k,o,a1,N⟩:=h.2 b C ab i X;obtain ⟨bA,cf,_,_,_,_,_,_,_,_,v,aQ⟩:=eE.ob (l:=l) h.1 i X;rw [ab] at v
 cases v
 exact ⟨q,k,o,(F.cell (p:=⟨b,C+i*7+1,none⟩) aQ.lt).trans a1,N⟩
theorem nh.ob (h:nh w a l) (i:Nat) (X:i<Ln l):∃ b C E T H y3 aj b9 al b7,a=some (ep b C)/\B4 w b (C+i*7) l[i] E T H y3 aj b9 al b7/\Ln l[i].uses<=T:=by
 obtain ⟨b,C,E,T,H,y3,aj,b9,al,b7,ab,aQ⟩:=eE.ob h.1 i X;obtain ⟨q,k,o,a1,N⟩:=h.2 b C ab i X;have G:=aQ.c1;rw [a1] at G;cases G;exact ⟨b,C,E,T,H,y3,aj,b9,al,b7,ab,aQ,N⟩
theorem B5 (T y3 y4 y5:Nat) (h:jk w o E H aj al):fB w eV o.ds [.string o.name,.slice E (Ln o.uses) T,em o.data,.slice H (Ln o.code) y3,.slice aj (Ln o.fixes) y4,.slice al (Ln o.entries) y5,em o.main]:=by
 unfold eO.ds;exact .cons (gy h.wn) (.cons h.uses.val (.cons (f8 h.wd) (.cons h.code.val (.cons h.fixes.val (.cons h.entries.val (.cons (f8 h.wm) .nil))))))
theorem Ji {p:eO} {u1 u3 u4 u5:OA} (T y3 y4 y5 aK aY be P:Nat) (h:jk w o E H aj al) (k:jk w p u1 u3 u4 u5) (G:Ln o.uses<=T) (ak:Ln p.uses<=aK) (t:TypeId) :
 nh (w.alloc (.cells #[.string o.name,.slice E (Ln o.uses) T,em o.data,.slice H (Ln o.code) y3,.slice aj (Ln o.fixes) y4,.slice al (Ln o.entries) y5,em o.main,.string p.name,.slice u1 (Ln p.uses) aK,em p.data,.slice u3 (Ln p.code) aY,.slice u4 (Ln p.fixes) be,.slice u5 (Ln p.entries) P,em p.main] t)) (some (ep w.heap.size 0)) [o,p]:=by
 have F:=eR.new w #[.string o.name,.slice E (Ln o.uses) T,em o.data,.slice H (Ln o.code) y3,.slice aj (Ln o.fixes) y4,.slice al (Ln o.entries) y5,em o.main,.string p.name,.slice u1 (Ln p.uses) aK,em p.data,.slice u3 (Ln p.code) aY,.slice u4 (Ln p.fixes) be,.slice u5 (Ln p.entries) P,em p.main] t
 have e:sO [o,p]=o.ds++p.ds:=by simp [sO]
 refine ⟨kc F ?_ (by rw [e];simp [eO.ds]) (by rw [e];simp [eO.ds]),fun b C ab i X=>?_⟩
 . rw [e]
   have m:eQ w eV (w.alloc (.cells #[.string o.name,.slice E (Ln o.uses) T,em o.data,.slice H (Ln o.code) y3,.slice aj (Ln o.fixes) y4,.slice al (Ln o.entries) y5,em o.main,.string p.name,.slice u1 (Ln p.uses) aK,em p.data,.slice u3 (Ln p.code) aY,.slice u4 (Ln p.fixes) be,.slice u5 (Ln p.entries) P,em p.main] t)) eV:=⟨by simp,fun b F _=>⟨trivial,(ey _ _).block b F⟩⟩
   exact (B5 T y3 y4 y5 (h.later (ey _ _))).append (B5 aK aY be P (k.later (ey _ _)))
 . cases ab
   have j:i=0\/i=1:=by simp at X;omega
   rcases j with rfl | rfl
   . exact ⟨E,_,T,F.cell 1 _ rfl,G⟩
   . exact ⟨u1,_,aK,F.cell 8 _ rfl,ak⟩
def oO:eO:=oT qI
theorem Jj:lY qI = .ok oO:=by kernel_rfl
theorem Jk (p q:ga) (o O:eO) (aa:lY p = .ok o) (W:lY q = .ok O) (bp:∀ w:World,ew 75 #[] w fun e r=>∃ a,e = .returned (.slice (some a) 2 2)/\eE r eV (some a) 2 (oL [p,q])/\et w r) (w:World) :
 ew 85 #[] w fun e r=>∃ a,e = .returned (.slice (some a) 2 2)/\nh r (some a) [o,O]/\et w r:=by
 have A:=hid bp;have I:=hid (fun (M:World) (E:OA) (T:Nat) (ae:OA) (X:Nat) (H:OA) (y3:Nat) (d:kV M p E T ae X H y3)=>BW aa d);have f:=hid (fun (M:World) (E:OA) (T:Nat) (ae:OA) (X:Nat) (H:OA) (y3:Nat) (d:kV M q E T ae X H y3)=>BW W d);clear bp aa W;go_enter func85,ntmps85;go_wp2_with fail;refine (A _).mono ?_;rintro e eq ⟨a,rfl,ax,ai⟩;have B:=hid ai;obtain ⟨b,C,Y,ak,a5,au,a7,aI,ab,Q⟩:=(eE.un (l:=[p,q]) ax) 0 (by simp);obtain rfl:=fe ab;have bl:=hid Q.uv;simp only [oo,jq,kf] at Q bl;obtain ⟨ap,D,aZ,b6,bk,bm,_,_,_,_,_⟩:=Q;clear ax ai ab;go_wp2_with fail;refine (I _ _ _ _ _ _ _ bl).mono ?_;rintro e w2 ⟨E,T,H,y3,aj,b9,al,b7,rfl,aQ,s,aB⟩
 have c:=ey w2 (k0 o E T H y3 aj b9 al b7);have aM:=hid (es B (es aB c));have aG:=hid (aQ.later c);have ao:=hid s;have y:=hid (eT w2 (k0 o E T H y3 aj b9 al b7));clear aQ s aB c ap D aZ b6 bk bm bl B;go_wp2_with fail
 obtain ⟨S,hW2⟩:∃ S,S=w2.alloc (k0 o E T H y3 aj b9 al b7):=⟨_,rfl⟩
 rw [← hW2] at aM aG y ⊢;clear hW2;refine (A _).mono ?_;rintro e eC ⟨a,rfl,ax,a2⟩;have aP:=hid (es aM a2);have aq:=hid (aG.later a2);have Z:=hid (j2 y a2);obtain ⟨b,C,Y,ak,a5,au,a7,aI,ab,Q⟩:=(eE.un (l:=[p,q]) ax) 1 (by simp);obtain rfl:=fe ab;have bl:=hid Q.uv;simp only [pl,oo,rt] at Q bl;obtain ⟨ap,D,aZ,b6,bk,bm,_,_,_,_,_⟩:=Q;clear ax a2 ab aM aG y;go_wp2_with fail;refine (f _ _ _ _ _ _ _ bl).mono ?_;rintro e eA ⟨u1,aK,u3,aY,u4,be,u5,P,rfl,bb,hcr,aW⟩;have b1:=hid (es aP aW);have a3:=hid (aq.later aW);have b4:=hid bb;have cX:=hid hcr;have L:=hid (j2 Z aW);clear bb hcr aW ap D aZ b6 bk bm bl aP aq Z;obtain ⟨av,an,aD,aR,b3,q5,q6,aV⟩:=f6 L
 go_wp2_with fail;go_ret;refine ⟨_,rfl,?_,es b1 (gc _ _ _)⟩;have:=Ji T y3 b9 b7 aK aY be P (a3.later (ey eA (k0 O u1 aK u3 aY u4 be u5 P))) (b4.later (ey eA (k0 O u1 aK u3 aY u4 be u5 P))) ao cX 62;simp only [qs] at this;exact this
theorem Jl (w:World) :
 ew 85 #[] w fun e r=>∃ a,e = .returned (.slice (some a) 2 2)/\nh r (some a) [pH,oO]/\et w r:=
 Jk qH qI pH oO Jh Jj Jg w
theorem jK {B:Nat} {a:World} (h:Below B a w) (m:Nat):Below B a (w.drewN m):=⟨h.os,h.tape,h.output,h.size,h.block⟩
end Go.Proofs.YtndkhgakfodldaaGreatDoor

namespace Go.Proofs.YtndkhgakfodldaaGreatDoor
open Go.RowKit Go.Shelf
variable {B Y i:Nat} {a8:Cx} {e:Int} {s:Sw} {u f:Value} {w r:World}
structure Wk where
 au:OA
 cu:Nat
 an:OA
 cn:Nat
 ab:OA
 cb:Nat
 D:Nat
 cd:Nat
 S:Nat
def oP (l:List Nat):List Int:=l.map Int.ofNat
def qK (l:List (List Nat)):List D:=l.map fun O=>.list (Ln O) (gS (oP O))
abbrev rG (a8:Cx) (K:Wk) (b9:OA) (aA:Nat) (f:Value) (s:Sw) (e:Int):Array Value:=#[.slice K.au (Ln a8.us) K.cu,.slice K.an (Ln a8.near) K.cn,.slice K.ab (Ln a8.beg) K.cb,.slice (some (ep K.D 0)) (Ln s.data) K.cd,.slice b9 (Ln s.inp) aA,f,em a8.lim,em s.ticks,em s.calls,em e]
structure Ro (w:World) (B base:Nat) (cx:Cx) (K:Wk):Prop where
 us:eE w (·<base) K.au (Ln cx.us) (oL cx.us)
 near:eE w (fun b=>b<K.S/\b≠B/\b≠K.D) K.an (Ln cx.near) (qK cx.near)
 beg:eE w (fun b=>b<K.S/\b≠B/\b≠K.D) K.ab (Ln cx.beg) (gS cx.beg)
 lB:base<=B
 lD:base<=K.D
 BS:B<K.S
 DS:K.D<K.S
 BD:B≠K.D
 zS:K.S<=w.heap.size
theorem Ro.moves {K:Wk} (h:Ro w B Y a8 K) (aS:w.heap.size<=r.heap.size) (N:∀ b,b<K.S->b≠B->b≠K.D->r.heap[b]? = w.heap[b]?):Ro r B Y a8 K:=
 have G:=h.lB;have J:=h.lD;have S:=h.BS
 ⟨h.us.moves ⟨aS,fun b _ a2=>⟨a2,N b (by omega) (by omega) (by omega)⟩⟩,h.near.moves ⟨aS,fun b _ a2=>⟨a2,N b a2.1 a2.2.1 a2.2.2⟩⟩,h.beg.moves ⟨aS,fun b _ a2=>⟨a2,N b a2.1 a2.2.1 a2.2.2⟩⟩,h.lB,h.lD,h.BS,h.DS,h.BD,iC h.zS aS⟩
structure gA (w:World) (B base:Nat) (cx:Cx) (K:Wk) (vo:Value) (s:Sw) (e:Int):Prop where
 blk:∃ ai ci,w.heap[B]? = some (.cells (rG cx K ai ci vo s e) 128 (0,0))/\eE w (·<base) ai (Ln s.inp) (gS s.inp)/\Ln s.inp<=ci
 data:w.heap[K.D]? = some (.cells (intV s.data).toArray 3 (0,0))
 out:w.ownsRow K.S 3 1 vo (Ln s.out) (intV s.out)
 ro:Ro w B base cx K
 cd:K.cd=Ln s.data
 dl:Ln s.data<=512
 tl:s.ticks<=cx.lim
 tm:cx.lim<=1000000
 cl:s.calls<=24
 ol:Ln s.out<=200
theorem gA.oB {K:Wk} (h:gA w B Y a8 K f s e):f.ownBlock≠some B:=fun q=>by have:=(h.out.lt B q).1;have:=h.ro.BS;omega
theorem gA.oD {K:Wk} (h:gA w B Y a8 K f s e):f.ownBlock≠some K.D:=fun q=>by have:=(h.out.lt K.D q).1;have:=h.ro.DS;omega
structure gF (B D:Nat) (vo vo':Value) (w w':World):Prop where
 os:w'.os=w.os
 tape:w'.tape=w.tape
 output:w'.output=w.output
 size:w.heap.size<=w'.heap.size
 block:∀ b,b<w.heap.size->b≠B->b≠D->vo.ownBlock≠some b->w'.heap[b]? = w.heap[b]?
 own:∀ k,vo'.ownBlock=some k->k<w.heap.size->vo.ownBlock=some k
theorem gF.refl (B D:Nat) (f:Value) (w:World):gF B D f f w w:=⟨rfl,rfl,rfl,eD _,fun _ _ _ _ _=>rfl,fun _ h _=>h⟩
theorem gF.trans {D:Nat} {aK aN aY:Value} {a b c:World} (h:gF B D aK aN a b) (k:gF B D aN aY b c):gF B D aK aY a c:=
 ⟨k.os.trans h.os,k.tape.trans h.tape,k.output.trans h.output,iC h.size k.size,fun q Q G J S=>(k.block q (gl Q h.size) G J (fun e=>S (h.own q e Q))).trans (h.block q Q G J S),fun q e Q=>h.own q (k.own q e (gl Q h.size)) Q⟩
theorem gF.grown {D:Nat} (h:w.grownBy r (some B)):gF B D f f w r:=⟨h.os,h.tape,h.output,h.size,fun b F G _ _=>h.block b F (fun e=>G (fe e)),fun _ h _=>h⟩
theorem gF.below {D:Nat} (h:et w r):gF B D f f w r:=⟨h.os,h.tape,h.output,h.size,fun b F _ _ _=>h.block b F,fun _ h _=>h⟩
abbrev qL (c:Int):List PanicEntry:=[{ v:=.iface 3 (em c),recovered:=false }]
def Sr {α:Type} (g:α->Value) (B Y:Nat) (a8:Cx) (K:Wk) (w:World) (f:Value) (O:Rr α) (e:Ending) (r:World):Prop:=
 ∃ y,gF B K.D f y w r/\((∃ a s,O = .ok a s/\e = .returned (g a)/\gA r B Y a8 K y s 0)\/(∃ c s,O = .stop c s/\e = .panicked (qL c)/\gA r B Y a8 K y s c))
def B6 (n:Int):Value:=em n
def xU (_:Unit):Value:=.tuple #[]
theorem nS {b:Nat} {af E ae H aj al O d c a:Value} {t:TypeId} (h:w.heap[b]? = some (.cells #[af,E,ae,H,aj,al,O,d,c,a] t (0,0))) :
 w.cell? (ep b 0)=some af/\w.cell? (ep b 1)=some E/\w.cell? (ep b 2)=some ae/\w.cell? (ep b 3)=some H/\w.cell? (ep b 4)=some aj/\w.cell? (ep b 5)=some al/\w.cell? (ep b 6)=some O/\w.cell? (ep b 7)=some d/\w.cell? (ep b 8)=some c/\w.cell? (ep b 9)=some a/\b<w.heap.size/\∀ j,w.frozen? (ep b j)=false:=by
 refine ⟨?_,?_,?_,?_,?_,?_,?_,?_,?_,?_,lt_of_heap h,fun j=>ih h j⟩<;>(rw [fU h];rfl)
theorem rH:w.grownBy (w.setCell (ep B i) u) (some B):=⟨rfl,rfl,rfl,by simp,fun k _ aV=>fa (fun e=>aV (by rw [e])) u⟩
theorem gA.put {K:Wk} {s':Sw} {e':Int} (h:gA w B Y a8 K f s e) (Z:∀ b9 aA,(rG a8 K b9 aA f s e).setIfInBounds i u=rG a8 K b9 aA f s' e') (G:s'.data=s.data) (J:s'.inp=s.inp) (S:s'.out=s.out) (a6:s'.ticks<=a8.lim) (ap:s'.calls<=24):gA (w.setCell (ep B i) u) B Y a8 K f s' e':=by
 obtain ⟨b9,aA,F,X,a1⟩:=h.blk;have aw:=h.ro.lB;refine ⟨⟨b9,aA,?_,?_,by rw [J];exact a1⟩,?_,?_,h.ro.moves (by simp) (fun b _ U _=>fa (by show b≠B;exact U) u),by rw [G];exact h.cd,by rw [G];exact h.dl,a6,h.tm,ap,by rw [S];exact h.ol⟩
 . rw [heap_set F u,Z]
 . rw [J]
   exact X.moves ⟨by simp,fun b _ a0=>⟨a0,fa (by show b≠B;omega) u⟩⟩
 . rw [G]
   exact (fa (by show K.D≠B;exact fun e=>h.ro.BD e.symm) u).trans h.data
 . rw [S]
   exact il h.out (fun k N=>fa (fun e=>h.oB (by rw [N];exact congrArg some e)) u)
theorem stop_any (B Y:Nat) (a8:Cx) (K:Wk) (f:Value) (s:Sw) (c:Int) (w:World) (h:gA w B Y a8 K f s 0) :
 ew 167 #[eL B 0,em c] w fun e r=>e = .panicked (qL c)/\w.grownBy r (some B)/\gA r B Y a8 K f s c:=by
 obtain ⟨b9,aA,F,_,_⟩:=h.blk;obtain ⟨av,an,aD,aR,b3,q5,q6,q7,q8,q9,aV,qf⟩:=nS F;have A:=hid (h.put (i:=9) (u:=em c) (s':=s) (e':=c) (fun _ _=>rfl) rfl rfl rfl h.tl h.cl);clear h F;go_enter func167,ntmps167;go_wp2_with fail;exact ⟨rfl,rfl,rH,A⟩
theorem gA.below {K:Wk} (h:gA w B Y a8 K f s e) (F:et w r):gA r B Y a8 K f s e:=by
 obtain ⟨b9,aA,ab,X,a1⟩:=h.blk;have a2:=lt_of_heap ab;exact ⟨⟨b9,aA,(F.block _ a2).trans ab,X.moves ⟨F.size,fun b Q a0=>⟨a0,F.block b Q⟩⟩,a1⟩,(F.block _ (lt_of_heap h.data)).trans h.data,ownsRow_later h.out F,h.ro.moves F.size (fun b G _ _=>F.block b (gl G h.ro.zS)),h.cd,h.dl,h.tl,h.tm,h.cl,h.ol⟩
theorem gY (w:World) (m:Nat):et w (w.drewN m):=jK (Below.refl _ _) m
theorem tick_any (B Y:Nat) (a8:Cx) (K:Wk) (f:Value) (s:Sw) (w:World) (h:gA w B Y a8 K f s 0) :
 ew 166 #[eL B 0] w fun e r=>Sr xU B Y a8 K w f (l2 a8.lim s) e r:=by
 obtain ⟨b9,aA,F,_,_⟩:=h.blk;obtain ⟨av,an,aD,aR,b3,q5,q6,q7,q8,q9,aV,qf⟩:=nS F;have b:=h.tl;have c:=h.tm;have aO:=hid h;clear h F
 by_cases aj:s.ticks=a8.lim
 . have z:Hid (l2 a8.lim s = .stop 3 s):=if_pos aj
   have aJ:=hid (fun M (L:et w M)=>stop_any B Y a8 K f s 3 M (aO.below L))
   have a:((s.ticks:Int) == (a8.lim:Int))=true:=by rw [aj];simp
   go_enter func166,ntmps166;go_wp2_with fail
   go_quiet ((fail))
   go_wp2_with fail;refine (aJ _ (gY w _)).mono ?_;rintro e eq ⟨rfl,af,aq⟩;exact ⟨rfl,f,(gF.below (gY w _)).trans (gF.grown af),Or.inr ⟨3,s,z,rfl,aq⟩⟩
 . have z:Hid (l2 a8.lim s = .ok () { s with ticks:=s.ticks+1 }):=if_neg aj
   have a:((s.ticks:Int) == (a8.lim:Int))=false:=by rw [beq_eq_false_iff_ne];omega
   have A:=hid (fun M (L:et w M)=>(aO.below L).put (i:=7) (u:=em ((s.ticks:Int)+1)) (s':={ s with ticks:=s.ticks+1 }) (e':=0) (fun _ _=>rfl) rfl rfl rfl (by show s.ticks+1<=a8.lim;omega) aO.cl);go_enter func166,ntmps166;go_wp2_with fail
   go_quiet ((fail))
   go_wp2_with fail;go_end0;exact ⟨f,(gF.below (gY w _)).trans (gF.grown rH),Or.inl ⟨(),_,z,rfl,A _ (gY w _)⟩⟩
end Go.Proofs.YtndkhgakfodldaaGreatDoor

namespace Go.Proofs.YtndkhgakfodldaaGreatDoor
open Go.RowKit Go.Maps Go.WideMaps
theorem Jm:∀ l:List (L8),Fx.zgd l=false↔l.Nodup:=by
 apply Fx.zeq
 . exact ⟨fun _=>.nil,fun _=>rfl⟩
 . intro l s aH
   rw [Fx.zin,jf,aH,decide_eq_false_iff_not,tZ]
   constructor
   . rintro ⟨G,J⟩
     refine ⟨G,by simp,fun a ab b F e=>?_⟩;rw [pn.1 F] at e;exact J (e ▸ ab)
   . rintro ⟨G,_,J⟩
     exact ⟨G,fun Z=>J s Z s (by simp) rfl⟩
theorem B7 {α:Type} [DecidableEq α] (l:List α):l.Nodup↔∀ i (h:i<Ln l),l[i] ∉ l.take i:=by
 rw [wP,List.pairwise_iff_getElem]
 constructor
 . intro h i X a8
   obtain ⟨k,N,e⟩:=kx a8;rw [ky] at N;rw [tY] at e;exact h k i (by omega) X (by omega) e
 . intro h i j X ac a e
   exact h j ac (by rw [← e];exact List.mem_iff_getElem.2 ⟨i,by rw [ky];omega,by rw [tY]⟩)
theorem Jn (l:List ByteArray):(Fx.zbi l).Nodup↔l.Nodup:=by
 unfold Fx.zbi;rw [wP,wP,List.pairwise_map]
 constructor
 . intro h;exact h.imp (fun U e=>U (by rw [e]))
 . intro h;exact h.imp (fun U e=>U (uI e))
def nT (s:ByteArray):Bool:=Lx.zbw s.data.toList
theorem Jo (o:eO):kk o=((o.name :: o.uses).all nT && !Fx.zgd (Fx.zbi (o.name :: o.uses))):=by
 rw [ow]
 have ez:(!Fx.zgd (Fx.zbi (o.name :: o.uses)))=true↔(o.name :: o.uses).Nodup:=by
  rw [tX,Jm,Jn]
 rw [fs,ez,t2,oz,fs,hJ];unfold kk;rw [fs,iO]
 have aI:∀ i (h:i<Ln o.uses),nt o i=true↔(nT o.uses[i]=true/\o.uses[i]≠o.name/\o.uses[i] ∉ o.uses.take i):=fun i h=>by
  unfold nt;rw [gb h];simp only [fs,tX,decide_eq_false_iff_not];rw [show (Go.Lib.containsS (o.uses.take i) o.uses[i]=false)↔o.uses[i] ∉ o.uses.take i from by rw [← Go.Lib.containsS_iff];simp]
  rfl
 constructor
 . rintro ⟨G,J⟩
   refine ⟨⟨G,fun s Z=>?_⟩,fun a8=>?_,(B7 o.uses).2 fun i X=>((aI i X).1 (J i X)).2.2⟩
   . obtain ⟨k,N,rfl⟩:=kx Z
     exact ((aI k N).1 (J k N)).1
   . obtain ⟨k,N,e⟩:=kx a8
     exact ((aI k N).1 (J k N)).2.1 e
 . rintro ⟨⟨G,J⟩,S,a6⟩
   refine ⟨G,fun i X=>(aI i X).2 ⟨J _ (fO X),fun e=>S (e ▸ fO X),(B7 o.uses).1 a6 i X⟩⟩
theorem Jp {w:World} {Y g:Nat} {x:ByteArray} (h:w.heap[g]? = some (.cells #[.string x] 9)) (F:Y<=g):w.ownsRow Y 9 1 (.slice (some (ep g 0)) 1 1) 1 (strV [x]):=
 ⟨rfl,Or.inr ⟨g,1,#[.string x],rfl,F,h,eD _,by decide,rfl,rfl⟩⟩
theorem Jq {o:eO} (a8:j4 o=false) (h:(kk o&&(hA o&&km o))=false):gd o=1:=by
 unfold gd;rw [a8,h]
 rfl
theorem wi (n K X:Int) (b:Bool) (h:(decide (K<=n)&&decide (n<=X))=b) (w:World):ew 63 #[em n,em K,em X] w fun e r=>e = .returned (.bool b)/\r=w:=by
 rw [← h];exact p4 n K X w
def j3 (n K X:Int):Bool:=decide (K<=n)&&decide (n<=X)
theorem Jr (n K X:Int) (w:World):ew 63 #[em n,em K,em X] w fun e r=>e = .returned (.bool (j3 n K X))/\r=w:=p4 n K X w
theorem B8 {o:eO} {k:Nat} {fk fm:Int} (N:k<Ln o.code) (a1:Ln o.code<=2048):mL o ⟨k,fk,fm⟩=true↔((1<=fk/\fk<=3)/\(0<=fm/\fm<=Ln o.uses)/\(0<=o.code[k].a/\o.code[k].a<=2048)/\(fk=1->fm=0/\o.code[k].a<=Ln o.code)):=by
 have ab:jl o (k:Int)=o.code[k].a:=by unfold jl;rw [mT,gb N]
 unfold mL hb;simp only [ab];generalize o.code[k].a=aA
 by_cases G:fk=1
 . subst G
   simp only [if_true,fs,decide_eq_true_eq]
   constructor
   . rintro ⟨E,ae,H,aj⟩
     exact ⟨by omega,by omega,by omega,fun _=>by omega⟩
   . rintro ⟨E,ae,H,aj⟩
     have al:=aj trivial;omega
 . rw [if_neg G]
   by_cases J:fk=2\/fk=3
   . rw [if_pos J]
     simp only [fs,decide_eq_true_eq]
     constructor
     . rintro ⟨E,ae,H,aj⟩
       exact ⟨by omega,by omega,by omega,fun e=>absurd e G⟩
     . rintro ⟨E,ae,H,aj⟩
       clear aj;omega
   . rw [if_neg J]
     constructor
     . intro h;cases h
     . rintro ⟨E,ae,H,aj⟩;clear aj;omega
theorem lW {n K X:Int} (G:K<=n) (J:n<=X):(decide (K<=n)&&decide (n<=X))=true:=by rw [decide_eq_true G,decide_eq_true J];rfl
theorem lX {n K X:Int} (h:¬ (K<=n/\n<=X)):(decide (K<=n)&&decide (n<=X))=false:=by
 rw [tU,decide_eq_false_iff_not,decide_eq_false_iff_not];omega
theorem Js (o:eO) (E:OA) (T:Nat) (H:OA) (y3:Nat) (aj:OA) (y4:Nat) (al:OA) (y5:Nat) (w:World) (aQ:jk w o E H aj al) :
 ew 34 #[.agg #[.string o.name,.slice E (Ln o.uses) T,em o.data,.slice H (Ln o.code) y3,.slice aj (Ln o.fixes) y4,.slice al (Ln o.entries) y5,em o.main]] w fun e r=>e = .returned (em (gd o))/\et w r:=by
 have b7:=aQ.uses.bound;have b9:=aQ.code.bound;have aa:=aQ.fixes.bound;have ae:=aQ.entries.bound;have bn:=eT w (hE o.name E (Ln o.uses) T o.data H (Ln o.code) y3 aj (Ln o.fixes) y4 al (Ln o.entries) y5 o.main);have Q:=ey w (hE o.name E (Ln o.uses) T o.data H (Ln o.code) y3 aj (Ln o.fixes) y4 al (Ln o.entries) y5 o.main);generalize L:w.alloc (hE o.name E (Ln o.uses) T o.data H (Ln o.code) y3 aj (Ln o.fixes) y4 al (Ln o.entries) y5 o.main)=ad at *;have aN:=hid bn;have aG:=hid (aQ.later Q);have c:=hid Q;have aq:Hid (j4 o=(decide (3<Ln o.uses)||(decide (6<Ln o.entries)||(decide (Ln o.code<1)||decide (2048<Ln o.code))))):=rfl;have aw:=hid (fun (h:j4 o=true)=>(by unfold gd;rw [h];rfl:gd o=2));obtain ⟨av,an,aD,aR,b3,q5,q6,aV⟩:=f6 bn;clear aQ bn Q
 by_cases l:3<Ln o.uses
 . have z:=hid (aw (by rw [aq.out,decide_eq_true l];rfl))
   have I:(3:Int)<Ln o.uses:=by omega
   go_enter func34,ntmps34;go_wp2_with fail;go_ret;exact ⟨by rw [z.out];first | done | rfl,c⟩
 by_cases O:6<Ln o.entries
 . have z:=hid (aw (by rw [aq.out,decide_eq_true O];simp))
   have I:¬ (3:Int)<Ln o.uses:=by omega
   have R:(6:Int)<Ln o.entries:=by omega
   go_enter func34,ntmps34;go_wp2_with fail;go_ret;exact ⟨by rw [z.out];first | done | rfl,c⟩
 have I:¬ (3:Int)<Ln o.uses:=by omega
 have R:¬ (6:Int)<Ln o.entries:=by omega
 by_cases ak:1<=Ln o.code/\Ln o.code<=2048
 case neg=>
  have z:=hid (aw (by rw [aq.out];simp only [w3,decide_eq_true_eq];omega));have aM:=hid (fun M=>wi (Ln o.code:Int) 1 2048 false (lX (by omega)) M);go_enter func34,ntmps34;go_wp2_with fail;refine (aM _).mono ?_;rintro e r ⟨rfl,rfl⟩;go_wp2_with fail;go_ret;exact ⟨by rw [z.out];first | done | rfl,c⟩
 have aX:Hid (j4 o=false):=by show _=_;rw [aq.out];simp only [jf,decide_eq_false_iff_not];omega
 have p:=hid (fun (h:(kk o&&(hA o&&km o))=false)=>Jq aX h);have aM:=hid (fun M=>wi (Ln o.code:Int) 1 2048 true (lW (by omega) (by omega)) M)
 obtain ⟨x,u⟩:∃ x:Int,x=(Ln o.code:Int) - 1:=⟨_,rfl⟩
 have bf:IntKind.i64.wrap ((Ln o.code:Int) - 1)=x:=by rw [u];simp only [IntKind.wrap,IntKind.bits,IntKind.signed];simp;omega
 have P:=hid u;clear l O aq aw u;go_enter func34,ntmps34;go_wp2_with fail;refine (aM _).mono ?_;rintro e r ⟨rfl,rfl⟩;obtain ⟨be,eA,hr4,ho4,hg4⟩:=sM r.heap.size 22 (.slice (some (ep r.heap.size 0)) 1 1) 1 (strV [o.name]) (Jp (eT r (.cells #[.string o.name] 9)) (eD _)) o.uses E T (lT (aG.later (ey r (.cells #[.string o.name] 9))).uses).1 (by omega) (by simp);have aW:Below r.heap.size r eA:=(ey r _).grown hg4 (by simp) (fun k N=>by simp only [Value.ownBlock,kR] at N;omega);rw [show strV [o.name]++strV o.uses=strV (o.name :: o.uses) from rfl,show 1+Ln o.uses=(o.name :: o.uses).length from by simp;omega] at ho4;obtain ⟨ay,am,rfl,hS4⟩:=sN ho4;have b4:=hid hr4;have b1:=hid aW;have b0:=hid hS4
 have bc:Hid (∀ s ∈ o.name :: o.uses,s.size<=maxLen):=fun s Z=>by
  rcases lM.1 Z with rfl | Z
  . exact aG.wn
  . exact (lT aG.uses).2 s Z
 have cH:=hid (Jo o);have aJ:=hid (Fx.zr4 ay am (o.name :: o.uses))
 have cw:(o.name :: o.uses).length<=4:=by simp;omega
 clear hr4 aW ho4 hg4 hS4;generalize o.name :: o.uses=ns at *
 go_wp2_with (at_builtin;refine Lib.wpList_append_run _ rfl _ _ _ _ rfl _ _ rfl rfl _ eA b4 ?_)
 clear bf L aM b4
 go_loopw [5] (fun i wr=>∃ j:Nat,j<=Ln ns/\i=em j/\(ns.take j).all nT=true/\wr=eA) (fun i _=>Ln ns - (intOf i).toNat)
 case atStart=>exact ⟨0,eY _,rfl,rfl,rfl⟩
 case round=>
  obtain ⟨j,ac,rfl,aO,rfl⟩:=hrel;have b8:=hid aO;clear aO
  by_cases a0:j<Ln ns
  . obtain ⟨b,C,rfl,ap,bh⟩:=b0.place a0
    have aI:=hid (Dm ns[j] wr (bc _ (fO a0)));have ar:=hid (fun (h:nT ns[j]=true)=>(by rw [all_snoc ns nT j a0,b8.out,h];rfl:(ns.take (j+1)).all nT=true));have z:=hid (fun (h:nT ns[j]=false)=>p (by rw [cH.out,all_not ns nT j a0 h];rfl));unfold nT at ar z;generalize ns[j]=q at *;go_wp2_with fail;refine aI.mono ?_;rintro e eJ ⟨rfl,rfl⟩
    cases U:Lx.zbw q.data.toList with
    | false=>
      have v:=hid (z U);go_wp2_with fail;go_ret;exact ⟨by rw [v.out];first | done | rfl,es c b1⟩
    | true=>
      have bj:=hid (ar U);go_wp2_with fail;go_roundw
      case rel=>exact ⟨j+1,by omega,by go_num,bj,by first | rfl | trivial⟩
      case measure=>simp [intOf];omega
  . have ar : Hid (ns.all nT=true):=kS b8 a0
    have d3:Hid (kk o = !Fx.zgd (Fx.zbi ns)):=by show _=_;rw [cH.out,ar.out];rfl
    go_wp2_with fail;refine (aJ wr b0 (by omega)).mono ?_;rintro e eJ ⟨rfl,b5⟩;have bb:=hid (es b1 b5);have a8:=hid (es c bb);clear b5 av an aD aR b3 q5 q6 aV;obtain ⟨av,an,aD,aR,b3,q5,q6,aV⟩:=f6 (j2 aN bb)
    cases ez:Fx.zgd (Fx.zbi ns) with
    | true=>
      have z:=hid (p (by rw [d3.out,ez];rfl));go_wp2_with fail;go_ret;exact ⟨by rw [z.out];first | done | rfl,a8⟩
    | false=>
    have aE:Hid (kk o=true):=by show _=_;rw [d3.out,ez];rfl
    have a9:=hid (fun (h:(hA o&&km o)=false)=>p (by rw [aE.out,h];rfl));clear p cH d3 ez
    by_cases aL:0<=o.data/\o.data<=512
    case neg=>
     have z:=hid (a9 (by rw [show hA o=false from by unfold hA oW;rw [decide_eq_false aL];simp];rfl));have aB:=hid (fun M=>wi o.data 0 512 false (lX aL) M);clear aL;go_wp2_with fail;refine (aB _).mono ?_;rintro e eZ ⟨rfl,rfl⟩;go_wp2_with fail;go_ret;exact ⟨by rw [z.out];first | done | rfl,a8⟩
    have aB:=hid (fun M=>wi o.data 0 512 true (lW aL.1 aL.2) M)
    by_cases aU:0<=o.main/\o.main<=x
    case neg=>
     have z:=hid (a9 (by rw [show hA o=false from by unfold hA oW hV;rw [decide_eq_false (p:=0<=o.main/\o.main<Ln o.code) (by have:=P.out;omega)];simp];rfl));have aP:=hid (fun M=>wi o.main 0 x false (lX aU) M);clear aL aU;go_wp2_with fail;refine (aB _).mono ?_;rintro e eZ ⟨rfl,rfl⟩;go_wp2_with fail;refine (aP _).mono ?_;rintro e eZ ⟨rfl,rfl⟩;go_wp2_with fail;go_ret;exact ⟨by rw [z.out];first | done | rfl,a8⟩
    have aP:=hid (fun M=>wi o.main 0 x true (lW aU.1 aU.2) M)
    have dc:Hid (oW o=true):=by show _=_;unfold oW hV;rw [decide_eq_true aL,decide_eq_true (p:=0<=o.main/\o.main<Ln o.code) (by have:=P.out;omega)];rfl
    clear aL aU;go_wp2_with fail;refine (aB _).mono ?_;rintro e eZ ⟨rfl,rfl⟩;go_wp2_with fail;refine (aP _).mono ?_;rintro e eZ ⟨rfl,rfl⟩;go_wp2_with fail;clear aB aP;have bi:=hid (aG.later bb)
    go_loopw [6] (fun i wr=>∃ j:Nat,j<=Ln o.code/\i=em j/\(∀ k,k<j->pS o k=true)/\wr=eZ) (fun i _=>Ln o.code - (intOf i).toNat)
    case atStart=>exact ⟨0,eY _,rfl,fun k N=>absurd N (jU k),rfl⟩
    case round =>
     obtain ⟨j,ac,rfl,aO,rfl⟩:=hrel;have b8:=hid aO;clear aO
     by_cases a0:j<Ln o.code
     . obtain ⟨b9,off3,rfl,hbl3,bh,_,_,_,_,_⟩:=bi.code.gi j a0
       have aH:Hid (pS o j=opB o.code[j]):=by show _=_;unfold pS;rw [gb a0]
       have W:=hid (fun (h:opB o.code[j]=false)=>a9 (by rw [show hA o=false from by unfold hA;rw [lu a0 (aH.out.trans h)];rfl];rfl));have a6:=hid (fun (h:opB o.code[j]=true)=>lw b8 (aH.trans h));generalize o.code[j]=y at *
       by_cases t:1<=y.op/\y.op<=22
       case neg=>
        have z:=hid (W (decide_eq_false t));have ab:=hid (fun M=>wi y.op 1 22 false (lX t) M);clear t;go_wp2_with fail;refine (ab _).mono ?_;rintro e eW ⟨rfl,rfl⟩;go_wp2_with fail;go_ret;exact ⟨by rw [z.out];first | done | rfl,a8⟩
       have a2:=hid (a6 (decide_eq_true t));have ab:=hid (fun M=>wi y.op 1 22 true (lW t.1 t.2) M);clear t;go_wp2_with fail;refine (ab _).mono ?_;rintro e eW ⟨rfl,rfl⟩;go_wp2_with fail;go_roundw
       case rel=>exact ⟨j+1,by omega,by go_num,a2,by first | rfl | trivial⟩
       case measure=>simp [intOf];omega
     . obtain rfl : j = Ln o.code:=by omega
       have ao:Hid (hA o=ju (Ln o.entries) (nr o)):=by show _=_;unfold hA;rw [iO.2 b8.out,dc.out];simp
       go_wp2_with fail
       go_loopw [7] (fun i aZ=>∃ j:Nat,j<=Ln o.entries/\i=em j/\(∀ k,k<j->nr o k=true)/\aZ=wr) (fun i _=>Ln o.entries - (intOf i).toNat)
       case atStart=>exact ⟨0,eY _,rfl,fun k N=>absurd N (jU k),rfl⟩
       case round =>
        obtain ⟨j,ac,rfl,aO,rfl⟩:=hrel;have b8:=hid aO;clear aO
        by_cases a0:j<Ln o.entries
        . obtain ⟨bp,off5,rfl,hbl5,bh,_⟩:=bi.entries.num j a0
          have aH:Hid (nr o j=hV o o.entries[j]):=by show _=_;unfold nr;rw [gb a0]
          have W:=hid (fun (h:hV o o.entries[j]=false)=>a9 (by rw [ao.out,lu a0 (aH.out.trans h)];rfl));have a6:=hid (fun (h:hV o o.entries[j]=true)=>lw b8 (aH.trans h));generalize o.entries[j]=y at *
          by_cases t:0<=y/\y<=x
          case neg=>
           have z:=hid (W (decide_eq_false (by have:=P.out;omega)));have ab:=hid (fun M=>wi y 0 x false (lX t) M);clear t;go_wp2_with fail;refine (ab _).mono ?_;rintro e eW ⟨rfl,rfl⟩;go_wp2_with fail;go_ret;exact ⟨by rw [z.out];first | done | rfl,a8⟩
          have a2:=hid (a6 (decide_eq_true (by have:=P.out;omega)));have ab:=hid (fun M=>wi y 0 x true (lW t.1 t.2) M);clear t;go_wp2_with fail;refine (ab _).mono ?_;rintro e eW ⟨rfl,rfl⟩;go_wp2_with fail;go_roundw
          case rel=>exact ⟨j+1,by omega,by go_num,a2,by first | rfl | trivial⟩
          case measure=>simp [intOf];omega
        . obtain rfl : j=Ln o.entries:=by omega
          have bB:Hid (hA o=true):=by show _=_;rw [ao.out,iO.2 b8.out]
          have m:=hid (fun (h:km o=false)=>a9 (by rw [bB.out,h];rfl));have ba:=hid (fun (h:km o=true)=>(by unfold gd;rw [aX.out,aE.out,bB.out,h];rfl:gd o=0));clear av an aD aR b3 q5 q6 aV;have aF:=hid (j2 aN bb);have G:Hid (∀ n K X M,ew 63 #[em n,em K,em X] M fun e r=>e = .returned (.bool (j3 n K X))/\r=M):=Jr;have aV:=lt_of_heap aF;obtain ⟨av,an,aD,aR,b3,q5,q6,_⟩:=f6 aF;go_wp2_with fail;clear av an aD aR b3 q5 q6 aV;generalize aK:wr=V at *
          go_loopw [8] (fun i aZ=>∃ j:Nat,j<=Ln o.fixes/\i=em j/\(∀ k,k<j->kl o k=true)/\et V aZ) (fun i _=>Ln o.fixes - (intOf i).toNat)
          case atStart=>exact ⟨0,eY _,rfl,fun k N=>absurd N (jU k),Below.refl _ _⟩
          case round =>
           obtain ⟨j,ac,rfl,aO,F⟩:=hrel;have b8:=hid aO;have au:=hid F;have S:=hid (es a8 F);obtain ⟨av,an,aD,aR,b3,q5,q6,_⟩:=f6 (j2 aF F);have aV:=lt_of_heap (j2 aF F);clear aO F
           by_cases a0:j<Ln o.fixes
           . obtain ⟨bl,off4,rfl,hbl4,bJ,bk,bm,_,_,_⟩:=(bi.later au).fixes.gf j a0
             have aH:Hid (kl o j=(decide (lx o j<o.fixes[j].at_)&&(hV o o.fixes[j].at_&&mL o o.fixes[j]))):=by show _=_;unfold kl;rw [gb a0]
             have W:=hid (fun (h:kl o j=false)=>m (by unfold km;exact lu a0 h));have a6:=hid (fun (h:kl o j=true)=>lw b8 h)
             cases j with
             | zero =>
               rw [show ((0:Nat):Int)=0 from rfl];generalize ag:o.fixes[0]=f at *;obtain ⟨az,A,a⟩:=f;simp only [jq,kf] at bJ bk bm hbl4;simp only at aH;clear ag
               by_cases a3:0<=az/\az<=x
               case neg=>
                have z:=hid (W (by rw [aH.out,show hV o az=false from decide_eq_false (by have:=P.out;omega)];simp));have aT:j3 az 0 x=false:=lX a3;clear a3
                as_aux_lemma=>
                 go_wp2_with fail
                 go_quiet ((go_at_call 63;exact Calls.quiet_of_same (G _ _ _ _)))
                 go_wp2_with fail;go_ret;exact ⟨by rw [z.out];first | done | rfl,es S (jK (ey _ _) _)⟩
               have aT:j3 az 0 x=true:=lW a3.1 a3.2
               obtain ⟨k,N⟩:∃ k:Nat,az=k:=⟨az.toNat,by omega⟩
               have a4:k<Ln o.code:=by have:=P.out;omega
               have af:Hid (hV o az=true):=decide_eq_true (by have:=P.out;omega);clear a3;subst N
               have bG:Hid (kl o 0=mL o ⟨k,A,a⟩):=by show _=_;rw [aH.out,af.out,decide_eq_true (p:=lx o 0<(k:Int)) (by show (-1:Int)<k;omega)];rfl
               obtain ⟨b9,off3,rfl,hbl3,_,Y,_,_,_,_⟩:=(bi.later au).code.gi k a4;have J:=hid (B8 (o:=o) (fk:=A) (fm:=a) a4 (by omega));generalize o.code[k].a=aA at *
               by_cases d:1<=A/\A<=3
               case neg=>
                have z:=hid (W (bG.trans (mU.2 (fun h=>d (J.1 h).1))));have a1:j3 A 1 3=false:=lX d;clear d
                as_aux_lemma=>
                 go_wp2_with fail
                 go_quiet ((go_at_call 63;exact Calls.quiet_of_same (G _ _ _ _)))
                 go_wp2_with fail;go_ret;exact ⟨by rw [z.out];first | done | rfl,es S (jK (ey _ _) _)⟩
               have a1:j3 A 1 3=true:=lW d.1 d.2
               by_cases gZ:0<=a/\a<=Ln o.uses
               case neg=>
                have z:=hid (W (bG.trans (mU.2 (fun h=>gZ (J.1 h).2.1))));have ax:j3 a 0 (Ln o.uses:Int)=false:=lX gZ;clear d gZ
                as_aux_lemma=>
                 go_wp2_with fail
                 go_quiet ((go_at_call 63;exact Calls.quiet_of_same (G _ _ _ _)))
                 go_wp2_with fail;go_ret;exact ⟨by rw [z.out];first | done | rfl,es S (jK (ey _ _) _)⟩
               have ax:j3 a 0 (Ln o.uses:Int)=true:=lW gZ.1 gZ.2
               by_cases gu:0<=aA/\aA<=2048
               case neg=>
                have z:=hid (W (bG.trans (mU.2 (fun h=>gu (J.1 h).2.2.1))));have B:j3 aA 0 2048=false:=lX gu;clear d gZ gu
                as_aux_lemma=>
                 go_wp2_with fail
                 go_quiet ((go_at_call 63;exact Calls.quiet_of_same (G _ _ _ _)))
                 go_wp2_with fail;go_ret;exact ⟨by rw [z.out];first | done | rfl,es S (jK (ey _ _) _)⟩
               have B:j3 aA 0 2048=true:=lW gu.1 gu.2
               by_cases D:A=1
               . by_cases j6:a=0
                 . by_cases a5:aA<=Ln o.code
                   . have a2:=hid (a6 (bG.trans (J.2 ⟨d,gZ,gu,fun _=>⟨j6,a5⟩⟩)))
                     have aY:¬ (Ln o.code:Int)<aA:=by omega
                     subst D;subst j6;clear d gZ gu a5
                     as_aux_lemma=>
                      go_wp2_with fail
                      go_quiet ((go_at_call 63;exact Calls.quiet_of_same (G _ _ _ _)))
                      go_wp2_with fail;go_roundw
                      case rel=>exact ⟨0+1,by omega,by go_num,a2,es au (jK (ey _ _) _)⟩
                      case measure=>simp [intOf];omega
                   . have z:=hid (W (bG.trans (mU.2 (fun h=>a5 ((J.1 h).2.2.2 D).2))))
                     have aY:(Ln o.code:Int)<aA:=by omega
                     subst D;subst j6;clear d gZ gu a5
                     as_aux_lemma=>
                      go_wp2_with fail
                      go_quiet ((go_at_call 63;exact Calls.quiet_of_same (G _ _ _ _)))
                      go_wp2_with fail;go_ret;exact ⟨by rw [z.out];first | done | rfl,es S (jK (ey _ _) _)⟩
                 . have z:=hid (W (bG.trans (mU.2 (fun h=>j6 ((J.1 h).2.2.2 D).1))))
                   have a7:(a != 0)=true:=by simpa using j6
                   have b6:(a == 0)=false:=by simpa using j6
                   subst D;clear d gZ gu
                   as_aux_lemma=>
                    go_wp2_with fail
                    go_quiet ((go_at_call 63;exact Calls.quiet_of_same (G _ _ _ _)))
                    go_wp2_with fail;go_ret;exact ⟨by rw [z.out];first | done | rfl,es S (jK (ey _ _) _)⟩
               . have a2:=hid (a6 (bG.trans (J.2 ⟨d,gZ,gu,fun e=>absurd e D⟩)))
                 have bd:decide (A=1)=false:=decide_eq_false D
                 have bg:(A == 1)=false:=by simpa using D
                 clear d gZ gu D
                 as_aux_lemma=>
                  go_wp2_with fail
                  go_quiet ((go_at_call 63;exact Calls.quiet_of_same (G _ _ _ _)))
                  go_wp2_with fail;go_roundw
                  case rel=>exact ⟨0+1,by omega,by go_num,a2,es au (jK (ey _ _) _)⟩
                  case measure=>simp [intOf];omega
             | succ j =>
               obtain ⟨_,_,ah,_,bM,_,_,_,_,_⟩:=(bi.later au).fixes.gf j (by omega);cases ah
               have ai:Hid (lx o (j+1)=o.fixes[j].at_):=by show (match o.fixes[j]? with | some f=>f.at_ | none=>-1)=_;rw [gb (by omega)]
               generalize o.fixes[j+1]=f at *;generalize o.fixes[j]=g at *;obtain ⟨az,A,a⟩:=f;simp only at bJ bk bm aH
               by_cases a3:0<=az/\az<=x
               case neg=>
                have z:=hid (W (by rw [aH.out,show hV o az=false from decide_eq_false (by have:=P.out;omega)];simp));have aT:j3 az 0 x=false:=lX a3;clear a3
                as_aux_lemma=>
                 go_wp2_with fail
                 go_quiet ((go_at_call 63;exact Calls.quiet_of_same (G _ _ _ _)))
                 go_wp2_with fail;go_ret;exact ⟨by rw [z.out];first | done | rfl,es S (jK (ey _ _) _)⟩
               have aT:j3 az 0 x=true:=lW a3.1 a3.2
               obtain ⟨k,N⟩:∃ k:Nat,az=k:=⟨az.toNat,by omega⟩
               have a4:k<Ln o.code:=by have:=P.out;omega
               have af:Hid (hV o az=true):=decide_eq_true (by have:=P.out;omega);clear a3;subst N
               by_cases aS:g.at_<(k:Int)
               case neg=>
                have z:=hid (W (by rw [aH.out,ai.out,decide_eq_false aS];rfl))
                have bo:(k:Int)<=g.at_:=by omega
                clear aS
                as_aux_lemma=>
                 go_wp2_with fail
                 go_quiet ((go_at_call 63;exact Calls.quiet_of_same (G _ _ _ _)))
                 go_wp2_with fail;go_ret;exact ⟨by rw [z.out];first | done | rfl,es S (jK (ey _ _) _)⟩
               have bG:Hid (kl o (j+1)=mL o ⟨k,A,a⟩):=by show _=_;rw [aH.out,ai.out,af.out,decide_eq_true aS];rfl
               have b2:¬ ((k:Int)<=g.at_):=by omega
               have bq:decide ((k:Int)<=g.at_)=false:=decide_eq_false b2;obtain ⟨b9,off3,rfl,hbl3,_,Y,_,_,_,_⟩:=(bi.later au).code.gi k a4;have J:=hid (B8 (o:=o) (fk:=A) (fm:=a) a4 (by omega));generalize o.code[k].a=aA at *
               by_cases d:1<=A/\A<=3
               case neg=>
                have z:=hid (W (bG.trans (mU.2 (fun h=>d (J.1 h).1))));have a1:j3 A 1 3=false:=lX d;clear d
                as_aux_lemma=>
                 go_wp2_with fail
                 go_quiet ((go_at_call 63;exact Calls.quiet_of_same (G _ _ _ _)))
                 go_wp2_with fail;go_ret;exact ⟨by rw [z.out];first | done | rfl,es S (jK (ey _ _) _)⟩
               have a1:j3 A 1 3=true:=lW d.1 d.2
               by_cases gZ:0<=a/\a<=Ln o.uses
               case neg=>
                have z:=hid (W (bG.trans (mU.2 (fun h=>gZ (J.1 h).2.1))));have ax:j3 a 0 (Ln o.uses:Int)=false:=lX gZ;clear d gZ
                as_aux_lemma=>
                 go_wp2_with fail
                 go_quiet ((go_at_call 63;exact Calls.quiet_of_same (G _ _ _ _)))
                 go_wp2_with fail;go_ret;exact ⟨by rw [z.out];first | done | rfl,es S (jK (ey _ _) _)⟩
               have ax:j3 a 0 (Ln o.uses:Int)=true:=lW gZ.1 gZ.2
               by_cases gu:0<=aA/\aA<=2048
               case neg=>
                have z:=hid (W (bG.trans (mU.2 (fun h=>gu (J.1 h).2.2.1))));have B:j3 aA 0 2048=false:=lX gu;clear d gZ gu
                as_aux_lemma=>
                 go_wp2_with fail
                 go_quiet ((go_at_call 63;exact Calls.quiet_of_same (G _ _ _ _)))
                 go_wp2_with fail;go_ret;exact ⟨by rw [z.out];first | done | rfl,es S (jK (ey _ _) _)⟩
               have B:j3 aA 0 2048=true:=lW gu.1 gu.2
               by_cases D:A=1
               . by_cases j6:a=0
                 . by_cases a5:aA<=Ln o.code
                   . have a2:=hid (a6 (bG.trans (J.2 ⟨d,gZ,gu,fun _=>⟨j6,a5⟩⟩)))
                     have aY:¬ (Ln o.code:Int)<aA:=by omega
                     subst D;subst j6;clear d gZ gu a5
                     as_aux_lemma=>
                      go_wp2_with fail
                      go_quiet ((go_at_call 63;exact Calls.quiet_of_same (G _ _ _ _)))
                      go_wp2_with fail;go_roundw
                      case rel=>exact ⟨(j+1)+1,by omega,by go_num,a2,es au (jK (ey _ _) _)⟩
                      case measure=>simp [intOf];omega
                   . have z:=hid (W (bG.trans (mU.2 (fun h=>a5 ((J.1 h).2.2.2 D).2))))
                     have aY:(Ln o.code:Int)<aA:=by omega
                     subst D;subst j6;clear d gZ gu a5
                     as_aux_lemma=>
                      go_wp2_with fail
                      go_quiet ((go_at_call 63;exact Calls.quiet_of_same (G _ _ _ _)))
                      go_wp2_with fail;go_ret;exact ⟨by rw [z.out];first | done | rfl,es S (jK (ey _ _) _)⟩
                 . have z:=hid (W (bG.trans (mU.2 (fun h=>j6 ((J.1 h).2.2.2 D).1))))
                   have a7:(a != 0)=true:=by simpa using j6
                   have b6:(a == 0)=false:=by simpa using j6
                   subst D;clear d gZ gu
                   as_aux_lemma=>
                    go_wp2_with fail
                    go_quiet ((go_at_call 63;exact Calls.quiet_of_same (G _ _ _ _)))
                    go_wp2_with fail;go_ret;exact ⟨by rw [z.out];first | done | rfl,es S (jK (ey _ _) _)⟩
               . have a2:=hid (a6 (bG.trans (J.2 ⟨d,gZ,gu,fun e=>absurd e D⟩)))
                 have bd:decide (A=1)=false:=decide_eq_false D
                 have bg:(A == 1)=false:=by simpa using D
                 clear d gZ gu D
                 as_aux_lemma=>
                  go_wp2_with fail
                  go_quiet ((go_at_call 63;exact Calls.quiet_of_same (G _ _ _ _)))
                  go_wp2_with fail;go_roundw
                  case rel=>exact ⟨(j+1)+1,by omega,by go_num,a2,es au (jK (ey _ _) _)⟩
                  case measure=>simp [intOf];omega
           . obtain rfl:j=Ln o.fixes:=by omega
             have z:=hid (ba (by unfold km;exact iO.2 b8));go_wp2_with fail;go_ret;exact ⟨by rw [z.out];first | done | rfl,S⟩
end Go.Proofs.YtndkhgakfodldaaGreatDoor
