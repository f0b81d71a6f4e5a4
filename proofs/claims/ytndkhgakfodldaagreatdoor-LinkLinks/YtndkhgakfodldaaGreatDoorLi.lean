import Derived.Test.YtndkhgakfodldaaGreatDoorId
import Derived.Test.YtndkhgakfodldaaGreatDoorMxStp
import Derived.Test.YtndkhgakfodldaaGreatDoorLn
set_option maxRecDepth 100000
set_option maxHeartbeats 12800000
set_option linter.unusedSimpArgs false
set_option linter.unusedVariables false
open Go.Proofs.Tryz
open List renaming length → Ln
namespace Go.Proofs.YtndkhgakfodldaaGreatDoor
open Go.RowKit Go.Maps Go.Sort Go.WideMaps
variable {B b I:Nat} {a:OA} {c:List fM} {w r:World}
theorem vZ {l:List eO} (h:nh w a l):∃ K,jM w a l K:=by
 have Q:∀ i:Nat,∃ v:Value,∀ X:i<Ln l,∃ b C E T H bc aj b9 al b7,a=some (ep b C)/\b<w.heap.size/\w.cell? ⟨b,C+i*7,none⟩=some (.string l[i].name)/\w.cell? ⟨b,C+i*7+1,none⟩=some (.slice E (Ln l[i].uses) T)/\w.cell? ⟨b,C+i*7+2,none⟩=some (em l[i].data)/\w.cell? ⟨b,C+i*7+3,none⟩=some (.slice H (Ln l[i].code) bc)/\w.cell? ⟨b,C+i*7+4,none⟩=some (.slice aj (Ln l[i].fixes) b9)/\w.cell? ⟨b,C+i*7+5,none⟩=some (.slice al (Ln l[i].entries) b7)/\w.cell? ⟨b,C+i*7+6,none⟩=some (em l[i].main)/\jk w l[i] E H aj al/\Ln l[i].uses<=T/\v = .slice al (Ln l[i].entries) b7:=fun i=>by
  by_cases X:i<Ln l
  . obtain ⟨b,C,E,T,H,bc,aj,b9,al,b7,ab,aQ,a1⟩:=h.ob i X
    exact ⟨.slice al (Ln l[i].entries) b7,fun _=>⟨b,C,E,T,H,bc,aj,b9,al,b7,ab,aQ.lt,aQ.c0,aQ.c1,aQ.c2,aQ.c3,aQ.c4,aQ.c5,aQ.c6,aQ.ov,a1,rfl⟩⟩
  . exact ⟨.bool false,fun h=>absurd h X⟩
 obtain ⟨K,d⟩:=Classical.axiomOfChoice Q;exact ⟨K,h.1.bound,fun i X=>d i X⟩
def n8 (i:fM):Mx.Mc.Ins:=⟨i.op,i.a,i.b⟩
def mi:List fM:=match kK [pH,oO] with | .ok (c,_)=>c | .error _=>[]
theorem DY:kK [pH,oO] = .ok (mi,5):=by kernel_rfl
theorem DZ:jx [pH,oO]=0:=by kernel_rfl
theorem D0:kK [oO] = .error 9:=by kernel_rfl
theorem D1:mi[0]? = some ⟨13,22,0⟩:=by kernel_rfl
theorem D2:(mi[2]?).map fM.op=some 20:=by kernel_rfl
theorem D3:Ln mi<=2048/\3<=Ln mi:=⟨Nat.le_of_ble_eq_true (by kernel_rfl),Nat.le_of_ble_eq_true (by kernel_rfl)⟩
theorem D4:Mx.ansR (mi.map n8) 5 [1] 9 999=⟨0,[6,7],[6,0,6,0,0],6,(Mx.ansR (mi.map n8) 5 [1] 9 999).steps,0⟩:=by kernel_rfl
theorem D5:mi.all (fun g=>(decide (-1000000000<=g.a)&&decide (g.a<=1099511627775))&&(decide (-1000000000<=g.b)&&decide (g.b<=1099511627775)))=true:=by kernel_rfl
theorem nH {x:Obj} (h:w.heap[b]? = some x) (F:et w r):r.heap[b]? = some x:=(F.block b (lt_of_heap h)).trans h
theorem zH {l:List Int} (h:w.heap[b]? = some (.cells (l.map (Value.int .i64)).toArray 3)):io w (some (ep b 0)) l:=Or.inr ⟨b,0,rfl,lt_of_heap h,fun i X=>by
 rw [fU h,hv]
 simp [X]⟩
theorem D6 (h:w.ownsRow B 69 3 (.slice a (Ln c) I) (Ln c) (gj c)):Mx.ImgAt w a (c.map n8):=by
 by_cases U:Ln c=0
 . exact Or.inl (by rw [ii U];rfl)
 . obtain ⟨g,f,e,_,af⟩:=p3 h (by omega)
   obtain ⟨b,C,ab,a1⟩:=rZ h U
   injection e with aw _ _
   rw [aw] at ab
   injection ab with ab
   injection ab with F aa _
   refine Or.inr ⟨g,0,aw,af,fun i X=>?_⟩
   have j:i<Ln c:=by simpa using X
   obtain ⟨av,an,aD⟩:=a1 i j;subst F aa;simp only [wZ];exact ⟨av,an,aD⟩
theorem D7 {o:eO} {E:OA} {T:Nat} {H:OA} {y3:Nat} {aj:OA} {y4:Nat} {al:OA} {y5:Nat} (h:jk w o E H aj al) (a1:Ln o.uses<=T) :
 jM (w.alloc (mN o E T H y3 aj y4 al y5)) (some (ep w.heap.size 0)) [o] (fun _=>.slice al (Ln o.entries) y5):=by
 have F:=eT w (mN o E T H y3 aj y4 al y5);obtain ⟨bh,a9,a4,c3,am,aX,aR,_⟩:=f6 F;refine ⟨by simp,fun i X=>?_⟩
 obtain rfl:i=0:=by simpa using X
 exact ⟨w.heap.size,0,E,T,H,y3,aj,y4,al,y5,rfl,lt_of_heap F,bh,a9,a4,c3,am,aX,aR,h.later (ey _ _),a1,rfl⟩
structure zI (o1 o2:eO) (code:List fM) (steps:Int):Prop where
 lk:kK [o1,o2] = .ok (code,5)
 ck:jx [o1,o2]=0
 top:kK [o2] = .error 9
 c0:code[0]? = some ⟨13,22,0⟩
 c2:∃ x y,code[2]? = some ⟨20,x,y⟩
 few:Ln code<=2048
 run:Mx.ansR (code.map n8) 5 [1] 9 999=⟨0,[6,7],[6,0,6,0,0],6,steps,0⟩
 fit:∀ i ∈ code.map n8,Mx.InsFit i
theorem D8 (I K:eO) (f:List fM) (c:Int) (u:zI I K f c)
 (bp:∀ w,ew 85 #[] w fun e r=>∃ a,e = .returned (.slice (some a) 2 2)/\nh r (some a) [I,K]/\et w r) (w:World) :
 ew 42 #[] w fun e r=>e = .returned (.bool true)/\et w r:=by
 have P:=hid u;have A:=hid bp;clear u bp;go_enter func42,ntmps42;go_wp2_with fail;refine (A _).mono ?_;rintro e eq ⟨bF,rfl,hobs,ai⟩;have B:=hid ai;obtain ⟨aE,hos1⟩:=vZ hobs;have b8:=hid (vL [I,K] aE (some bF) 2 eq hos1:ew 40 #[.slice (some bF) 2 2] eq _);clear hobs hos1 ai;go_wp2_with fail;refine b8.mono ?_;rintro e w2 ⟨a3,aB⟩;rw [P.out.lk] at a3;obtain ⟨v,rfl,ba⟩:∃ v,e = .returned (.tuple #[.agg #[v,em 5],em 0])/\w2.ownsRow eq.heap.size 69 3 v (Ln f) (gj f):=a3;obtain ⟨aA,bP,rfl, -, -⟩:=im ba;have a4:=hid (D6 ba);have aM:=hid (es B aB)
 have bq:0<Ln f:=by have:=P.c0;exact (ss.1 this).1
 have y:=hid (eT w2 (.cells #[.slice aA (Ln f) bP,em 5] 81));have ax:=hid (es aM (ey w2 (.cells #[.slice aA (Ln f) bP,em 5] 81)))
 have aT:(f.map n8).length=Ln f:=by simp
 clear ba aB b8;go_wp2_with fail;refine (A _).mono ?_;rintro e eC ⟨aV,rfl,hobs,a2⟩;have aP:=hid (es ax a2);have Z:=hid (nH y a2);have a9:=hid (a4.later (es (ey w2 _) a2));obtain ⟨b,C,E,T,H,bc,aj,b9,al,b7,bG,aQ,s⟩:=hobs.ob 1 (by simp);have bG:aV=(ep b C):=fe bG;subst bG;have ap:=aQ.lt;obtain ⟨-,D,aZ,b6,bk,bm,a7,aJ,h⟩:=aQ;have s:Ln K.uses<=T:=s;have h:jk eC K E H aj al:=h
 replace D:eC.cell? ⟨b,C+7,none⟩=some (.string K.name):=by simpa using D
 replace aZ:eC.cell? ⟨b,C+7+1,none⟩=some (.slice E (Ln K.uses) T):=by simpa using aZ
 replace b6:eC.cell? ⟨b,C+7+2,none⟩=some (em K.data):=by simpa using b6
 replace bk:eC.cell? ⟨b,C+7+3,none⟩=some (.slice H (Ln K.code) bc):=by simpa using bk
 replace bm:eC.cell? ⟨b,C+7+4,none⟩=some (.slice aj (Ln K.fixes) b9):=by simpa using bm
 replace a7:eC.cell? ⟨b,C+7+5,none⟩=some (.slice al (Ln K.entries) b7):=by simpa using a7
 replace aJ:eC.cell? ⟨b,C+7+6,none⟩=some (em K.main):=by simpa using aJ
 have b8:=hid (vL [K] _ (some (ep eC.heap.size 0)) 1 _ (D7 (y3:=bc) (y4:=b9) (y5:=b7) h s):ew 40 #[.slice (some (ep eC.heap.size 0)) 1 1] (eC.alloc (mN K E T H bc aj b9 al b7)) _);clear hobs a2 h y a4;go_wp2_with fail;refine b8.mono ?_;rintro e eA ⟨a3,aW⟩;rw [P.out.top] at a3;obtain ⟨rfl, -⟩:e = .returned (.tuple #[.agg #[eu,em 0],em 9])/\(9:Int)≠0:=a3;have b5:=es (es (ey eC _) aW) (ey eA (.cells #[eu,em 0] 81));have bb:=hid (es aP b5);have aa:=hid (nH Z b5);have g:=hid (a9.later b5)
 obtain ⟨d,hW5⟩:∃ d,d=eA.alloc (.cells #[eu,em 0] 81):=⟨_,rfl⟩
 rw [← hW5] at bb aa g;have a0:=hid hW5
 have W:=hid (Mx.Run_any aA (some (ep d.heap.size 0)) bP 1 (f.map n8) 5 [1] 9 999 (d.alloc (.cells #[em 1] 3)) (g.later (ey _ _)) (by rw [aT];have:=P.few;omega) P.fit
  (Or.inr ⟨d.heap.size,0,rfl,by simp,fun i X=>by obtain rfl:i=0:=(by simpa using X);rw [fU (eT d (.cells #[em 1] 3))];rfl⟩) (by decide) (by decide) (by decide))
 rw [aT,P.out.run] at W;obtain ⟨av,an,qf⟩:=jy aa;have aF:=lt_of_heap aa;clear aW b5 b8 D aZ b6 bk bm a7 aJ ap s Z a9 hW5;go_upto_region 3 with fail;rw [← a0.out];clear a0;go_wp2_with fail;refine W.mono ?_;rintro e eZ ⟨p,G,Y,m,rfl,U,a8,x, -, -, -⟩;have U:io eZ p [6,7]:=U.at;have a8:io eZ Y [6,0,6,0,0]:=a8.at;have O:=es (es (ey d _) x) (ey eZ (.cells #[em 0,.slice p 2 G,.slice Y 5 m,em 6] 51));have bD:=hid (es bb O);have ab:=hid (nH aa O);have a5:=hid (g.later O);have ad:=hid (eT eZ (.cells #[em 0,.slice p 2 G,.slice Y 5 m,em 6] 51));have t:=hid (And.intro (U.later (ey eZ (.cells #[em 0,.slice p 2 G,.slice Y 5 m,em 6] 51))) (a8.later (ey eZ (.cells #[em 0,.slice p 2 G,.slice Y 5 m,em 6] 51))));clear U a8 x O W av an qf aa g
 go_wp2_with fail;refine (A _).mono ?_;rintro e aY ⟨bC,rfl,hobs,n⟩;obtain ⟨ay,hos8⟩:=vZ hobs;have af:=hid (es bD n);have am:=hid (nH ab n);have ah:=hid (a5.later n);have au:=hid (nH ad n);have l:=hid (And.intro (t.1.later n) (t.2.later n));have ao:=hid (vJ [I,K] ay (some bC) 2 aY hos8:ew 43 #[.slice (some bC) 2 2] aY _);rw [P.out.ck] at ao;clear hobs hos8 n ab a5 ad t;go_wp2_with fail;refine ao.mono ?_;rintro e bd ⟨rfl,bK⟩;have bv:=hid (es af bK);have N:=hid (nH am bK);have ar:=hid (ah.later bK);have a1:=hid (nH au bK);have ac:=hid (And.intro (l.1.later bK) (l.2.later bK));clear bK ao am ah au l;obtain ⟨av,an,qf⟩:=jy N;obtain ⟨a6,be,fE,gq,j⟩:=yO a1;have aH:=lt_of_heap N
 have aG:=lt_of_heap a1;obtain ⟨q,o,V⟩:=P.c2;have Q:2<Ln f:=(ss.1 V).1;have aq:f[0]=⟨13,22,0⟩:=(ss.1 P.c0).2;have J:f[2]=⟨20,q,o⟩:=(ss.1 V).2
 rcases ar.out with aD | ⟨bj,ag,rfl,b0,R⟩
 . have:Ln f=0:=by rw [← aT,aD];rfl
   omega
 have ae:=R 0 (by rw [aT];omega);have z:=R 2 (by rw [aT];omega);simp only [wZ,aq,J,n8] at ae z;obtain ⟨k,M,S⟩:=ae;obtain ⟨F, -, -⟩:=z
 replace k:bd.cell? (ep bj ag)=some (em 13):=by simpa using k
 replace M:bd.cell? ⟨bj,ag+1,none⟩=some (em 22):=by simpa using M
 replace S:bd.cell? ⟨bj,ag+2,none⟩=some (em 0):=by simpa using S
 replace F:bd.cell? ⟨bj,ag+6,none⟩=some (em 20):=by simpa using F
 have aI:((0:Nat):Int)<(Ln f:Int):=by omega
 have aK:((2:Nat):Int)<(Ln f:Int):=by omega
 have L:=hid (es (ey bd (.cells #[em 6,em 7] 3)) (ey _ (.cells #[em 6,em 0,em 6,em 0,em 0] 3)));have bX:io ((bd.alloc (.cells #[em 6,em 7] 3)).alloc (.cells #[em 6,em 0,em 6,em 0,em 0] 3)) (some (ep bd.heap.size 0)) [6,7]:=(zH (l:=[6,7]) (eT bd (.cells #[em 6,em 7] 3))).later (ey _ _)
 have bY:io ((bd.alloc (.cells #[em 6,em 7] 3)).alloc (.cells #[em 6,em 0,em 6,em 0,em 0] 3)) (some ⟨bd.heap.size+1,0,none⟩) [6,0,6,0,0]:=zH (l:=[6,0,6,0,0]) (by
  have:=eT (bd.alloc (.cells #[em 6,em 7] 3)) (.cells #[em 6,em 0,em 6,em 0,em 0] 3);rw [qs] at this
  exact this)
 have az:=hid (CX 0 6 p (some (ep bd.heap.size 0)) Y (some ⟨bd.heap.size+1,0,none⟩) G 2 m 5 [6,7] [6,0,6,0,0] _ (ac.1.later L) bX (ac.2.later L) bY (by decide) (by decide));clear bX bY R V aq J N ar a1 ac;go_wp2_with fail;refine az.mono ?_;rintro e aw ⟨rfl,hb10⟩;have ak:=hid (es bv (es L hb10));clear hb10 a6 be fE gq j av an qf k M S F;go_wp2_with fail
 go_returns
 exact ⟨rfl,ak⟩
theorem D9:zI pH oO mi (Mx.ansR (mi.map n8) 5 [1] 9 999).steps where
 lk:=DY
 ck:=DZ
 top:=D0
 c0:=D1
 c2 :=by
  have h:=D2
  cases e:mi[2]? with
  | none=>rw [e] at h;cases h
  | some i=>
    rw [e] at h;obtain ⟨p,q,o⟩:=i;have:p=20:=fe h;exact ⟨q,o,by rw [this]⟩
 few:=D3.1
 run:=D4
 fit:=fun i X=>by
  obtain ⟨g,af,rfl⟩:=po.1 X;have:=hJ.1 D5 g af;simp only [fs,decide_eq_true_eq] at this;exact ⟨(⟨by omega,by omega⟩:Mx.fit64 g.a),(⟨by omega,by omega⟩:Mx.fit64 g.b)⟩
theorem Ea (w:World):ew 42 #[] w fun e r=>e = .returned (.bool true)/\et w r:=
 D8 pH oO mi _ D9 Jl w
structure lb (w:World) (a:OA) (l:List fM):Prop where
 bound:Ln l<=1000000
 get:∀ k (h:k<Ln l),∃ b off,a=some (ep b off)/\b<w.heap.size/\w.cell? ⟨b,off+k*3,none⟩=some (em l[k].op)/\w.cell? ⟨b,off+k*3+1,none⟩=some (em l[k].a)/\w.cell? ⟨b,off+k*3+2,none⟩=some (em l[k].b)
theorem lb.later {l:List fM} (h:lb w a l) (F:et w r):lb r a l:=⟨h.bound,fun k N=>by
 obtain ⟨b,C,ab,a2,bh,a9,a4⟩:=h.get k N
 exact ⟨b,C,ab,gl a2 F.size,(F.cell (p:=⟨b,C+k*3,none⟩) a2).trans bh,(F.cell (p:=⟨b,C+k*3+1,none⟩) a2).trans a9,(F.cell (p:=⟨b,C+k*3+2,none⟩) a2).trans a4⟩⟩
theorem lb.of_own (h:w.ownsRow B 69 3 (.slice a (Ln c) I) (Ln c) (gj c)) (F:Ln c<=1000000):lb w a c:=⟨F,fun k N=>by
 obtain ⟨g,f,e,_,af⟩:=p3 h (by omega);obtain ⟨b,C,ab,a1⟩:=rZ h (by omega)
 injection e with aw _ _
 obtain ⟨bh,a9,a4⟩:=a1 k N;have aE:=ab.symm.trans aw
 injection aE with aE
 injection aE with b4 _ _
 exact ⟨b,C,ab,by rw [b4];exact af,bh,a9,a4⟩⟩
theorem Eb (a b:OA) (a9 a4:Nat) (l:List fM) (w:World) (ab:lb w a l) (F:lb w b l) :
 ew 97 #[.slice a (Ln l) a9,.slice b (Ln l) a4] w fun e r=>e = .returned (.bool true)/\∃ m,r=w.drewN m:=by
 have bC:=ab.bound;have ar:=hid ab;have ad:=hid F;clear ab F;go_enter func97,ntmps97;go_wp2_with fail
 go_loopw [5] (fun i wr=>∃ k m:Nat,k<=Ln l/\i=em k/\wr=w.drewN m) (fun i _=>Ln l - (intOf i).toNat)
 case atStart=>exact ⟨0,0,eY _,rfl,rfl⟩
 case round=>
  obtain ⟨k,m,N,rfl,rfl⟩:=hrel
  by_cases a0:k<Ln l
  . obtain ⟨b7,I,rfl,aI,a6,be,fE⟩:=(ar.later (k7 w m)).get k a0
    obtain ⟨V,K,rfl,Q,av,an,aD⟩:=(ad.later (k7 w m)).get k a0;generalize l[k]=lk at *;generalize L:w.drewN m=M at *;have aO:=hid L;clear L;go_wp2_with fail
    go_quiet ((fail))
    go_wp2_with fail;go_roundw
    case rel=>exact ⟨k+1,m+nq,by omega,by go_num,by rw [← aO.out,vP]⟩
    case measure=>simp [intOf];omega
  . go_wp2_with fail
    go_ret;exact ⟨rfl,m,rfl⟩
theorem Ec (a b:OA) (a9 a4:Nat) (l:List fM) (d:Int) (w:World) (ab:lb w a l) (F:lb w b l) :
 ew 45 #[.agg #[.slice a (Ln l) a9,em d],.agg #[.slice b (Ln l) a4,em d]] w fun e r=>e = .returned (.bool true)/\et w r:=by
 obtain ⟨M,L⟩:∃ M,M=(w.alloc (.cells #[.slice a (Ln l) a9,em d] 81)).alloc (.cells #[.slice b (Ln l) a4,em d] 81):=⟨_,rfl⟩
 have S:et w M:=by rw [L];exact gc _ _ _
 have ao:=hid (Eb a b a9 a4 l M (ab.later S) (F.later S));have ad:=hid S;have aO:=hid L;clear ab F S L;go_enter func45,ntmps45;go_wp2_with fail;rw [← aO.out];refine ao.mono ?_;rintro e r ⟨rfl,m,rfl⟩;have aM:=hid (es ad (k7 M m));go_wp2_with fail;go_ret;exact ⟨rfl,aM⟩
def nI (O:Except Int (List fM × Int)):List fM × Int × Int:=match O with | .error c=>([],0,c) | .ok (c,o)=>(c,o,0)
theorem Ed (l:List eO):(nI (kK l)).1.length<=1000000:=by
 unfold kK;split
 . simp [nI]
 . split
   . simp [nI]
   . simp only [nI];omega
theorem Ee {K:Nat} {O:Except Int (List fM × Int)} {e:Ending} (h:tw K O e w) (a2:(nI O).1.length<=1000000):∃ a I,e = .returned (.tuple #[.agg #[.slice a (nI O).1.length I,em (nI O).2.1],em (nI O).2.2])/\lb w a (nI O).1:=by
 cases O with
 | error c=>exact ⟨none,0,h.1,⟨a2,fun k N=>absurd N (jU _)⟩⟩
 | ok y=>
   obtain ⟨c,o⟩:=y;obtain ⟨v,ah,aa⟩:=h;obtain ⟨a,I,rfl, -, -⟩:=im aa;exact ⟨a,I,ah,lb.of_own aa a2⟩
theorem Ef (p:∀ w,ew 42 #[] w fun e r=>e = .returned (.bool true)/\et w r) (cD:v1) (l:List eO) (a:OA) (I:Nat) (w:World) (aQ:nh w a l) (ay:Ln l<=I) :
 ew 12 #[.slice a (Ln l) I] w fun e r=>e = .returned (.bool true)/\et w r:=by
 have bC:=aQ.1.bound;obtain ⟨K,hos⟩:=vZ aQ
 obtain ⟨f,o,c,aS⟩:∃ f o c,nI (kK l)=(f,o,c):=⟨_,_,_,rfl⟩
 have aT:=Ed l
 have b:∀ {M:World} {e:Ending} {r:World},tw M.heap.size (kK l) e r->∃ Y a9,e = .returned (.tuple #[.agg #[.slice Y (Ln f) a9,em o],em c])/\lb r Y f:=fun h=>by
  obtain ⟨Y,a9,aw,G⟩:=Ee h aT;rw [aS] at aw G;exact ⟨Y,a9,aw,G⟩
 have ao:=hid ((vL l K a I w hos).mono (fun e r h=>(⟨b h.1,h.2⟩:(∃ Y a9,e = .returned (.tuple #[.agg #[.slice Y (Ln f) a9,em o],em c])/\lb r Y f)/\et w r)));have b8:=hid (fun M (L:et w M)=>(ED cD l K a I M (hos.later L) ay).mono (fun e r h=>(⟨b h.1,h.2⟩:(∃ Y a9,e = .returned (.tuple #[.agg #[.slice Y (Ln f) a9,em o],em c])/\lb r Y f)/\et M r)));have a6:=hid (fun M (L:et w M)=>vJ l K a I M (hos.later L));have n:=hid (fun M (L:et w M)=>zJ cD l K a I M (hos.later L) ay);have aJ:=hid p;clear b aS aT aQ hos p cD;generalize jx l=O at *;go_enter func12,ntmps12;go_wp2_with fail;refine ao.mono ?_;rintro e eq ⟨⟨Y,a9,rfl,T⟩,ai⟩;have q:=hid T
 obtain ⟨k,hW1⟩:∃ M,M=eq.alloc (.cells #[.slice Y (Ln f) a9,em o] 81):=⟨_,rfl⟩
 have ac:et eq k:=by rw [hW1];exact ey _ _
 have g:=hid (show k.heap[eq.heap.size]? = some (.cells #[.slice Y (Ln f) a9,em o] 81) by rw [hW1];exact eT _ _);have v:=hid hW1;have B:=hid (es ai ac);have N:=hid ac;clear ao T ai hW1 ac;go_upto_region 2 with fail;rw [← v.out];clear v;go_wp2_with fail;refine (b8 _ B).mono ?_;rintro e w2 ⟨⟨a5,a4,rfl,E⟩,aB⟩;have i:=hid E
 obtain ⟨S,hW2⟩:∃ M,M=w2.alloc (.cells #[.slice a5 (Ln f) a4,em o] 81):=⟨_,rfl⟩
 have V:et w2 S:=by rw [hW2];exact ey _ _
 have y:=hid (show S.heap[w2.heap.size]? = some (.cells #[.slice a5 (Ln f) a4,em o] 81) by rw [hW2];exact eT _ _);have j:=hid hW2;have aM:=hid (es B (es aB V));have cU:=hid (es aB V);have bG:=hid V;clear b8 E aB hW2 V;go_upto_region 3 with fail;rw [← j.out];clear j;go_wp2_with fail;refine (aJ _).mono ?_;rintro e eC ⟨rfl,a2⟩;have aP:=hid a2;clear a2;go_wp2_with fail;refine (a6 _ (es aM aP)).mono ?_;rintro e eA ⟨rfl,aW⟩;have b1:=hid (es aP aW);clear aW;go_wp2_with fail;refine (n _ (es aM b1)).mono ?_;rintro e eJ ⟨rfl,b5⟩;have bb:=hid (es b1 b5);have d:=hid (nH (nH g cU) (es b1 b5));have m:=hid (nH y (es b1 b5));obtain ⟨bg,b2, -⟩:=jy d;obtain ⟨b3,D, -⟩:=jy m
 have aI:=lt_of_heap d;have Q:=lt_of_heap m;have az:=hid (Ec Y a5 a9 a4 f o eJ (q.later (es N (es cU bb))) (i.later (es bG bb)));have ah:=hid (es aM bb);clear b5 b1 aP a6 n aJ g y d m q i N cU bG B;go_wp2_with fail;refine az.mono ?_;rintro e eZ ⟨rfl,x⟩;have bO:=hid (es ah x);clear x;go_wp2_with fail;go_ret;exact ⟨rfl,bO⟩
end Go.Proofs.YtndkhgakfodldaaGreatDoor
