import Derived.Test.YtndkhgakfodldaaGreatDoorUi
import Derived.Lib.AppendZeros
set_option maxRecDepth 100000
set_option maxHeartbeats 8000000
set_option linter.unusedSimpArgs false
set_option linter.unusedVariables false
open Go.Proofs.Tryz
open List renaming length → Ln
namespace Go.Proofs.YtndkhgakfodldaaGreatDoor
open Go.RowKit Go.Maps Go.WideMaps
variable {A:Nat->Prop} {B R b j n:Nat} {K:Kn} {L:Lc} {a:OA} {P ps:List gO} {c:Int} {l:List It} {m:fh} {v:Value} {w r:World}
def strV (l:List ByteArray):List Value:=l.map Value.string
theorem Iv (a b:List ByteArray):strV (a++b)=strV a++strV b:=mq ..
theorem BI (l:List ByteArray):(strV l).length=Ln l:=qu ..
theorem Iw (l:List ByteArray):∀ u ∈ strV l,u.oneCell'=true:=fun u aI=>by
 obtain ⟨s,_,rfl⟩:=po.1 aI
 rfl
theorem Ix {P:Program} (Y:Nat) (t d e:TypeId) (i:TypeInfo) (size c:Nat) (aj:P.underlying t=some (.slice e)) (X:P.info? e=some i)
 (v:Value) (n:Nat) (ae:List Value) (aW:w.ownsRow Y e size v n ae) :
 (Builtin.append_ #[t,t] d #[v,.slice none 0 c]).run P w = .ok v w:=by
 rcases aW.2 with ⟨rfl,rfl⟩ | ⟨g,I,o,rfl,_,_,hnc,_⟩
 . simp [Builtin.append_,run_underlying aj,Go.sizeOf,typeInfo,X,Builtin.lenOf,Builtin.firstCells]
 . simp [Builtin.append_,run_underlying aj,Go.sizeOf,typeInfo,X,Builtin.lenOf,Builtin.firstCells,hnc,storeCells]
theorem sM (Y:Nat) (d:TypeId) (v:Value) (n:Nat) (ae:List Value) (aW:w.ownsRow Y 9 1 v n ae) (us:List ByteArray) (b:OA) (c:Nat) (g:Fx.zez w b us) (aT:n+Ln us<=10000) (p:Y<=w.heap.size) :
 ∃ l r,(Builtin.append_ #[22,22] d #[v,.slice b (Ln us) c]).run prog w = .ok l r/\r.ownsRow Y 9 1 l (n+Ln us) (ae++strV us)/\w.grownBy r v.ownBlock:=by
 obtain ⟨bx,X,al,b0,bl⟩:=info_parts Tryz.infoP9
 have go:∀ y:Addr,b=some y->(∀ j u,(strV us)[j]? = some u->w.cell? (y.add j)=some u)->∃ l r,(Builtin.append_ #[22,22] d #[v,.slice b (Ln us) c]).run prog w = .ok l r/\r.ownsRow Y 9 1 l (n+Ln us) (ae++strV us)/\w.grownBy r v.ownBlock:=by
  rintro y rfl U;obtain ⟨l,r,G,J,S,_⟩:=run_append_own (P:=prog) (w:=w) Y 22 d 9 bx _ 1 16 Tryz.underlying22 X al b0 bl rfl (by decide) v n ae aW y (Ln us) c (strV us) (by rw [BI,Nat.mul_one]) U (Iw us) (by unfold maxLen;omega) (by omega) p;exact ⟨l,r,G,J,S⟩
 rcases g with rfl | ⟨b7,C,rfl,ai,h⟩
 . cases b with
   | none=>exact ⟨v,w,Ix Y _ d _ bx 1 c Tryz.underlying22 X v n ae aW,by simpa [strV] using aW,⟨rfl,rfl,rfl,eD _,fun _ _ _=>rfl⟩⟩
   | some y=>exact go y rfl (fun j u ac=>by simp [strV] at ac)
 . refine go _ rfl (fun j u ac=>?_)
   have a:j<Ln us:=by
    rcases iS j (Ln us) with q | q
    . exact q
    . rw [pm (by rw [BI];exact q)] at ac;cases ac
   have e:((ep b7 C):Addr).add j=⟨b7,C+j,none⟩:=by unfold Addr.add;split<;>simp_all
   rw [e,h j a];simp [strV,a] at ac;rw [ac]
theorem Iy (n:Nat) (w:World) (U:n<=10000) :
 ew 204 #[eu,em n] w fun e r=>∃ v,e = .returned v/\r.ownsRow w.heap.size 9 1 v 0 []/\et w r:=by
 obtain ⟨bx,X,al,b0,bl⟩:=info_parts Tryz.infoP9
 have aq:IntKind.i64.wrap (n:Int)=n:=by simp only [IntKind.wrap,IntKind.bits,IntKind.signed];simp;omega
 by_cases a3:n=0
 . subst a3
   go_enter func204,ntmps204;go_wp2_with fail;go_ret;exact ⟨_,rfl,ko _ _ _ _,Below.refl _ _⟩
 . have W:=fun d=>Lib.run_append_nil_zeros (P:=prog) w 22 3 d 9 bx _ .i64 .i64 Tryz.underlying22 Tryz.underlying3 X al n (by omega) (by omega) (by omega) (by rw [bl];omega)
   have L:=grownCap_ge w n 0 9
   have cg:Hid ((w.drew.alloc (.cells (Builtin.zeroCells (Value.string ⟨#[]⟩).cells n++Builtin.zeroCells (Value.string ⟨#[]⟩).cells (a w n 0 9 - n)) 9)).ownsRow w.heap.size 9 1 (.slice (some (ep w.heap.size 0)) 0 (a w n 0 9)) 0 []):=by
    refine ⟨rfl,Or.inr ⟨w.heap.size,_,_,rfl,eD _,heap_alloc_new w.drew _,eY _,grownCap_le_maxLen w n 0 _ (by unfold maxLen;omega),?_,by simp⟩⟩;rw [Array.size_append,size_zeroCells,size_zeroCells];show n*1+(a w n 0 9 - n)*1=_;omega
   have a8:Hid (et w (w.drew.alloc (.cells (Builtin.zeroCells (Value.string ⟨#[]⟩).cells n++Builtin.zeroCells (Value.string ⟨#[]⟩).cells (a w n 0 9 - n)) 9))):=((Below.refl w.heap.size w).drew).alloc (eD _) _
   have i:(0:Int)<n:=by omega
   generalize (w.drew.alloc (.cells (Builtin.zeroCells (Value.string ⟨#[]⟩).cells n++Builtin.zeroCells (Value.string ⟨#[]⟩).cells (a w n 0 9 - n)) 9))=w2 at *;generalize a w n 0 9=bo at *
   have s:(n:Int)<=bo:=by omega
   go_enter func204,ntmps204
   go_wp2_with (at_builtin;refine Lib.wpList_append_run _ rfl (.tmp 20) (.tmp 21) 22 3 rfl _ _ rfl rfl _ _ (W _) ?_)
   go_ret;exact ⟨_,rfl,cg,a8⟩
theorem Iz (x y:List ByteArray) (Y:OA) (a9:Nat) (a5:OA) (a4 b:Nat) (w:World) (F:b<w.heap.size) (a3:w.cell? (ep b 0)=some (.slice Y (Ln x) a9)) (G:w.cell? (ep b 1)=some (.slice a5 (Ln y) a4))
 (Q:Fx.zez w Y x) (z:Fx.zez w a5 y) (P:Ln x<=1000) (b4:Ln y<=1000) :
 ew 161 #[.slice (some (ep b 0)) 2 2] w fun e r=>∃ v,e = .returned v/\r.ownsRow w.heap.size 9 1 v (Ln x+Ln y) (strV (x++y))/\et w r:=by
 have aN:=hid Q;have ab:=hid z;have c:=hid a3;have aP:=hid G;clear Q z
 have b8:IntKind.i64.wrap (Ln x:Int)=Ln x:=by simp only [IntKind.wrap,IntKind.bits,IntKind.signed];simp;omega
 have ae:IntKind.i64.wrap ((Ln x:Int)+(Ln y:Int))=((Ln x+Ln y:Nat):Int):=by simp only [IntKind.wrap,IntKind.bits,IntKind.signed];simp;omega
 have T:(0:Int)<=Ln x:=by omega
 have E:(0:Int)<=((Ln x+Ln y:Nat):Int):=by omega
 have aE:=hid (Iy (Ln x+Ln y) w (by omega));go_enter func161,ntmps161;go_wp2_with fail
 go_loopw [3,5,11] (fun s _ i wr=>∃ j:Nat,j<=2/\i=em j/\s=em (if j=0 then 0 else if j=1 then (Ln x:Int) else ((Ln x+Ln y:Nat):Int))/\w=wr) (fun _ _ i _=>2 - (intOf i).toNat)
 case atStart=>exact ⟨0,by omega,rfl,rfl,rfl⟩
 case round=>
  obtain ⟨j,ac,rfl,rfl,rfl⟩:=hrel
  obtain rfl | rfl | rfl:j=0\/j=1\/j=2:=by omega
  . go_wp2_with fail
    go_roundw
    case rel=>exact ⟨1,by omega,rfl,rfl,trivial⟩
    case measure=>simp [intOf]
  . go_wp2_with fail
    go_roundw
    case rel=>exact ⟨2,by omega,rfl,rfl,trivial⟩
    case measure=>simp [intOf]
  . go_wp2_with fail
    refine aE.mono ?_;rintro e eq ⟨aK,rfl,m,ai⟩;have aq:=hid m;have B:=hid ai;have b0:=ai.size;clear m ai aE a3 G;go_wp2_with fail
    go_loopw [6,8,27] (fun v _ i wr=>∃ j:Nat,j<=2/\i=em j/\wr.ownsRow w.heap.size 9 1 v (if j=0 then 0 else if j=1 then Ln x else Ln x+Ln y) (if j=0 then [] else if j=1 then strV x else strV (x++y))/\et w wr) (fun _ _ i _=>2 - (intOf i).toNat)
    case atStart=>exact ⟨0,by omega,rfl,aq,B⟩
    case round=>
     clear aq B b0;obtain ⟨j,ac,rfl,aa,o⟩:=hrel;have ad:=hid o;have bN:=o.size;have aJ:b<wr.heap.size:=gl F bN;have ag:=(o.cell (p:=(ep b 0)) F).trans c;have ak:=(o.cell (p:=(ep b 1)) F).trans aP;clear o
     obtain rfl | rfl | rfl:j=0\/j=1\/j=2:=by omega
     . have g:wr.ownsRow w.heap.size 9 1 u6 0 []:=aa
       obtain ⟨l,r,W,J,S⟩:=sM w.heap.size 22 u6 0 [] g x Y a9 (aN.later ad) (by omega) bN;have d:Hid (r.ownsRow w.heap.size 9 1 l (Ln x) (strV x)):=hid (by simpa using J);have aM:=hid (ad.grown S bN (fun k N=>(g.lt k N).1));clear aa g J S
       go_wp2_with (at_builtin;refine Lib.wpList_append_run _ rfl (.tmp 31) (.tmp 32) 22 22 rfl _ _ rfl rfl _ _ W ?_)
       go_roundw
       case rel=>exact ⟨1,by omega,rfl,d,aM⟩
       case measure=>simp [intOf]
     . have g:wr.ownsRow w.heap.size 9 1 u6 (Ln x) (strV x):=aa
       obtain ⟨l,r,W,J,S⟩:=sM w.heap.size 22 u6 (Ln x) (strV x) g y a5 a4 (ab.later ad) (by omega) bN
       have d:Hid (r.ownsRow w.heap.size 9 1 l (Ln x+Ln y) (strV (x++y))):=by rw [Iv];exact J
       have aM:=hid (ad.grown S bN (fun k N=>(g.lt k N).1));clear aa g J S
       go_wp2_with (at_builtin;refine Lib.wpList_append_run _ rfl (.tmp 31) (.tmp 32) 22 22 rfl _ _ rfl rfl _ _ W ?_)
       go_roundw
       case rel=>exact ⟨2,by omega,rfl,d,aM⟩
       case measure=>simp [intOf]
     . have d:Hid (wr.ownsRow w.heap.size 9 1 u6 (Ln x+Ln y) (strV (x++y))):=aa
       clear aa;go_wp2_with fail;go_ret;exact ⟨_,rfl,d,ad⟩
theorem sN {l:List ByteArray} (h:w.ownsRow B 9 1 v (Ln l) (strV l)):∃ a I,v = .slice a (Ln l) I/\Fx.zez w a l:=by
 rcases h.2 with ⟨a7,a3⟩ | ⟨g,I,o,a7,ab,af,_⟩
 . have a2:l=[]:=ii a3
   exact ⟨none,0,by rw [a7,a2];rfl,Or.inl a2⟩
 . refine ⟨_,I,a7,Or.inr ⟨g,0,rfl,lt_of_heap af,fun i X=>?_⟩⟩
   have:=h.cells (g:=g) (by rw [a7];rfl) i (.string l[i]) (by simp [strV,X]);rw [show ((ep g 0):Addr).add i=(ep g i) from by unfold Addr.add;split<;>simp_all] at this;rw [hv];exact this
theorem uG:Keyed prog 9:=string_keyed Tryz.underlying9
theorem xJ (w:World):(zeroValue 3).run prog w = .ok (em 0) w:=by kernel_rfl
def qD (L:Lc) (s:ByteArray) (i:Int):Lc:=fun a=>if a=s then some i else L a
def uH (D:DataW Unit) (L:Lc):Prop:=∀ a:ByteArray,has D (.string a.data.toList)=(L a).isSome/\D.atKey (.string a.data.toList) (.lit (.int .i64 0)) = .lit (.int .i64 ((L a).getD 0))
theorem uI {a b:ByteArray} (h:a.data.toList=b.data.toList):a=b:=by
 cases a;cases b;simp at h;rw [h]
theorem uH.put {D:DataW Unit} (h:uH D L) (ax:IsMap D) (s:ByteArray) (i:Int):uH (D.put (.string s.data.toList) (.lit (.int .i64 i))) (qD L s i):=by
 intro a
 by_cases e:a=s
 . subst e
   simp only [qD,if_true];exact ⟨has_put_same (k:=.string a.data.toList) ax trivial _,atKey_put_same (k:=.string a.data.toList) ax trivial _ _⟩
 . have aV:Lit.string a.data.toList≠.string s.data.toList:=fun h=>e (uI (by injection h))
   simp only [qD,if_neg e];rw [has_put_other aV,atKey_put_other aV];exact h a
def iL (w:World) (b n:Nat) (L:Lc):Prop:=∃ D:DataW Unit,w.ownsMap prog 9 (plainElem prog 3) b n D/\uH D L
theorem iL.lt (h:iL w b n L):b<w.heap.size:=by obtain ⟨D,G,_⟩:=h;exact G.lt
theorem iL.later (h:iL w b n L) (F:et w r):iL r b n L:=by
 have a0:=h.lt;obtain ⟨D,G,J⟩:=h;obtain ⟨t,clock,aJ,O⟩:=G;exact ⟨D,⟨t,clock,(F.block b a0).trans aJ,O⟩,J⟩
theorem iL.made (w:World):iL (w.alloc (.map #[] 0)) w.heap.size 0 (fun _=>none):=⟨.map [],r1 w _ _ _,fun _=>⟨rfl,rfl⟩⟩
theorem iL.names (h:iL w b n L):jr w (.map (some b)) L:=by
 intro r F s Z;obtain ⟨D,ak,au⟩:=h.later F;obtain ⟨v,ps,hrun,a7⟩:=ak.look_ok uG Tryz.underlying185 (xJ r) (zd:=.lit (.int .i64 0)) (zp:=[]) (plainElem_int Tryz.underlying3 (by decide)) (keyOf_string_mk Tryz.underlying9 Z);obtain ⟨c,rfl,a1,_⟩:=plainElem_int_inv Tryz.underlying3 a7;simp only [rq] at a1;have a1:=a1.1;rw [(au s).2] at a1
 injection a1 with a1
 injection a1 with _ a1
 rw [hrun,← a1,(au s).1]
theorem IA (w:World):jr w (.map none) (fun _=>none):=by
 intro r F s Z;rw [look_nil true uG Tryz.underlying185 (xJ r) (keyOf_string_mk Tryz.underlying9 Z)]
 rfl
theorem iL.put (h:iL w b n L) (U:n<maxLen) (s:ByteArray) (Z:s.size<=maxLen) (i:Int) (X:(Lit.int .i64 i).wf=true) :
 ∃ r,(Instr.mapUpdate 185 (.map (some b)) (.string s) (em i)).run prog w = .ok () r/\iL r b (n+1) (qD L s i)/\w.grownBy r (some b):=by
 obtain ⟨D,ak,au⟩:=h;obtain ⟨r,b2,bi,bt⟩:=ak.update uG Tryz.underlying185 U (keyOf_string_mk Tryz.underlying9 Z) (plainElem_int (a:=i) Tryz.underlying3 X);exact ⟨r,b2,⟨_,bi,au.put ak.isMap s i⟩,bt⟩
def mH (l:List ByteArray):Lc:=l.zipIdx.foldl (fun f y=>qD f y.1 (y.2:Int)) (fun _=>none)
theorem IB (l:List ByteArray) (s:ByteArray):mH (l++[s])=qD (mH l) s (Ln l):=by
 unfold mH;rw [List.zipIdx_append,mS];simp
theorem iL.look (h:iL w b n L) (s:ByteArray) (Z:s.size<=maxLen) :
 (Instr.lookup 185 (.map (some b)) (.string s) false).run prog w = .ok (em ((L s).getD 0)) w:=by
 obtain ⟨D,ak,au⟩:=h;obtain ⟨c,hrun,a5,_⟩:=ak.lookup_int uG Tryz.underlying185 Tryz.underlying3 (xJ w) (keyOf_string_mk Tryz.underlying9 Z);rw [(au s).2] at a5
 injection a5 with a5
 injection a5 with _ a5
 rw [hrun,a5]
theorem xD.uv {o:Nat} {x:ga} {Y:OA} {ak:Nat} {a5:OA} {au:Nat} {a7:OA} {aI:Nat} (h:xD w eV b o x Y ak a5 au a7 aI):kV w x Y ak a5 au a7 aI:=⟨h.w0,h.uses',h.w2,h.parts',h.main'⟩
abbrev pP (p:fH) (a:OA) (b:Nat) (c:OA) (e:Nat) (f:OA) (g:Nat):Obj:=me p.name p.pub a (Ln p.params) b c (Ln p.locals) e f (Ln p.body) g
def fH.own (p:fH):List ByteArray:=p.params++p.locals
def na (K:Kn) (p:fH):Except Int gO:=if Fx.zgd (Fx.zbi p.own) then .error 6 else hL (gN K (mH p.own) p.body) fun b=>.ok ⟨Ln p.params,Ln p.locals,b⟩
def IC (K:Nat) (O:Except Int gO) (e:Ending) (w:World):Prop:=
 match O with
 | .error c=>∃ q o a k bo,e = .returned (.tuple #[.agg #[.int .i64 q,.int .i64 o,.slice a k bo],.int .i64 c])/\c≠0
 | .ok t=>∃ a bo,e = .returned (.tuple #[.agg #[.int .i64 t.params,.int .i64 t.locals,.slice a (Ln t.body) bo],.int .i64 0])/\eU w (K<=·) a (Ln t.body) (f9 t.body)
theorem ID {l:List ByteArray} (U:n=Ln l) (h:w.ownsRow B 9 1 v n (strV l)) (a2:Ln l<=1000000) (ag:∀ s ∈ l,s.size<=maxLen) :
 ew 59 #[v] w fun e r=>e = .returned (.bool (Fx.zgd (Fx.zbi l)))/\et w r:=by
 subst U;obtain ⟨a,c,rfl,g⟩:=sN h;exact Fx.zf6 a c _ w g a2 ag
theorem BJ (M:World) (cs:Array Value) (t:TypeId) (n i:Nat) (v:Value) (U:n=M.heap.size) (a7:cs[i]? = some v):(M.alloc (.cells cs t)).cell? (ep n i)=some v:=by
 subst U;rw [fU (eT _ _)];exact a7
theorem xK {a:World} (h:Below B a w) (F:B<=b) (Z aK aN:Value):Below B a (((w.setCell (ep b 0) Z).setCell (ep b 1) aK).setCell (ep b 2) aN):=
 ((h.setCell (p:=(ep b 0)) F _).setCell (p:=(ep b 1)) F _).setCell (p:=(ep b 2)) F _
theorem eQ.set3 {eq:World} {q:Nat->Prop} (h:eQ w A eq q) (az:∀ k,k<w.heap.size->A k->k≠b) (Z aK aN:Value):eQ w A (((eq.setCell (ep b 0) Z).setCell (ep b 1) aK).setCell (ep b 2) aN) q:=
 ((h.set (p:=(ep b 0)) az Z).set (p:=(ep b 1)) az aK).set (p:=(ep b 2)) az aN
theorem pG {af E ae:Value} {t:TypeId} (h:w.heap[b]? = some (.cells #[af,E,ae] t (0,0))) :
 w.cell? (ep b 0)=some af/\w.cell? (ep b 1)=some E/\w.cell? (ep b 2)=some ae/\∀ i,w.frozen? (ep b i)=false:=by
 refine ⟨?_,?_,?_,fun i=>ih h i⟩<;>(rw [fU h];rfl)
theorem eI.below {w0:World} (h:Below B w0 w) (N:eI R w r) (bb:B<=R) (ab:B<=w.heap.size):Below B w0 r:=
 h.trans ⟨N.os,N.tape,N.output,N.size,fun k G=>N.block k (by omega) (by omega)⟩
theorem IE (K:Kn) (V:Nat) (p:fH) (an:OA) (aL:Nat) (aD:OA) (aU:Nat) (aR:OA) (bd:Nat) (w:World) (aA:jg w (.map (some V)) K) (G:eE w eV an (Ln p.params) (fj p.params)) (J:eE w eV aD (Ln p.locals) (fj p.locals)) (S:eE w eV aR (Ln p.body) (fw p.body)) (a9:Ln p.params<=3) (b9:Ln p.locals<=4) (D:fC 6 p.body=false) :
 ew 120 #[.agg #[.map (some V)],.agg #[.string p.name,.bool p.pub,.slice an (Ln p.params) aL,.slice aD (Ln p.locals) aU,.slice aR (Ln p.body) bd]] w fun e r=>IC w.heap.size (na K p) e r/\et w r:=by
 have a6:=hid aA;have dd:=hid S;have a7:=hid (uA 6 p.body D)
 have Z:∀ s ∈ p.own,s.size<=maxLen:=fun s Z=>(nN.1 Z).elim ((lT G).2 s) ((lT J).2 s)
 have t:Ln p.own=Ln p.params+Ln p.locals:=by unfold fH.own;rw [gn]
 have aJ:=hid Z;have f:=hid t;have n:et w ((((w.alloc (.cells #[.map (some V)] 189)).alloc (pP p an aL aD aU aR bd)).alloc (mg 0 0 none 0 0)).alloc (.cells #[.slice an (Ln p.params) aL,.slice aD (Ln p.locals) aU] 22)):=es (ho w _ _ _) (ey _ _);have ao:=hid (Iz p.params p.locals an aL aD aU (w.heap.size+3) ((((w.alloc (.cells #[.map (some V)] 189)).alloc (pP p an aL aD aU aR bd)).alloc (mg 0 0 none 0 0)).alloc (.cells #[.slice an (Ln p.params) aL,.slice aD (Ln p.locals) aU] 22)) (by simp) (BJ _ _ _ _ 0 _ (by simp) rfl) (BJ _ _ _ _ 1 _ (by simp) rfl) ((lT G).1.later n) ((lT J).1.later n) (by omega) (by omega));have b1:=hid n;clear aA G J S D Z t n
 obtain ⟨O,W⟩:∃ O,O=na K p:=⟨_,rfl⟩
 rw [← W];have z:=hid W;clear W;go_enter func120,ntmps120;go_wp2_with fail;refine ao.mono ?_;rintro e eq ⟨aK,rfl,m,ai⟩;have B:=hid (es b1 ai);have b0:=ai.size;simp at b0;obtain ⟨av,qp,qr⟩:=oJ (es (ey _ _) ai);have c4:=hid av;have ce:=hid qp;have l:=hid qr;obtain ⟨af,E,ae,H,aj,bc⟩:=fi qp;obtain ⟨bg,b2,bi,rf⟩:=pG qr
 have ag:eq.cell? (ep w.heap.size 0)=some (.map (some V)):=by rw [fU av];rfl
 have aq:Hid (eq.ownsRow ((((w.alloc (.cells #[.map (some V)] 189)).alloc (pP p an aL aD aU aR bd)).alloc (mg 0 0 none 0 0)).alloc (.cells #[.slice an (Ln p.params) aL,.slice aD (Ln p.locals) aU] 22)).heap.size 9 1 aK (Ln p.params+Ln p.locals) (strV p.own)):=m;have bB:=hid (ID f.symm aq (by rw [f.out];omega) aJ);clear ai ao m av qp qr
 cases ez:Fx.zgd (Fx.zbi p.own) with
 | true=>
   have aZ:Hid (O = .error 6):=z.trans (by unfold na;rw [ez];rfl);rw [ez] at bB;clear ez;go_wp2_with fail;refine bB.mono ?_;rintro e w2 ⟨rfl,aB⟩;have aM:=hid (es B aB);have v:=(aB.block _ (lt_of_heap l)).trans l;have a1:=lt_of_heap v;clear bg b2 bi rf;obtain ⟨bg,b2,bi,rf⟩:=pG v;clear aB v;go_wp2_with fail;refine bodyPost_ret (v:=.tuple #[.agg #[em 0,em 0,eu],em 6]) (by simp [results,results120,go_sem,bg,b2,bi,a1]) rfl ⟨by rw [aZ.out];exact ⟨0,0,none,0,0,rfl,by decide⟩,?_⟩;exact xK aM (by omega) _ _ _
 | false=>
   have aZ:Hid (O=hL (gN K (mH p.own) p.body) fun b=>.ok ⟨Ln p.params,Ln p.locals,b⟩):=z.trans (by unfold na;rw [ez];rfl);rw [ez] at bB;clear ez z;go_wp2_with fail;refine bB.mono ?_;rintro e w2 ⟨rfl,aB⟩;have aM:=hid (es B aB);have bl:=aB.size;have y:=hid ((aB.block _ (lt_of_heap c4)).trans c4);have F:=hid ((aB.block _ (lt_of_heap ce)).trans ce);have M:=hid ((aB.block _ (lt_of_heap l)).trans l);have d:=hid (Fx.ownsRow_later aq aB);clear af E ae H aj bc bg b2 bi rf ag aq bB c4 ce l
   have ag:w2.cell? (ep w.heap.size 0)=some (.map (some V)):=by rw [fU y.out];rfl
   have bq:=lt_of_heap y;have aI:=lt_of_heap F;have Q:=lt_of_heap M;obtain ⟨a,q,rfl,hSt⟩:=sN (l:=p.own) (by rw [f.out];exact d);have A:=hid hSt;have aP:=@run_makeMap prog;have P:=hid ((iL.made w2).later (ey _ (.cells #[.map (some V),.map (some w2.heap.size)] 195)));clear aB hSt d;rw [f.out];go_wp2_with fail
   go_loopw [8,9,26] (fun _ _ i wr=>∃ j:Nat,j<=Ln p.params+Ln p.locals/\i=em j/\iL wr w2.heap.size j (mH (p.own.take j))/\eI w2.heap.size ((w2.alloc (.map #[] 0)).alloc (.cells #[.map (some V),.map (some w2.heap.size)] 195)) wr) (fun _ _ i _=>Ln p.params+Ln p.locals - (intOf i).toNat)
   case atStart=>exact ⟨0,eY _,rfl,P,eI.refl _ _⟩
   case round=>
    clear P aP ag;obtain ⟨j,ac,rfl,ax,aa⟩:=hrel;have L:=hid ax;have aH:=hid aa;have bN:=aa.size;simp at bN;have g:wr.heap[w2.heap.size+1]? = some (.cells #[.map (some V),.map (some w2.heap.size)] 195):=(aa.block _ (by simp) (by omega)).trans (by simpa using eT (w2.alloc (.map #[] 0)) (.cells #[.map (some V),.map (some w2.heap.size)] 195));have ak:=hid g;obtain ⟨aF,T,yf⟩:=mE g;have a8:=lt_of_heap g;clear ax aa g
    by_cases o:j<Ln p.params+Ln p.locals
    . have a0:j<Ln p.own:=by rw [f.out];exact o
      obtain ⟨b,C,rfl,ap,bh⟩:=A.place a0;have b5:=(aH.cell (C:=C+j) (by simp;omega) (by omega)).trans (((gc w2 (.map #[] 0) (.cells #[.map (some V),.map (some w2.heap.size)] 195)).cell (p:=⟨b,C+j,none⟩) ap).trans bh)
      have ah:b<wr.heap.size:=by omega
      have bu:=aJ p.own[j] (fO _)
      have ab:Hid (qD (mH (p.own.take j)) p.own[j] j=mH (p.own.take (j+1))):=by
       show _=mH (p.own.take (j+1));rw [hI a0,IB,ky,t7 (by omega)]
      generalize p.own[j]=s at *
      have cv:j<=1000:=by have:=f.out;omega
      obtain ⟨eJ,hrun,hL5,hg5⟩:=L.put (by unfold maxLen;omega) s bu j (WalkArith.wf_i64 (by omega));rw [ab.out] at hL5;have a5:=hid hL5;have u:=hid (aH.grown hg5);clear hL5 hg5 bh bu;go_wp2_with fail;go_roundw
      case rel=>exact ⟨j+1,by omega,by go_num,a5,u⟩
      case measure=>simp [intOf];omega
    . obtain rfl:j=Ln p.params+Ln p.locals:=by omega
      have Y:Hid (iL wr w2.heap.size (Ln p.params+Ln p.locals) (mH p.own)):=by have:=L.out;rw [kw (by rw [f.out];exact eD _)] at this;exact this
      have au:Hid (et w wr):=eI.below (es aM (gc _ _ _)) aH (by have:=aM.size;omega) (by have:=aM.size;simp;omega);have R:=hid (a6.later au);have aG:=hid (a7 K (mH p.own) (.map (some V)) (.map (some w2.heap.size)) eV aR bd wr R Y.names (dd.later au));have aw:wr.heap[w.heap.size+1]? = some (pP p an aL aD aU aR bd):=(aH.block _ (by simp;omega) (by omega)).trans (fF (fF F));have aE:wr.heap[w.heap.size+2]? = some (mg 0 0 none 0 0):=(aH.block _ (by simp;omega) (by omega)).trans (fF (fF M));have X:=hid aw;have bG:=hid aE;obtain ⟨af,E,ae,H,aj,bc⟩:=fi aw;have a2:=lt_of_heap aw;have U:=lt_of_heap aE;clear aw aE;go_wp2_with fail;refine aG.mono ?_;rintro e eZ ⟨a3,x⟩;have bO:=hid (es au x);have bo:=x.size
      have bk:=(x.block _ a2).trans X;have bm:=(x.block _ U).trans bG;have ad:=lt_of_heap bk;have I:=lt_of_heap bm;clear af E ae H aj bc aF T yf;obtain ⟨af,E,ae,H,aj,bc⟩:=fi bk;obtain ⟨bg,b2,bi,rf⟩:=pG bm;clear x bk bm
      cases W:gN K (mH p.own) p.body with
      | error c=>
        rw [W] at a3;obtain ⟨rfl,aV⟩:=a3;have b3:Hid (O = .error c):=aZ.trans (by rw [W];rfl);clear W;go_wp2_with fail;refine bodyPost_ret (v:=.tuple #[.agg #[em (Ln p.params),em (Ln p.locals),eu],em c]) (by simp [results,results120,go_sem,bg,b2,bi,I]) rfl ⟨by rw [b3.out];exact ⟨_,_,_,_,_,rfl,aV⟩,?_⟩;exact xK bO (by omega) _ _ _
      | ok gY=>
        rw [W] at a3;obtain ⟨b7,bj,rfl,heb⟩:=a3;have b3:Hid (O = .ok ⟨Ln p.params,Ln p.locals,gY⟩):=aZ.trans (by rw [W];rfl);have a4:=hid heb;clear W heb;go_wp2_with fail;refine bodyPost_ret (v:=.tuple #[.agg #[em (Ln p.params),em (Ln p.locals),.slice b7 (Ln gY) bj],em 0]) (by simp [results,results120,go_sem,bg,b2,bi,I]) rfl ⟨by rw [b3.out];exact ⟨b7,bj,rfl,(a4.moves ((eQ.refl eZ _).set3 (by intro k _ N;have:wr.heap.size<=k:=N;omega) _ _ _)).moves ⟨eD _,fun b _ h=>⟨by have:wr.heap.size<=b:=h;show w.heap.size<=b;omega,rfl⟩⟩⟩,xK bO (by omega) _ _ _⟩
abbrev Fc:=Fx.Fc
def xL (f:Fc):List D:=[.str f.name,.list (Ln f.items) (g2 f.items)]
def qE (l:List Fc):List D:=l.flatMap xL
def qF (m:fh):Kn:=lU (fun _ _=>none) ⟨#[]⟩ 0 (iV m)
def oM (K:Kn) (l:List Fc):Kn:=l.zipIdx.foldl (fun K y=>lU K y.1.name ((y.2:Int)+1) y.1.items) K
theorem IF (K:Kn) (l:List Fc) (f:Fc):oM K (l++[f])=lU (oM K l) f.name ((Ln l:Int)+1) f.items:=by
 unfold oM;rw [List.zipIdx_append,mS];simp
def kF (m:fh) (l:List Fc):Kn:=oM (qF m) l
def iX (K:Kn):List fH->Except Int (List gO)
 | []=>.ok []
 | y :: O=>hL (na K y) fun t=>hL (iX K O) fun l=>.ok (t :: l)
def mI (m:fh) (l:List Fc):Except Int ga:=hL (iX (kF m l) m.procs) fun ps=>hL (gN (kF m l) (fun _=>none) m.main) fun b=>.ok ⟨m.name,m.uses,j0 m,ps,b⟩
theorem xM (K:Kn):∀ (a b:List fH) (P:List gO),iX K a = .ok P->iX K (a++b)=hL (iX K b) fun l=>.ok (P++l)
 | [],b,P,h=>by
   obtain rfl:=rr h;show iX K b=_;exact (xf _).symm
 | q :: a,b,P,h=>by
   rw [iX] at h;show iX K (q :: (a++b))=_;rw [iX]
   cases Q:na K q with
   | error e=>rw [Q] at h;cases h
   | ok o=>
     rw [Q] at h;simp only [hL] at h ⊢
     cases ab:iX K a with
     | error e=>rw [ab] at h;cases h
     | ok l=>
       rw [ab] at h;obtain rfl:=rr h;rw [xM K a b l ab]
       cases iX K b<;>rfl
theorem IG {l:List fH} {e:Int} (h:j<Ln l) (ab:iX K (l.take j) = .ok P) (ah:na K l[j] = .error e):iX K l = .error e:=by
 rw [xi l j h,xM K _ _ P ab,iX,ah];rfl
theorem IH {l:List fH} {y:gO} (h:j<Ln l) (ab:iX K (l.take j) = .ok P) (ah:na K l[j] = .ok y):iX K (l.take (j+1)) = .ok (P++[y]):=by
 rw [hI h,xM K _ _ P ab,iX,ah];rfl
theorem II {l:List Fc} (h:iX (kF m l) m.procs = .error c):mI m l = .error c:=by unfold mI;rw [h];rfl
theorem IJ {l:List Fc} (h:iX (kF m l) m.procs = .ok ps) (J:gN (kF m l) (fun _=>none) m.main = .error c):mI m l = .error c:=by unfold mI;rw [h,J];rfl
theorem IK {l:List Fc} {b:List eB} (h:iX (kF m l) m.procs = .ok ps) (J:gN (kF m l) (fun _=>none) m.main = .ok b):mI m l = .ok ⟨m.name,m.uses,j0 m,ps,b⟩:=by unfold mI;rw [h,J];rfl
def BK (K:Nat) (O:Except Int ga) (e:Ending) (w:World):Prop:=
 match O with
 | .error c=>e = .returned (.tuple #[.agg #[.string ⟨#[]⟩,.slice none 0 0,.int .i64 0,.slice none 0 0,.slice none 0 0],.int .i64 c])/\c≠0
 | .ok u=>∃ E T ae X H bc,e = .returned (.tuple #[.agg #[.string u.name,.slice E (Ln u.uses) T,.int .i64 u.data,.slice ae (Ln u.parts) X,.slice H (Ln u.main) bc],.int .i64 0])/\
   eU w (K<=·) E (Ln u.uses) (fj u.uses)/\eU w (K<=·) ae (Ln u.parts) (iI u.parts)/\eU w (K<=·) H (Ln u.main) (f9 u.main)
theorem eE.fc {l:List Fc} (h:eE w A a (Ln l) (qE l)) (i:Nat) (X:i<Ln l):∃ b C b9 aA,a=some (ep b C)/\b<w.heap.size/\w.cell? ⟨b,C+i*2,none⟩=some (.string l[i].name)/\w.cell? ⟨b,C+i*2+1,none⟩=some (.slice b9 (Ln l[i].items) aA)/\l[i].name.size<=maxLen/\eE w A b9 (Ln l[i].items) (g2 l[i].items):=by
 obtain ⟨b,C,ab,F,a1⟩:=h.cell (by omega);generalize Q:l[i]=q;obtain ⟨u,c⟩:=q
 have g:∀ j o,j<2->(xL ⟨u,c⟩)[j]? = some o->∃ v,w.cell? ⟨b,C+i*2+j,none⟩=some v/\fT w A o v:=fun j o ac ez=>by
  rw [kd];exact a1 (i*2+j) o ((mw xL 2 (fun _=>rfl) l i X j ac).trans (by rw [Q];exact ez))
 obtain ⟨Z,ag,b5⟩:=g 0 (.str u) (by omega) rfl;obtain ⟨aK,ak,aL⟩:=g 1 (.list (Ln c) (g2 c)) (by omega) rfl;obtain ⟨rfl,w0⟩:=lj b5;obtain ⟨b9,aA,rfl,G⟩:=hY aL;exact ⟨b,C,b9,aA,ab,F,ag,ak,w0,G⟩
theorem xN (h:eE w A a (Ln l) (g2 l)):Fx.zcy w a l/\Fx.AllFit l:=by
 rcases h.2.2 with h | ⟨b,C,d,ab,_,F,a1,Q⟩
 . have:l=[]:=ii h
   subst this;exact ⟨Or.inl rfl,fun i X=>by cases X⟩
 . have g:∀ i (X:i<Ln l) j o,j<4->(jI l[i])[j]? = some o->∃ v,w.cell? ⟨b,C+i*4+j,none⟩=some v/\fT w A o v:=fun i X j o ac ez=>by
    obtain ⟨v,a7,c⟩:=Q.get (i*4+j) o ((mw jI 4 (fun _=>rfl) l i X j ac).trans ez);exact ⟨v,by rw [kd];exact a1 _ v a7,c⟩
   refine ⟨Or.inr ⟨b,C,ab,F,fun i X=>?_,fun i X=>?_,fun i X=>?_,fun i X=>?_⟩,fun q a3=>?_⟩
   . obtain ⟨v,a7,ez⟩:=g i X 0 (.int l[i].kind) (by omega) rfl
     rw [(hw ez).1] at a7;exact a7
   . obtain ⟨v,a7,ez⟩:=g i X 1 (.int l[i].n) (by omega) rfl
     rw [(hw ez).1] at a7;exact a7
   . obtain ⟨v,a7,ez⟩:=g i X 2 (.int l[i].at_) (by omega) rfl
     rw [(hw ez).1] at a7;exact a7
   . obtain ⟨v,a7,ez⟩:=g i X 3 (.str l[i].name) (by omega) rfl
     rw [(lj ez).1] at a7;exact a7
   . obtain ⟨i,X,rfl⟩:=kx a3
     obtain ⟨v,a7,ez⟩:=g i X 3 (.str l[i].name) (by omega) rfl;exact (lj ez).2
theorem BL (h:Fx.zcy w a l) (bb:w.heap.size<=R):∀ bA C,l≠[]->a=some (ep bA C)->bA≠R:=by
 intro bA C a2 e
 rcases h with h | ⟨b,o,aE,h⟩
 . exact absurd h a2
 . rw [e] at aE
   have:=fe aE
   injection this with b4 _
   have:=h.lt;omega
theorem eI.items (h:Fx.zcy w a l) (N:eI R w r) (bb:∀ bA C,l≠[]->a=some (ep bA C)->bA≠R):Fx.zcy r a l:=by
 rcases h with h | ⟨b,o,e,h⟩
 . exact Or.inl h
 . by_cases a2:l=[]
   . exact Or.inl a2
   . have aV:=bb b o a2 e
     exact Or.inr ⟨b,o,e,gl h.lt N.size,fun i X=>(N.cell h.lt aV).trans (h.kind i X),fun i X=>(N.cell h.lt aV).trans (h.num i X),fun i X=>(N.cell h.lt aV).trans (h.at_ i X),fun i X=>(N.cell h.lt aV).trans (h.name i X)⟩
end Go.Proofs.YtndkhgakfodldaaGreatDoor
