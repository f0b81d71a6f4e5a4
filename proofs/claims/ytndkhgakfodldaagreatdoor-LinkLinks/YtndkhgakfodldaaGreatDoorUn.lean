import Derived.Test.YtndkhgakfodldaaGreatDoorUi
import Derived.Lib.AppendZeros
namespace Go.Proofs.YtndkhgakfodldaaGreatDoor
set_option maxRecDepth 100000
set_option maxHeartbeats 1600000
open Go.RowKit Go.Maps Go.WideMaps
set_option linter.unusedSimpArgs false
def strV (l:List ByteArray):List Value:=l.map Value.string
theorem zty (a b:List ByteArray):strV (a++b)=strV a++strV b:=vbw ..
theorem zvx (l:List ByteArray):(strV l).length=l.length:=vct ..
theorem z38 (l:List ByteArray):∀ u ∈ strV l,u.oneCell'=true:=fun u hu=>by
 obtain ⟨s,_,rfl⟩:=vcy.1 hu
 rfl
theorem ziy {P:Program} {w:World} (base:Nat) (t ty e:TypeId) (i:TypeInfo) (size c:Nat) (ht:P.underlying t=some (.slice e)) (hi:P.info? e=some i)
 (v:Value) (n:Nat) (xs:List Value) (Ag:w.ownsRow base e size v n xs) :
 (Builtin.append_ #[t,t] ty #[v,.slice none 0 c]).run P w = .ok v w:=by
 rcases Ag.2 with ⟨rfl,rfl⟩ | ⟨g,cap,AD,rfl,_,_,hnc,_⟩
 . simp [Builtin.append_,run_underlying ht,Go.sizeOf,typeInfo,hi,Builtin.lenOf,Builtin.firstCells]
 . simp [Builtin.append_,run_underlying ht,Go.sizeOf,typeInfo,hi,Builtin.lenOf,Builtin.firstCells,hnc,storeCells]
theorem zcc {w:World} (base:Nat) (ty:TypeId) (v:Value) (n:Nat) (xs:List Value) (Ag:w.ownsRow base 9 1 v n xs) (us:List ByteArray) (b:OA) (c:Nat) (hS:Fx.zez w b us) (Ah:n+us.length<=10000) (AQ:base<=w.heap.size) :
 ∃ v' w',(Builtin.append_ #[22,22] ty #[v,.slice b us.length c]).run Tryz.prog w = .ok v' w'/\w'.ownsRow base 9 1 v' (n+us.length) (xs++strV us)/\w.grownBy w' v.ownBlock:=by
 obtain ⟨i0,hi,Bx,Ao,Ay⟩:=info_parts Tryz.infoP9
 have go:∀ ad:Addr,b=some ad->(∀ j u,(strV us)[j]? = some u->w.cell? (ad.add j)=some u)->∃ v' w',(Builtin.append_ #[22,22] ty #[v,.slice b us.length c]).run Tryz.prog w = .ok v' w'/\w'.ownsRow base 9 1 v' (n+us.length) (xs++strV us)/\w.grownBy w' v.ownBlock:=by
  rintro ad rfl hn;obtain ⟨v',w',h1,h2,h3,_⟩:=run_append_own (P:=Tryz.prog) (w:=w) base 22 ty 9 i0 _ 1 16 Tryz.underlying22 hi Bx Ao Ay rfl aq v n xs Ag ad us.length c (strV us) (by rw [zvx,Nat.mul_one]) hn (z38 us) aP ae AQ;exact ⟨v',w',h1,h2,h3⟩
 rcases hS with rfl | ⟨b1,off,rfl,A6,h⟩
 . cases b with
   | none=>exact ⟨v,w,ziy base _ ty _ i0 1 c Tryz.underlying22 hi v n xs Ag,by simpa [strV] using Ag,⟨rfl,rfl,rfl,vaa _,fun _ _ _=>rfl⟩⟩
   | some ad=>exact go ad rfl (fun j u hj=>by simp [strV] at hj)
 . refine go _ rfl (fun j u hj=>?_)
   have PG:j<us.length:=by
    rcases vbi j us.length with h' | h'
    . exact h'
    . rw [vbv (by rw [zvx];exact h')] at hj;cases hj
   have e:((qa b1 off):Addr).add j=⟨b1,off+j,none⟩:=aS
   rw [e,h j PG];simp [strV,PG] at hj;rw [hj]
theorem z39 (n:Nat) (w:World) (hn:n<=10000) :
 qc 204 #[qs,qi n] w fun e w'=>∃ v,e = .returned v/\w'.ownsRow w.heap.size 9 1 v 0 []/\qb w w':=by
 obtain ⟨i0,hi,Bx,Ao,Ay⟩:=info_parts Tryz.infoP9
 have hw:IntKind.i64.wrap (n:Int)=n:=aK
 by_cases h0:n=0
 . subst h0
   go_enter Tryz.func204,Tryz.ntmps204;go_wp2_with fail;go_ret;exact ⟨_,rfl,ves _ _ _ _,Below.refl _ _⟩
 . have hr:=fun ty=>Lib.run_append_nil_zeros (P:=Tryz.prog) w 22 3 ty 9 i0 _ .i64 .i64 Tryz.underlying22 Tryz.underlying3 hi Bx n ae ae ae (by rw [Ay];omega)
   have Gn:=grownCap_ge w n 0 9
   have El:Hid ((w.drew.alloc (.cells (Builtin.zeroCells (Value.string ⟨#[]⟩).cells n++Builtin.zeroCells (Value.string ⟨#[]⟩).cells (grownCap w n 0 9 - n)) 9)).ownsRow w.heap.size 9 1 (.slice (some (qa w.heap.size 0)) 0 (grownCap w n 0 9)) 0 []):=by
    refine ⟨rfl,Or.inr ⟨w.heap.size,_,_,rfl,vaa _,heap_alloc_new w.drew _,vaf _,grownCap_le_maxLen w n 0 _ aP,?_,aA⟩⟩;rw [Array.size_append,size_zeroCells,size_zeroCells];show n*1+(grownCap w n 0 9 - n)*1=_;omega
   have Bv:Hid (qb w (w.drew.alloc (.cells (Builtin.zeroCells (Value.string ⟨#[]⟩).cells n++Builtin.zeroCells (Value.string ⟨#[]⟩).cells (grownCap w n 0 9 - n)) 9))):=((Below.refl w.heap.size w).drew).alloc (vaa _) _
   have Gc:(0:Int)<n:=ae
   generalize (w.drew.alloc (.cells (Builtin.zeroCells (Value.string ⟨#[]⟩).cells n++Builtin.zeroCells (Value.string ⟨#[]⟩).cells (grownCap w n 0 9 - n)) 9))=w2 at *;generalize grownCap w n 0 9=cp at *
   have Ed:(n:Int)<=cp:=ae
   go_enter Tryz.func204,Tryz.ntmps204
   go_wp2_with (at_builtin;refine Lib.wpList_append_run _ rfl (.tmp 20) (.tmp 21) 22 3 rfl _ _ rfl rfl _ _ (hr _) ?_)
   go_ret;exact ⟨_,rfl,El.out,Bv.out⟩
set_option maxHeartbeats 3200000
theorem zxj (x y:List ByteArray) (a1:OA) (c1:Nat) (a2:OA) (c2 b:Nat) (w:World) (hb:b<w.heap.size) (h0:w.cell? (qa b 0)=some (.slice a1 x.length c1)) (h1:w.cell? (qa b 1)=some (.slice a2 y.length c2))
 (hx:Fx.zez w a1 x) (hy:Fx.zez w a2 y) (I7:x.length<=1000) (Ji:y.length<=1000) :
 qc 161 #[.slice (some (qa b 0)) 2 2] w fun e w'=>∃ v,e = .returned v/\w'.ownsRow w.heap.size 9 1 v (x.length+y.length) (strV (x++y))/\qb w w':=by
 have HX:=hid hx;have HY:=hid hy;have H0:=hid h0;have H1:=hid h1;clear hx hy
 have Cw:IntKind.i64.wrap (x.length:Int)=x.length:=aK
 have BW:IntKind.i64.wrap ((x.length:Int)+(y.length:Int))=((x.length+y.length:Nat):Int):=aK
 have E3:(0:Int)<=x.length:=ae
 have AA:(0:Int)<=((x.length+y.length:Nat):Int):=ae
 have HG:=hid (z39 (x.length+y.length) w ae);go_enter Tryz.func161,Tryz.ntmps161;go_wp2_with fail
 go_loopw [3,5,11] (fun s _ i wr=>∃ j:Nat,j<=2/\i=qi j/\s=qi (if j=0 then 0 else if j=1 then (x.length:Int) else ((x.length+y.length:Nat):Int))/\w=wr) (fun _ _ i _=>2 - (intOf i).toNat)
 case atStart=>exact ⟨0,ae,rfl,rfl,rfl⟩
 case round=>
  obtain ⟨j,hj,rfl,rfl,rfl⟩:=hrel
  obtain rfl | rfl | rfl:j=0\/j=1\/j=2:=ae
  . go_wp2_with fail
    go_roundw
    case rel=>exact ⟨1,ae,rfl,rfl,trivial⟩
    case measure=>simp [intOf]
  . go_wp2_with fail
    go_roundw
    case rel=>exact ⟨2,ae,rfl,rfl,trivial⟩
    case measure=>simp [intOf]
  . go_wp2_with fail
    refine HG.out.mono ?_;rintro e w1 ⟨v1,rfl,I4,A6⟩;have Bi:=hid I4;have A8:=hid A6;have Ao:=A6.size;clear I4 A6 HG h0 h1;go_wp2_with fail
    go_loopw [6,8,27] (fun v _ i wr=>∃ j:Nat,j<=2/\i=qi j/\wr.ownsRow w.heap.size 9 1 v (if j=0 then 0 else if j=1 then x.length else x.length+y.length) (if j=0 then [] else if j=1 then strV x else strV (x++y))/\qb w wr) (fun _ _ i _=>2 - (intOf i).toNat)
    case atStart=>exact ⟨0,ae,rfl,Bi.out,A8.out⟩
    case round=>
     clear Bi A8 Ao;obtain ⟨j,hj,rfl,ho,EA⟩:=hrel;have HB:=hid EA;have C1:=EA.size;have B6:b<wr.heap.size:=vai hb C1;have k0:=(EA.cell (p:=(qa b 0)) hb).trans H0.out;have k1:=(EA.cell (p:=(qa b 1)) hb).trans H1.out;clear EA
     obtain rfl | rfl | rfl:j=0\/j=1\/j=2:=ae
     . have ES:wr.ownsRow w.heap.size 9 1 u6 0 []:=ho
       obtain ⟨v',w',hr,h2,h3⟩:=zcc w.heap.size 22 u6 0 [] ES x a1 c1 (HX.out.later HB.out) ae C1;have Hn:Hid (w'.ownsRow w.heap.size 9 1 v' x.length (strV x)):=hid dz;have Ad:=hid (HB.out.grown h3 C1 (fun k hk=>(ES.lt k hk).1));clear ho ES h2 h3
       go_wp2_with (at_builtin;refine Lib.wpList_append_run _ rfl (.tmp 31) (.tmp 32) 22 22 rfl _ _ rfl rfl _ _ hr ?_)
       go_roundw
       case rel=>exact ⟨1,ae,rfl,Hn.out,Ad.out⟩
       case measure=>simp [intOf]
     . have ES:wr.ownsRow w.heap.size 9 1 u6 x.length (strV x):=ho
       obtain ⟨v',w',hr,h2,h3⟩:=zcc w.heap.size 22 u6 x.length (strV x) ES y a2 c2 (HY.out.later HB.out) ae C1
       have Hn:Hid (w'.ownsRow w.heap.size 9 1 v' (x.length+y.length) (strV (x++y))):=by rw [zty];exact h2
       have Ad:=hid (HB.out.grown h3 C1 (fun k hk=>(ES.lt k hk).1));clear ho ES h2 h3
       go_wp2_with (at_builtin;refine Lib.wpList_append_run _ rfl (.tmp 31) (.tmp 32) 22 22 rfl _ _ rfl rfl _ _ hr ?_)
       go_roundw
       case rel=>exact ⟨2,ae,rfl,Hn.out,Ad.out⟩
       case measure=>simp [intOf]
     . have Hn:Hid (wr.ownsRow w.heap.size 9 1 u6 (x.length+y.length) (strV (x++y))):=ho
       clear ho;go_wp2_with fail;go_ret;exact ⟨_,rfl,Hn.out,HB.out⟩
theorem ziz {w:World} {B:Nat} {v:Value} {l:List ByteArray} (h:w.ownsRow B 9 1 v l.length (strV l)):∃ a cap,v = .slice a l.length cap/\Fx.zez w a l:=by
 rcases h.2 with ⟨hv,h0⟩ | ⟨g,cap,AD,hv,hB,hg,_⟩
 . have hl:l=[]:=vam h0
   exact ⟨none,0,by rw [hv,hl];rfl,Or.inl hl⟩
 . refine ⟨_,cap,hv,Or.inr ⟨g,0,rfl,lt_of_heap hg,fun i hi=>?_⟩⟩
   have:=h.cells (g:=g) (by rw [hv];rfl) i (.string l[i]) (by simp [strV,hi]);rw [show ((qa g 0):Addr).add i=(qa g i) from aS] at this;rw [vaz];exact this
theorem keyedStr:Keyed Tryz.prog 9:=string_keyed Tryz.underlying9
theorem zeroInt (w:World):(zeroValue 3).run Tryz.prog w = .ok (qi 0) w:=ah
def z6y (L:Lc) (s:ByteArray) (i:Int):Lc:=fun a=>if a=s then some i else L a
def z9m (D:DataW Unit) (L:Lc):Prop:=∀ a:ByteArray,has D (.string a.data.toList)=(L a).isSome/\D.atKey (.string a.data.toList) (.lit (.int .i64 0)) = .lit (.int .i64 ((L a).getD 0))
theorem zi0 {a b:ByteArray} (h:a.data.toList=b.data.toList):a=b:=by
 cases a;cases b;simp at h;rw [h]
theorem z9m.put {D:DataW Unit} {L:Lc} (h:z9m D L) (hD:IsMap D) (s:ByteArray) (i:Int):z9m (D.put (.string s.data.toList) (.lit (.int .i64 i))) (z6y L s i):=by
 intro a
 by_cases e:a=s
 . subst e
   simp only [z6y,if_true];exact ⟨has_put_same (k:=.string a.data.toList) hD trivial _,atKey_put_same (k:=.string a.data.toList) hD trivial _ _⟩
 . have Ai:Lit.string a.data.toList≠.string s.data.toList:=fun h=>e (zi0 (by injection h))
   simp only [z6y,if_neg e];rw [has_put_other Ai,atKey_put_other Ai];exact h a
def zl6 (w:World) (b n:Nat) (L:Lc):Prop:=∃ D:DataW Unit,w.ownsMap Tryz.prog 9 (plainElem Tryz.prog 3) b n D/\z9m D L
theorem zl6.lt {w:World} {b n:Nat} {L:Lc} (h:zl6 w b n L):b<w.heap.size:=eL
theorem zl6.later {w w':World} {b n:Nat} {L:Lc} (h:zl6 w b n L) (hb:qb w w'):zl6 w' b n L:=by
 have A0:=h.lt;obtain ⟨D,h1,h2⟩:=h;exact jj
theorem zl6.made (w:World):zl6 (w.alloc (.map #[] 0)) w.heap.size 0 (fun _=>none):=⟨.map [],vev w _ _ _,fun _=>⟨rfl,rfl⟩⟩
theorem zl6.names {w:World} {b n:Nat} {L:Lc} (h:zl6 w b n L):zn9 w (.map (some b)) L:=by
 intro w' hb s hs;obtain ⟨D,k1,k2⟩:=h.later hb;obtain ⟨v,ps,hrun,hv⟩:=k1.look_ok keyedStr Tryz.underlying185 (zeroInt w') (zd:=.lit (.int .i64 0)) (zp:=[]) (plainElem_int Tryz.underlying3 aq) (keyOf_string_mk Tryz.underlying9 hs);obtain ⟨c,rfl,hc,_⟩:=plainElem_int_inv Tryz.underlying3 hv;simp only [vdd] at hc;have hc:=hc.1;rw [(k2 s).2] at hc
 injection hc with hc
 injection hc with _ hc
 rw [hrun,← hc,(k2 s).1]
theorem zxk (w:World):zn9 w (.map none) (fun _=>none):=by
 intro w' hb s hs;rw [look_nil true keyedStr Tryz.underlying185 (zeroInt w') (keyOf_string_mk Tryz.underlying9 hs)]
 rfl
theorem zl6.put {w:World} {b n:Nat} {L:Lc} (h:zl6 w b n L) (hn:n<maxLen) (s:ByteArray) (hs:s.size<=maxLen) (i:Int) (hi:(Lit.int .i64 i).wf=true) :
 ∃ w',(Instr.mapUpdate 185 (.map (some b)) (.string s) (qi i)).run Tryz.prog w = .ok () w'/\zl6 w' b (n+1) (z6y L s i)/\w.grownBy w' (some b):=by
 obtain ⟨D,k1,k2⟩:=h;obtain ⟨w',r1,r2,r3⟩:=k1.update keyedStr Tryz.underlying185 hn (keyOf_string_mk Tryz.underlying9 hs) (plainElem_int (a:=i) Tryz.underlying3 hi);exact ⟨w',r1,⟨_,r2,k2.put k1.isMap s i⟩,r3⟩
def zx4 (l:List ByteArray):Lc:=l.zipIdx.foldl (fun f p=>z6y f p.1 (p.2:Int)) (fun _=>none)
theorem z0y (l:List ByteArray) (s:ByteArray):zx4 (l++[s])=z6y (zx4 l) s l.length:=by
 unfold zx4;rw [List.zipIdx_append,vbo];simp
set_option linter.unusedVariables false
theorem zl6.look {w:World} {b n:Nat} {L:Lc} (h:zl6 w b n L) (s:ByteArray) (hs:s.size<=maxLen) :
 (Instr.lookup 185 (.map (some b)) (.string s) false).run Tryz.prog w = .ok (qi ((L s).getD 0)) w:=by
 obtain ⟨D,k1,k2⟩:=h;obtain ⟨c,hrun,AH,_⟩:=k1.lookup_int keyedStr Tryz.underlying185 Tryz.underlying3 (zeroInt w) (keyOf_string_mk Tryz.underlying9 hs);rw [(k2 s).2] at AH
 injection AH with AH
 injection AH with _ AH
 rw [hrun,AH]
set_option maxHeartbeats 6400000
theorem UnAt.uv {w:World} {b o:Nat} {x:Un} {a1:OA} {k1:Nat} {a2:OA} {k2:Nat} {a3:OA} {k3:Nat} (h:UnAt w Tt b o x a1 k1 a2 k2 a3 k3):UvAt w x a1 k1 a2 k2 a3 k3:=⟨h.w0,h.uses',h.w2,h.parts',h.main'⟩
set_option maxHeartbeats 8000000
abbrev pP (p:Pr) (a:OA) (b:Nat) (c:OA) (e:Nat) (f:OA) (g:Nat):Obj:=kzK p.name p.pub a p.params.length b c p.locals.length e f p.body.length g
def Pr.own (p:Pr):List ByteArray:=p.params++p.locals
def zl7 (K:Kn) (p:Pr):Except Int Pt:=if Fx.zgd (Fx.zbi p.own) then .error 6 else zdi (zf2 K (zx4 p.own) p.body) fun b=>.ok ⟨p.params.length,p.locals.length,b⟩
def z6z (lo:Nat) (r:Except Int Pt) (e:Ending) (w:World):Prop:=
 match r with
 | .error c=>∃ x y a k cp,e = .returned (.tuple #[.agg #[.int .i64 x,.int .i64 y,.slice a k cp],.int .i64 c])/\c≠0
 | .ok t=>∃ a cp,e = .returned (.tuple #[.agg #[.int .i64 t.params,.int .i64 t.locals,.slice a t.body.length cp],.int .i64 0])/\EAt w (lo<=·) a t.body.length (zdu t.body)
theorem zrw {w:World} {B n:Nat} {v:Value} {l:List ByteArray} (hn:n=l.length) (h:w.ownsRow B 9 1 v n (strV l)) (hl:l.length<=1000000) (hf:∀ s ∈ l,s.size<=maxLen) :
 qc 59 #[v] w fun e w'=>e = .returned (.bool (Fx.zgd (Fx.zbi l)))/\qb w w':=by
 subst hn;obtain ⟨a,c,rfl,hS⟩:=ziz h;exact Fx.zf6 a c _ w hS hl hf
theorem zvy (W:World) (cs:Array Value) (t:TypeId) (n i:Nat) (v:Value) (hn:n=W.heap.size) (hv:cs[i]? = some v):(W.alloc (.cells cs t)).cell? (qa n i)=some v:=by
 subst hn;rw [vep (heap_newP _ _)];exact hv
theorem z60 {B b:Nat} {a w:World} (h:Below B a w) (hb:B<=b) (v0 v1 v2:Value):Below B a (((w.setCell (qa b 0) v0).setCell (qa b 1) v1).setCell (qa b 2) v2):=
 ((h.setCell (p:=(qa b 0)) hb _).setCell (p:=(qa b 1)) hb _).setCell (p:=(qa b 2)) hb _
theorem zad.set3 {w w1:World} {A A':Nat->Prop} {b:Nat} (h:zad w A w1 A') (hp:∀ k,k<w.heap.size->A k->k≠b) (v0 v1 v2:Value):zad w A (((w1.setCell (qa b 0) v0).setCell (qa b 1) v1).setCell (qa b 2) v2) A':=
 ((h.set (p:=(qa b 0)) hp v0).set (p:=(qa b 1)) hp v1).set (p:=(qa b 2)) hp v2
theorem ze8 {w:World} {b:Nat} {x0 x1 x2:Value} {t:TypeId} (h:w.heap[b]? = some (.cells #[x0,x1,x2] t (0,0))) :
 w.cell? (qa b 0)=some x0/\w.cell? (qa b 1)=some x1/\w.cell? (qa b 2)=some x2/\∀ i,w.frozen? (qa b i)=false:=by
 refine ⟨?_,?_,?_,fun i=>veq h i⟩<;>(rw [vep h];rfl)
theorem Keeps.below {R B:Nat} {w0 w w':World} (h:Below B w0 w) (hk:Keeps R w w') (hR:B<=R) (hB:B<=w.heap.size):Below B w0 w':=
 h.trans ⟨hk.os,hk.tape,hk.output,hk.size,fun k h1=>hk.block k ae ae⟩
theorem z4a (K:Kn) (kb:Nat) (p:Pr) (q1:OA) (d1:Nat) (q2:OA) (d2:Nat) (q3:OA) (d3:Nat) (w:World) (hK:zm5 w (.map (some kb)) K) (h1:DAt w Tt q1 p.params.length (zak p.params)) (h2:DAt w Tt q2 p.locals.length (zak p.locals)) (h3:DAt w Tt q3 p.body.length (zbs p.body)) (TY:p.params.length<=3) (FV:p.locals.length<=4) (GX:zah 6 p.body=false) :
 qc 120 #[.agg #[.map (some kb)],.agg #[.string p.name,.bool p.pub,.slice q1 p.params.length d1,.slice q2 p.locals.length d2,.slice q3 p.body.length d3]] w fun e w'=>z6z w.heap.size (zl7 K p) e w'/\qb w w':=by
 have HK:=hid hK;have Lu:=hid h3;have TE:=hid (zkw 6 p.body GX)
 have hs:∀ s ∈ p.own,s.size<=maxLen:=fun s hs=>(vce.1 hs).elim ((zdw h1).2 s) ((zdw h2).2 s)
 have LK:p.own.length=p.params.length+p.locals.length:=by unfold Pr.own;rw [vaj]
 have HS:=hid hs;have IU:=hid LK;have LZ:qb w ((((w.alloc (.cells #[.map (some kb)] 189)).alloc (pP p q1 d1 q2 d2 q3 d3)).alloc (kzL 0 0 none 0 0)).alloc (.cells #[.slice q1 p.params.length d1,.slice q2 p.locals.length d2] 22)):=thenB (bl3 w _ _ _) (al1 _ _);have HC:=hid (zxj p.params p.locals q1 d1 q2 d2 (w.heap.size+3) ((((w.alloc (.cells #[.map (some kb)] 189)).alloc (pP p q1 d1 q2 d2 q3 d3)).alloc (kzL 0 0 none 0 0)).alloc (.cells #[.slice q1 p.params.length d1,.slice q2 p.locals.length d2] 22)) aA (zvy _ _ _ _ 0 _ aA rfl) (zvy _ _ _ _ 1 _ aA rfl) ((zdw h1).1.later LZ) ((zdw h2).1.later LZ) ae ae);have Ap:=hid LZ;clear hK h1 h2 h3 GX hs LK LZ
 obtain ⟨r,hr⟩:∃ r,r=zl7 K p:=⟨_,rfl⟩
 rw [← hr];have HR:=hid hr;clear hr;go_enter Tryz.func120,Tryz.ntmps120;go_wp2_with fail;refine HC.out.mono ?_;rintro e w1 ⟨v1,rfl,I4,A6⟩;have A8:=hid (thenB Ap.out A6);have Ao:=A6.size;simp at Ao;obtain ⟨q0,qp,qr⟩:=zpq (thenB (al1 _ _) A6);have P0:=hid q0;have P1:=hid qp;have P2:=hid qr;obtain ⟨x0,x1,x2,x3,x4,xf⟩:=zaa qp;obtain ⟨r0,r1,r2,rf⟩:=ze8 qr
 have k0:w1.cell? (qa w.heap.size 0)=some (.map (some kb)):=by rw [vep q0];rfl
 have Bi:Hid (w1.ownsRow ((((w.alloc (.cells #[.map (some kb)] 189)).alloc (pP p q1 d1 q2 d2 q3 d3)).alloc (kzL 0 0 none 0 0)).alloc (.cells #[.slice q1 p.params.length d1,.slice q2 p.locals.length d2] 22)).heap.size 9 1 v1 (p.params.length+p.locals.length) (strV p.own)):=I4;have Bl:=hid (zrw IU.out.symm Bi.out (by rw [IU.out];omega) HS.out);clear A6 HC I4 q0 qp qr
 cases hd:Fx.zgd (Fx.zbi p.own) with
 | true=>
   have An:Hid (r = .error 6):=HR.out.trans (by unfold zl7;rw [hd];rfl);rw [hd] at Bl;clear hd;go_wp2_with fail;refine Bl.out.mono ?_;rintro e w2 ⟨rfl,Ab⟩;have Ad:=hid (thenB A8.out Ab);have MB:=(Ab.block _ (lt_of_heap P2.out)).trans P2.out;have CA:=lt_of_heap MB;clear r0 r1 r2 rf;obtain ⟨r0,r1,r2,rf⟩:=ze8 MB;clear Ab MB;go_wp2_with fail;refine bodyPost_ret (v:=.tuple #[.agg #[qi 0,qi 0,qs],qi 6]) (by simp [results,Tryz.results120,go_sem,r0,r1,r2,CA]) rfl ⟨by rw [An.out];exact ⟨0,0,none,0,0,rfl,aq⟩,?_⟩;exact z60 Ad.out ae _ _ _
 | false=>
   have An:Hid (r=zdi (zf2 K (zx4 p.own) p.body) fun b=>.ok ⟨p.params.length,p.locals.length,b⟩):=HR.out.trans (by unfold zl7;rw [hd];rfl);rw [hd] at Bl;clear hd HR;go_wp2_with fail;refine Bl.out.mono ?_;rintro e w2 ⟨rfl,Ab⟩;have Ad:=hid (thenB A8.out Ab);have Ay:=Ab.size;have P0':=hid ((Ab.block _ (lt_of_heap P0.out)).trans P0.out);have P1':=hid ((Ab.block _ (lt_of_heap P1.out)).trans P1.out);have P2':=hid ((Ab.block _ (lt_of_heap P2.out)).trans P2.out);have Hn:=hid (Fx.ownsRow_later Bi.out Ab);clear x0 x1 x2 x3 x4 xf r0 r1 r2 rf k0 Bi Bl P0 P1 P2
   have k0:w2.cell? (qa w.heap.size 0)=some (.map (some kb)):=by rw [vep P0'.out];rfl
   have Bt:=lt_of_heap P0'.out;have CJ:=lt_of_heap P1'.out;have Ch:=lt_of_heap P2'.out;obtain ⟨av,cv,rfl,hSt⟩:=ziz (l:=p.own) (by rw [IU.out];exact Hn.out);have Fv:=hid hSt;have I6:=@run_makeMap Tryz.prog;have L7:=hid ((zl6.made w2).later (al1 _ (.cells #[.map (some kb),.map (some w2.heap.size)] 195)));clear Ab hSt Hn;rw [IU.out];go_wp2_with fail
   go_loopw [8,9,26] (fun _ _ i wr=>∃ j:Nat,j<=p.params.length+p.locals.length/\i=qi j/\zl6 wr w2.heap.size j (zx4 (p.own.take j))/\Keeps w2.heap.size ((w2.alloc (.map #[] 0)).alloc (.cells #[.map (some kb),.map (some w2.heap.size)] 195)) wr) (fun _ _ i _=>p.params.length+p.locals.length - (intOf i).toNat)
   case atStart=>exact ⟨0,vaf _,rfl,L7.out,Keeps.refl _ _⟩
   case round=>
    clear L7 I6 k0;obtain ⟨j,hj,rfl,LM,Be⟩:=hrel;have Qt:=hid LM;have HE:=hid Be;have C1:=Be.size;simp at C1;have b0:wr.heap[w2.heap.size+1]? = some (.cells #[.map (some kb),.map (some w2.heap.size)] 195):=(Be.block _ aA ae).trans (by simpa using heap_newP (w2.alloc (.map #[] 0)) (.cells #[.map (some kb),.map (some w2.heap.size)] 195));have UX:=hid b0;obtain ⟨y0,y1,yf⟩:=zcr b0;have TR:=lt_of_heap b0;clear LM Be b0
    by_cases I9:j<p.params.length+p.locals.length
    . have A0:j<p.own.length:=by rw [IU.out];exact I9
      obtain ⟨b,off,rfl,Av,c0⟩:=Fv.out.place A0;have d0:=(HE.out.cell (off:=off+j) aF ae).trans (((bl2 w2 (.map #[] 0) (.cells #[.map (some kb),.map (some w2.heap.size)] 195)).cell (p:=⟨b,off+j,none⟩) Av).trans c0)
      have S2:b<wr.heap.size:=ae
      have B4:=HS.out p.own[j] (vah _)
      have C3:Hid (z6y (zx4 (p.own.take j)) p.own[j] j=zx4 (p.own.take (j+1))):=by
       show _=zx4 (p.own.take (j+1));rw [vag A0,z0y,vbg,vdv ae]
      generalize p.own[j]=s at *
      have PF:j<=1000:=by have:=IU.out;omega
      obtain ⟨w5,hrun,hL5,hg5⟩:=Qt.out.put aP s B4 j (WalkArith.wf_i64 ae);rw [C3.out] at hL5;have Td:=hid hL5;have OH:=hid (HE.out.grown hg5);clear hL5 hg5 c0 B4;go_wp2_with fail;go_roundw
      case rel=>exact ⟨j+1,ae,aR,Td.out,OH.out⟩
      case measure=>simp [intOf];omega
    . obtain rfl:j=p.params.length+p.locals.length:=by omega
      have Tb:Hid (zl6 wr w2.heap.size (p.params.length+p.locals.length) (zx4 p.own)):=by have:=Qt.out;rw [vav (by rw [IU.out];exact vaa _)] at this;exact this
      have Cm:Hid (qb w wr):=Keeps.below (thenB Ad.out (bl2 _ _ _)) HE.out (by have:=Ad.out.size;omega) (by have:=Ad.out.size;simp;omega);have Te:=hid (HK.out.later Cm.out);have C5:=hid (TE.out K (zx4 p.own) (.map (some kb)) (.map (some w2.heap.size)) Tt q3 d3 wr Te.out Tb.out.names (Lu.out.later Cm.out));have e1:wr.heap[w.heap.size+1]? = some (pP p q1 d1 q2 d2 q3 d3):=(HE.out.block _ aF ae).trans (zab (zab P1'.out));have e2:wr.heap[w.heap.size+2]? = some (kzL 0 0 none 0 0):=(HE.out.block _ aF ae).trans (zab (zab P2'.out));have C0:=hid e1;have BE:=hid e2;obtain ⟨x0,x1,x2,x3,x4,xf⟩:=zaa e1;have N5:=lt_of_heap e1;have N4:=lt_of_heap e2;clear e1 e2;go_wp2_with fail;refine C5.out.mono ?_;rintro e w6 ⟨Am,AK⟩;have Co:=hid (thenB Cm.out AK);have Hw:=AK.size
      have f1:=(AK.block _ N5).trans C0.out;have f2:=(AK.block _ N4).trans BE.out;have RA:=lt_of_heap f1;have Ke:=lt_of_heap f2;clear x0 x1 x2 x3 x4 xf y0 y1 yf;obtain ⟨x0,x1,x2,x3,x4,xf⟩:=zaa f1;obtain ⟨r0,r1,r2,rf⟩:=ze8 f2;clear AK f1 f2
      cases hr:zf2 K (zx4 p.own) p.body with
      | error c=>
        rw [hr] at Am;obtain ⟨rfl,Ai⟩:=Am;have Aq:Hid (r = .error c):=An.out.trans (by rw [hr];rfl);clear hr;go_wp2_with fail;refine bodyPost_ret (v:=.tuple #[.agg #[qi p.params.length,qi p.locals.length,qs],qi c]) (by simp [results,Tryz.results120,go_sem,r0,r1,r2,Ke]) rfl ⟨by rw [Aq.out];exact ⟨_,_,_,_,_,rfl,Ai⟩,?_⟩;exact z60 Co.out ae _ _ _
      | ok bd=>
        rw [hr] at Am;obtain ⟨ab,cb,rfl,heb⟩:=Am;have Aq:Hid (r = .ok ⟨p.params.length,p.locals.length,bd⟩):=An.out.trans (by rw [hr];rfl);have Tp:=hid heb;clear hr heb;go_wp2_with fail;refine bodyPost_ret (v:=.tuple #[.agg #[qi p.params.length,qi p.locals.length,.slice ab bd.length cb],qi 0]) (by simp [results,Tryz.results120,go_sem,r0,r1,r2,Ke]) rfl ⟨by rw [Aq.out];exact ⟨ab,cb,rfl,(Tp.out.moves ((zad.refl w6 _).set3 (by intro k _ hk;have:wr.heap.size<=k:=hk;omega) _ _ _)).moves ⟨vaa _,fun b _ h=>⟨by have:wr.heap.size<=b:=h;show w.heap.size<=b;omega,rfl⟩⟩⟩,z60 Co.out ae _ _ _⟩
set_option maxHeartbeats 1600000
abbrev Fc:=Fx.Fc
def fcD (f:Fc):List D:=[.str f.name,.list f.items.length (zg8 f.items)]
def z61 (l:List Fc):List D:=l.flatMap fcD
def z62 (m:Mo):Kn:=zjl (fun _ _=>none) ⟨#[]⟩ 0 (za8 m)
def zi1 (K:Kn) (l:List Fc):Kn:=l.zipIdx.foldl (fun K p=>zjl K p.1.name ((p.2:Int)+1) p.1.items) K
theorem ztz (K:Kn) (l:List Fc) (f:Fc):zi1 K (l++[f])=zjl (zi1 K l) f.name ((l.length:Int)+1) f.items:=by
 unfold zi1;rw [List.zipIdx_append,vbo];simp
def zel (m:Mo) (l:List Fc):Kn:=zi1 (z62 m) l
def zcg (K:Kn):List Pr->Except Int (List Pt)
 | []=>.ok []
 | p :: r=>zdi (zl7 K p) fun t=>zdi (zcg K r) fun l=>.ok (t :: l)
def zkg (m:Mo) (l:List Fc):Except Int Un:=zdi (zcg (zel m l) m.procs) fun ps=>zdi (zf2 (zel m l) (fun _=>none) m.main) fun b=>.ok ⟨m.name,m.uses,zb8 m,ps,b⟩
theorem zjm (K:Kn):∀ (a b:List Pr) (A5:List Pt),zcg K a = .ok A5->zcg K (a++b)=zdi (zcg K b) fun l=>.ok (A5++l)
 | [],b,A5,h=>by
   obtain rfl:=vdf h;show zcg K b=_;exact (zpg _).symm
 | x :: a,b,A5,h=>by
   rw [zcg] at h;show zcg K (x :: (a++b))=_;rw [zcg]
   cases hx:zl7 K x with
   | error e=>rw [hx] at h;cases h
   | ok y=>
     rw [hx] at h;simp only [zdi] at h ⊢
     cases ha:zcg K a with
     | error e=>rw [ha] at h;cases h
     | ok l=>
       rw [ha] at h;obtain rfl:=vdf h;rw [zjm K a b l ha]
       cases zcg K b<;>rfl
theorem zxl {K:Kn} {l:List Pr} {j:Nat} {A5:List Pt} {e:Int} (h:j<l.length) (ha:zcg K (l.take j) = .ok A5) (he:zl7 K l[j] = .error e):zcg K l = .error e:=by
 rw [zpj l j h,zjm K _ _ A5 ha,zcg,he];rfl
theorem zt0 {K:Kn} {l:List Pr} {j:Nat} {A5:List Pt} {y:Pt} (h:j<l.length) (ha:zcg K (l.take j) = .ok A5) (he:zl7 K l[j] = .ok y):zcg K (l.take (j+1)) = .ok (A5++[y]):=by
 rw [vag h,zjm K _ _ A5 ha,zcg,he];rfl
theorem zxm {m:Mo} {l:List Fc} {c:Int} (h:zcg (zel m l) m.procs = .error c):zkg m l = .error c:=by unfold zkg;rw [h];rfl
theorem z0z {m:Mo} {l:List Fc} {c:Int} {ps:List Pt} (h:zcg (zel m l) m.procs = .ok ps) (h2:zf2 (zel m l) (fun _=>none) m.main = .error c):zkg m l = .error c:=by unfold zkg;rw [h,h2];rfl
theorem z63 {m:Mo} {l:List Fc} {ps:List Pt} {b:List Ac} (h:zcg (zel m l) m.procs = .ok ps) (h2:zf2 (zel m l) (fun _=>none) m.main = .ok b):zkg m l = .ok ⟨m.name,m.uses,zb8 m,ps,b⟩:=by unfold zkg;rw [h,h2];rfl
def z00 (lo:Nat) (r:Except Int Un) (e:Ending) (w:World):Prop:=
 match r with
 | .error c=>e = .returned (.tuple #[.agg #[.string ⟨#[]⟩,.slice none 0 0,.int .i64 0,.slice none 0 0,.slice none 0 0],.int .i64 c])/\c≠0
 | .ok u=>∃ x1 y1 x2 y2 x3 y3,e = .returned (.tuple #[.agg #[.string u.name,.slice x1 u.uses.length y1,.int .i64 u.data,.slice x2 u.parts.length y2,.slice x3 u.main.length y3],.int .i64 0])/\
   EAt w (lo<=·) x1 u.uses.length (zak u.uses)/\EAt w (lo<=·) x2 u.parts.length (zlu u.parts)/\EAt w (lo<=·) x3 u.main.length (zdu u.main)
theorem DAt.fc {w:World} {A:Nat->Prop} {a:OA} {l:List Fc} (h:DAt w A a l.length (z61 l)) (i:Nat) (hi:i<l.length):∃ b off ai ci,a=some (qa b off)/\b<w.heap.size/\w.cell? ⟨b,off+i*2,none⟩=some (.string l[i].name)/\w.cell? ⟨b,off+i*2+1,none⟩=some (.slice ai l[i].items.length ci)/\l[i].name.size<=maxLen/\DAt w A ai l[i].items.length (zg8 l[i].items):=by
 obtain ⟨b,off,ha,hb,hc⟩:=h.cell ae;generalize hx:l[i]=x;obtain ⟨name,items⟩:=x
 have g:∀ j d,j<2->(fcD ⟨name,items⟩)[j]? = some d->∃ v,w.cell? ⟨b,off+i*2+j,none⟩=some v/\zdg w A d v:=fun j d hj hd=>by
  rw [vbn];exact hc (i*2+j) d ((zcp fcD 2 (fun _=>rfl) l i hi j hj).trans bJ)
 obtain ⟨v0,k0,d0⟩:=g 0 (.str name) ae rfl;obtain ⟨v1,k1,d1⟩:=g 1 (.list items.length (zg8 items)) ae rfl;obtain ⟨rfl,w0⟩:=zdh d0;obtain ⟨ai,ci,rfl,h1⟩:=za1 d1;exact ⟨b,off,ai,ci,ha,hb,k0,k1,w0,h1⟩
theorem zl8 {w:World} {A:Nat->Prop} {a:OA} {l:List It} (h:DAt w A a l.length (zg8 l)):Fx.zcy w a l/\Fx.AllFit l:=by
 rcases h.2.2 with h | ⟨b,off,cs,ha,_,hb,hc,hx⟩
 . exact jw
 . have g:∀ i (hi:i<l.length) j d,j<4->(itD l[i])[j]? = some d->∃ v,w.cell? ⟨b,off+i*4+j,none⟩=some v/\zdg w A d v:=fun i hi j d hj hd=>by
    exact iD
   refine ⟨Or.inr ⟨b,off,ha,hb,fun i hi=>?_,fun i hi=>?_,fun i hi=>?_,fun i hi=>?_⟩,fun x BI=>?_⟩
   . obtain ⟨v,hv,hd⟩:=g i hi 0 (.int l[i].kind) ae rfl
     exact jD
   . obtain ⟨v,hv,hd⟩:=g i hi 1 (.int l[i].n) ae rfl
     exact jD
   . obtain ⟨v,hv,hd⟩:=g i hi 2 (.int l[i].at_) ae rfl
     exact jD
   . obtain ⟨v,hv,hd⟩:=g i hi 3 (.str l[i].name) ae rfl
     rw [(zdh hd).1] at hv;exact hv
   . obtain ⟨i,hi,rfl⟩:=vba BI
     obtain ⟨v,hv,hd⟩:=g i hi 3 (.str l[i].name) ae rfl;exact (zdh hd).2
theorem zl9 {w:World} {a:OA} {l:List It} (h:Fx.zcy w a l) {R:Nat} (hR:w.heap.size<=R):∀ b' off,l≠[]->a=some (qa b' off)->b'≠R:=by
 intro b' off hl e
 rcases h with h | ⟨b,o,e2,h⟩
 . exact absurd h hl
 . rw [e] at e2
   have:=vab e2
   injection this with e3 _
   have:=h.lt;omega
theorem Keeps.items {R:Nat} {w w':World} {a:OA} {l:List It} (h:Fx.zcy w a l) (hk:Keeps R w w') (hR:∀ b' off,l≠[]->a=some (qa b' off)->b'≠R):Fx.zcy w' a l:=by
 rcases h with h | ⟨b,o,e,h⟩
 . exact Or.inl h
 . by_cases hl:l=[]
   . exact Or.inl hl
   . have Ai:=hR b o hl e
     exact Or.inr ⟨b,o,e,vai h.lt hk.size,fun i hi=>(hk.cell h.lt Ai).trans (h.kind i hi),fun i hi=>(hk.cell h.lt Ai).trans (h.num i hi),fun i hi=>(hk.cell h.lt Ai).trans (h.at_ i hi),fun i hi=>(hk.cell h.lt Ai).trans (h.name i hi)⟩
end Go.Proofs.YtndkhgakfodldaaGreatDoor
