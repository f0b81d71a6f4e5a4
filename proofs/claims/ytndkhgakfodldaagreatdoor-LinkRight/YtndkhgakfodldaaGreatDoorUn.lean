import Derived.Test.YtndkhgakfodldaaGreatDoorUi
import Derived.Lib.AppendZeros
namespace Go.Proofs.YtndkhgakfodldaaGreatDoor
set_option maxRecDepth 100000
set_option maxHeartbeats 1600000
open Go.RowKit Go.Maps Go.WideMaps
set_option linter.unusedSimpArgs false
def strV (l:List ByteArray):List Value:=l.map Value.string
theorem ztb (a b:List ByteArray):strV (a++b)=strV a++strV b:=vbr ..
theorem zvc (l:List ByteArray):(strV l).length=l.length:=vcp ..
theorem z27 (l:List ByteArray):∀ u ∈ strV l,u.oneCell'=true:=fun u hu=>by
 obtain ⟨s,_,rfl⟩:=vch.1 hu
 rfl
theorem zh7 {P:Program} {w:World} (base:Nat) (t ty e:TypeId) (i:TypeInfo) (size c:Nat) (ht:P.underlying t=some (.slice e)) (hi:P.info? e=some i)
 (v:Value) (n:Nat) (xs:List Value) (Ag:w.ownsRow base e size v n xs) :
 (Builtin.append_ #[t,t] ty #[v,.slice none 0 c]).run P w = .ok v w:=by
 rcases Ag.2 with ⟨rfl,rfl⟩ | ⟨g,cap,AC,rfl,_,_,hnc,_⟩
 . simp [Builtin.append_,run_underlying ht,Go.sizeOf,typeInfo,hi,Builtin.lenOf,Builtin.firstCells]
 . simp [Builtin.append_,run_underlying ht,Go.sizeOf,typeInfo,hi,Builtin.lenOf,Builtin.firstCells,hnc,storeCells]
theorem zdb {w:World} (base:Nat) (ty:TypeId) (v:Value) (n:Nat) (xs:List Value) (Ag:w.ownsRow base 9 1 v n xs) (us:List ByteArray) (b:OA) (c:Nat) (hS:Fx.zfe w b us) (Ah:n+us.length<=10000) (AO:base<=w.heap.size) :
 ∃ v' w',(Builtin.append_ #[22,22] ty #[v,.slice b us.length c]).run Tryz.prog w = .ok v' w'/\w'.ownsRow base 9 1 v' (n+us.length) (xs++strV us)/\w.grownBy w' v.ownBlock:=by
 obtain ⟨i0,hi,Bq,An,AA⟩:=info_parts Tryz.infoP9
 have go:∀ ad:Addr,b=some ad->(∀ j u,(strV us)[j]? = some u->w.cell? (ad.add j)=some u)->∃ v' w',(Builtin.append_ #[22,22] ty #[v,.slice b us.length c]).run Tryz.prog w = .ok v' w'/\w'.ownsRow base 9 1 v' (n+us.length) (xs++strV us)/\w.grownBy w' v.ownBlock:=by
  rintro ad rfl hn;obtain ⟨v',w',h1,h2,h3,_⟩:=run_append_own (P:=Tryz.prog) (w:=w) base 22 ty 9 i0 _ 1 16 Tryz.underlying22 hi Bq An AA rfl (by decide) v n xs Ag ad us.length c (strV us) (by rw [zvc,Nat.mul_one]) hn (z27 us) (by unfold maxLen;omega) (by omega) AO;exact ⟨v',w',h1,h2,h3⟩
 rcases hS with rfl | ⟨b1,off,rfl,A6,h⟩
 . cases b with
   | none=>exact ⟨v,w,zh7 base _ ty _ i0 1 c Tryz.underlying22 hi v n xs Ag,by simpa [strV] using Ag,⟨rfl,rfl,rfl,vaa _,fun _ _ _=>rfl⟩⟩
   | some ad=>exact go ad rfl (fun j u hj=>by simp [strV] at hj)
 . refine go _ rfl (fun j u hj=>?_)
   have Oj:j<us.length:=by
    rcases vbg j us.length with h' | h'
    . exact h'
    . rw [vbq (by rw [zvc];exact h')] at hj;cases hj
   have e:((qa b1 off):Addr).add j=⟨b1,off+j,none⟩:=by unfold Addr.add;split<;>simp_all
   rw [e,h j Oj];simp [strV,Oj] at hj;rw [hj]
theorem z28 (n:Nat) (w:World) (hn:n<=10000) :
 qc 204 #[qs,qi n] w fun e w'=>∃ v,e = .returned v/\w'.ownsRow w.heap.size 9 1 v 0 []/\qb w w':=by
 obtain ⟨i0,hi,Bq,An,AA⟩:=info_parts Tryz.infoP9
 have hw:IntKind.i64.wrap (n:Int)=n:=by simp only [IntKind.wrap,IntKind.bits,IntKind.signed];simp;omega
 by_cases h0:n=0
 . subst h0
   go_enter Tryz.func204,Tryz.ntmps204;go_wp2_with fail;go_ret;exact ⟨_,rfl,vek _ _ _ _,Below.refl _ _⟩
 . have hr:=fun ty=>Lib.run_append_nil_zeros (P:=Tryz.prog) w 22 3 ty 9 i0 _ .i64 .i64 Tryz.underlying22 Tryz.underlying3 hi Bq n (by omega) (by omega) (by omega) (by rw [AA];omega)
   have FO:=grownCap_ge w n 0 9
   have JV:Hid ((w.drew.alloc (.cells (Builtin.zeroCells (Value.string ⟨#[]⟩).cells n++Builtin.zeroCells (Value.string ⟨#[]⟩).cells (grownCap w n 0 9 - n)) 9)).ownsRow w.heap.size 9 1 (.slice (some (qa w.heap.size 0)) 0 (grownCap w n 0 9)) 0 []):=by
    refine ⟨rfl,Or.inr ⟨w.heap.size,_,_,rfl,vaa _,heap_alloc_new w.drew _,vag _,grownCap_le_maxLen w n 0 _ (by unfold maxLen;omega),?_,by simp⟩⟩;rw [Array.size_append,size_zeroCells,size_zeroCells];show n*1+(grownCap w n 0 9 - n)*1=_;omega
   have BT:Hid (qb w (w.drew.alloc (.cells (Builtin.zeroCells (Value.string ⟨#[]⟩).cells n++Builtin.zeroCells (Value.string ⟨#[]⟩).cells (grownCap w n 0 9 - n)) 9))):=((Below.refl w.heap.size w).drew).alloc (vaa _) _
   have FI:(0:Int)<n:=by omega
   generalize (w.drew.alloc (.cells (Builtin.zeroCells (Value.string ⟨#[]⟩).cells n++Builtin.zeroCells (Value.string ⟨#[]⟩).cells (grownCap w n 0 9 - n)) 9))=w2 at *;generalize grownCap w n 0 9=cp at *
   have DU:(n:Int)<=cp:=by omega
   go_enter Tryz.func204,Tryz.ntmps204
   go_wp2_with (at_builtin;refine Lib.wpList_append_run _ rfl (.tmp 20) (.tmp 21) 22 3 rfl _ _ rfl rfl _ _ (hr _) ?_)
   go_ret;exact ⟨_,rfl,JV.out,BT.out⟩
set_option maxHeartbeats 3200000
theorem zwu (x y:List ByteArray) (a1:OA) (c1:Nat) (a2:OA) (c2 b:Nat) (w:World) (hb:b<w.heap.size) (h0:w.cell? (qa b 0)=some (.slice a1 x.length c1)) (h1:w.cell? (qa b 1)=some (.slice a2 y.length c2))
 (hx:Fx.zfe w a1 x) (hy:Fx.zfe w a2 y) (GO:x.length<=1000) (Is:y.length<=1000) :
 qc 161 #[.slice (some (qa b 0)) 2 2] w fun e w'=>∃ v,e = .returned v/\w'.ownsRow w.heap.size 9 1 v (x.length+y.length) (strV (x++y))/\qb w w':=by
 have HX:=hid hx;have HY:=hid hy;have H0:=hid h0;have H1:=hid h1;clear hx hy
 have CK:IntKind.i64.wrap (x.length:Int)=x.length:=by simp only [IntKind.wrap,IntKind.bits,IntKind.signed];simp;omega
 have BJ:IntKind.i64.wrap ((x.length:Int)+(y.length:Int))=((x.length+y.length:Nat):Int):=by simp only [IntKind.wrap,IntKind.bits,IntKind.signed];simp;omega
 have EE:(0:Int)<=x.length:=by omega
 have AB:(0:Int)<=((x.length+y.length:Nat):Int):=by omega
 have HG:=hid (z28 (x.length+y.length) w (by omega));go_enter Tryz.func161,Tryz.ntmps161;go_wp2_with fail
 go_loopw [3,5,11] (fun s _ i wr=>∃ j:Nat,j<=2/\i=qi j/\s=qi (if j=0 then 0 else if j=1 then (x.length:Int) else ((x.length+y.length:Nat):Int))/\w=wr) (fun _ _ i _=>2 - (intOf i).toNat)
 case atStart=>exact ⟨0,by omega,rfl,rfl,rfl⟩
 case round=>
  obtain ⟨j,hj,rfl,rfl,rfl⟩:=hrel
  obtain rfl | rfl | rfl:j=0\/j=1\/j=2:=by omega
  . go_wp2_with fail
    go_roundw
    case rel=>exact ⟨1,by omega,rfl,rfl,trivial⟩
    case measure=>simp [intOf]
  . go_wp2_with fail
    go_roundw
    case rel=>exact ⟨2,by omega,rfl,rfl,trivial⟩
    case measure=>simp [intOf]
  . go_wp2_with fail
    refine HG.out.mono ?_;rintro e w1 ⟨v1,rfl,GL,A6⟩;have Bi:=hid GL;have A7:=hid A6;have An:=A6.size;clear GL A6 HG h0 h1;go_wp2_with fail
    go_loopw [6,8,27] (fun v _ i wr=>∃ j:Nat,j<=2/\i=qi j/\wr.ownsRow w.heap.size 9 1 v (if j=0 then 0 else if j=1 then x.length else x.length+y.length) (if j=0 then [] else if j=1 then strV x else strV (x++y))/\qb w wr) (fun _ _ i _=>2 - (intOf i).toNat)
    case atStart=>exact ⟨0,by omega,rfl,Bi.out,A7.out⟩
    case round=>
     clear Bi A7 An;obtain ⟨j,hj,rfl,ho,Ea⟩:=hrel;have HB:=hid Ea;have C9:=Ea.size;have AY:b<wr.heap.size:=vah hb C9;have k0:=(Ea.cell (p:=(qa b 0)) hb).trans H0.out;have k1:=(Ea.cell (p:=(qa b 1)) hb).trans H1.out;clear Ea
     obtain rfl | rfl | rfl:j=0\/j=1\/j=2:=by omega
     . have Ep:wr.ownsRow w.heap.size 9 1 u6 0 []:=ho
       obtain ⟨v',w',hr,h2,h3⟩:=zdb w.heap.size 22 u6 0 [] Ep x a1 c1 (HX.out.later HB.out) (by omega) C9;have Gv:Hid (w'.ownsRow w.heap.size 9 1 v' x.length (strV x)):=hid (by simpa using h2);have Af:=hid (HB.out.grown h3 C9 (fun k hk=>(Ep.lt k hk).1));clear ho Ep h2 h3
       go_wp2_with (at_builtin;refine Lib.wpList_append_run _ rfl (.tmp 31) (.tmp 32) 22 22 rfl _ _ rfl rfl _ _ hr ?_)
       go_roundw
       case rel=>exact ⟨1,by omega,rfl,Gv.out,Af.out⟩
       case measure=>simp [intOf]
     . have Ep:wr.ownsRow w.heap.size 9 1 u6 x.length (strV x):=ho
       obtain ⟨v',w',hr,h2,h3⟩:=zdb w.heap.size 22 u6 x.length (strV x) Ep y a2 c2 (HY.out.later HB.out) (by omega) C9
       have Gv:Hid (w'.ownsRow w.heap.size 9 1 v' (x.length+y.length) (strV (x++y))):=by rw [ztb];exact h2
       have Af:=hid (HB.out.grown h3 C9 (fun k hk=>(Ep.lt k hk).1));clear ho Ep h2 h3
       go_wp2_with (at_builtin;refine Lib.wpList_append_run _ rfl (.tmp 31) (.tmp 32) 22 22 rfl _ _ rfl rfl _ _ hr ?_)
       go_roundw
       case rel=>exact ⟨2,by omega,rfl,Gv.out,Af.out⟩
       case measure=>simp [intOf]
     . have Gv:Hid (wr.ownsRow w.heap.size 9 1 u6 (x.length+y.length) (strV (x++y))):=ho
       clear ho;go_wp2_with fail;go_ret;exact ⟨_,rfl,Gv.out,HB.out⟩
theorem zj4 {w:World} {B:Nat} {v:Value} {l:List ByteArray} (h:w.ownsRow B 9 1 v l.length (strV l)):∃ a cap,v = .slice a l.length cap/\Fx.zfe w a l:=by
 rcases h.2 with ⟨hv,h0⟩ | ⟨g,cap,AC,hv,hB,hg,_⟩
 . have hl:l=[]:=vak h0
   exact ⟨none,0,by rw [hv,hl];rfl,Or.inl hl⟩
 . refine ⟨_,cap,hv,Or.inr ⟨g,0,rfl,lt_of_heap hg,fun i hi=>?_⟩⟩
   have:=h.cells (g:=g) (by rw [hv];rfl) i (.string l[i]) (by simp [strV,hi]);rw [show ((qa g 0):Addr).add i=(qa g i) from by unfold Addr.add;split<;>simp_all] at this;rw [vba];exact this
theorem keyedStr:Keyed Tryz.prog 9:=string_keyed Tryz.underlying9
theorem zeroInt (w:World):(zeroValue 3).run Tryz.prog w = .ok (qi 0) w:=by kernel_rfl
def z5x (L:Lc) (s:ByteArray) (i:Int):Lc:=fun a=>if a=s then some i else L a
def z8k (D:DataW Unit) (L:Lc):Prop:=∀ a:ByteArray,has D (.string a.data.toList)=(L a).isSome/\D.atKey (.string a.data.toList) (.lit (.int .i64 0)) = .lit (.int .i64 ((L a).getD 0))
theorem zli {a b:ByteArray} (h:a.data.toList=b.data.toList):a=b:=by
 cases a;cases b;simp at h;rw [h]
theorem z8k.put {D:DataW Unit} {L:Lc} (h:z8k D L) (hD:IsMap D) (s:ByteArray) (i:Int):z8k (D.put (.string s.data.toList) (.lit (.int .i64 i))) (z5x L s i):=by
 intro a
 by_cases e:a=s
 . subst e
   simp only [z5x,if_true];exact ⟨has_put_same (k:=.string a.data.toList) hD trivial _,atKey_put_same (k:=.string a.data.toList) hD trivial _ _⟩
 . have Ak:Lit.string a.data.toList≠.string s.data.toList:=fun h=>e (zli (by injection h))
   simp only [z5x,if_neg e];rw [has_put_other Ak,atKey_put_other Ak];exact h a
def zlj (w:World) (b n:Nat) (L:Lc):Prop:=∃ D:DataW Unit,w.ownsMap Tryz.prog 9 (plainElem Tryz.prog 3) b n D/\z8k D L
theorem zlj.lt {w:World} {b n:Nat} {L:Lc} (h:zlj w b n L):b<w.heap.size:=by obtain ⟨D,h1,_⟩:=h;exact h1.lt
theorem zlj.later {w w':World} {b n:Nat} {L:Lc} (h:zlj w b n L) (hb:qb w w'):zlj w' b n L:=by
 have A4:=h.lt;obtain ⟨D,h1,h2⟩:=h;obtain ⟨es,clock,AY,r⟩:=h1;exact ⟨D,⟨es,clock,(hb.block b A4).trans AY,r⟩,h2⟩
theorem zlj.made (w:World):zlj (w.alloc (.map #[] 0)) w.heap.size 0 (fun _=>none):=⟨.map [],vel w _ _ _,fun _=>⟨rfl,rfl⟩⟩
theorem zlj.names {w:World} {b n:Nat} {L:Lc} (h:zlj w b n L):zno w (.map (some b)) L:=by
 intro w' hb s hs;obtain ⟨D,k1,k2⟩:=h.later hb;obtain ⟨v,ps,hrun,hv⟩:=k1.look_ok keyedStr Tryz.underlying185 (zeroInt w') (zd:=.lit (.int .i64 0)) (zp:=[]) (plainElem_int Tryz.underlying3 (by decide)) (keyOf_string_mk Tryz.underlying9 hs);obtain ⟨c,rfl,hc,_⟩:=plainElem_int_inv Tryz.underlying3 hv;simp only [vcz] at hc;have hc:=hc.1;rw [(k2 s).2] at hc
 injection hc with hc
 injection hc with _ hc
 rw [hrun,← hc,(k2 s).1]
theorem zwv (w:World):zno w (.map none) (fun _=>none):=by
 intro w' hb s hs;rw [look_nil true keyedStr Tryz.underlying185 (zeroInt w') (keyOf_string_mk Tryz.underlying9 hs)]
 rfl
theorem zlj.put {w:World} {b n:Nat} {L:Lc} (h:zlj w b n L) (hn:n<maxLen) (s:ByteArray) (hs:s.size<=maxLen) (i:Int) (hi:(Lit.int .i64 i).wf=true) :
 ∃ w',(Instr.mapUpdate 185 (.map (some b)) (.string s) (qi i)).run Tryz.prog w = .ok () w'/\zlj w' b (n+1) (z5x L s i)/\w.grownBy w' (some b):=by
 obtain ⟨D,k1,k2⟩:=h;obtain ⟨w',r1,r2,r3⟩:=k1.update keyedStr Tryz.underlying185 hn (keyOf_string_mk Tryz.underlying9 hs) (plainElem_int (a:=i) Tryz.underlying3 hi);exact ⟨w',r1,⟨_,r2,k2.put k1.isMap s i⟩,r3⟩
def zxc (l:List ByteArray):Lc:=l.zipIdx.foldl (fun f p=>z5x f p.1 (p.2:Int)) (fun _=>none)
theorem zz6 (l:List ByteArray) (s:ByteArray):zxc (l++[s])=z5x (zxc l) s l.length:=by
 unfold zxc;rw [List.zipIdx_append,vbk];simp
set_option linter.unusedVariables false
theorem zlj.look {w:World} {b n:Nat} {L:Lc} (h:zlj w b n L) (s:ByteArray) (hs:s.size<=maxLen) :
 (Instr.lookup 185 (.map (some b)) (.string s) false).run Tryz.prog w = .ok (qi ((L s).getD 0)) w:=by
 obtain ⟨D,k1,k2⟩:=h;obtain ⟨c,hrun,AH,_⟩:=k1.lookup_int keyedStr Tryz.underlying185 Tryz.underlying3 (zeroInt w) (keyOf_string_mk Tryz.underlying9 hs);rw [(k2 s).2] at AH
 injection AH with AH
 injection AH with _ AH
 rw [hrun,AH]
set_option maxHeartbeats 6400000
theorem UnAt.uv {w:World} {b o:Nat} {x:Un} {a1:OA} {k1:Nat} {a2:OA} {k2:Nat} {a3:OA} {k3:Nat} (h:UnAt w Tt b o x a1 k1 a2 k2 a3 k3):UvAt w x a1 k1 a2 k2 a3 k3:=⟨h.w0,h.uses',h.w2,h.parts',h.main'⟩
set_option maxHeartbeats 8000000
abbrev pP (p:Pr) (a:OA) (b:Nat) (c:OA) (e:Nat) (f:OA) (g:Nat):Obj:=kzK p.name p.pub a p.params.length b c p.locals.length e f p.body.length g
def Pr.own (p:Pr):List ByteArray:=p.params++p.locals
def zlk (K:Kn) (p:Pr):Except Int Pt:=if Fx.zpu (Fx.ze3 p.own) then .error 6 else zc9 (zfo K (zxc p.own) p.body) fun b=>.ok ⟨p.params.length,p.locals.length,b⟩
def z5y (lo:Nat) (r:Except Int Pt) (e:Ending) (w:World):Prop:=
 match r with
 | .error c=>∃ x y a k cp,e = .returned (.tuple #[.agg #[.int .i64 x,.int .i64 y,.slice a k cp],.int .i64 c])/\c≠0
 | .ok t=>∃ a cp,e = .returned (.tuple #[.agg #[.int .i64 t.params,.int .i64 t.locals,.slice a t.body.length cp],.int .i64 0])/\EAt w (lo<=·) a t.body.length (zdm t.body)
theorem zrd {w:World} {B n:Nat} {v:Value} {l:List ByteArray} (hn:n=l.length) (h:w.ownsRow B 9 1 v n (strV l)) (hl:l.length<=1000000) (hf:∀ s ∈ l,s.size<=maxLen) :
 qc 59 #[v] w fun e w'=>e = .returned (.bool (Fx.zpu (Fx.ze3 l)))/\qb w w':=by
 subst hn;obtain ⟨a,c,rfl,hS⟩:=zj4 h;exact Fx.zfq a c _ w hS hl hf
theorem zvd (W:World) (cs:Array Value) (t:TypeId) (n i:Nat) (v:Value) (hn:n=W.heap.size) (hv:cs[i]? = some v):(W.alloc (.cells cs t)).cell? (qa n i)=some v:=by
 subst hn;rw [vef (heap_newP _ _)];exact hv
theorem z5z {B b:Nat} {a w:World} (h:Below B a w) (hb:B<=b) (v0 v1 v2:Value):Below B a (((w.setCell (qa b 0) v0).setCell (qa b 1) v1).setCell (qa b 2) v2):=
 ((h.setCell (p:=(qa b 0)) hb _).setCell (p:=(qa b 1)) hb _).setCell (p:=(qa b 2)) hb _
theorem zad.set3 {w w1:World} {A A':Nat->Prop} {b:Nat} (h:zad w A w1 A') (hp:∀ k,k<w.heap.size->A k->k≠b) (v0 v1 v2:Value):zad w A (((w1.setCell (qa b 0) v0).setCell (qa b 1) v1).setCell (qa b 2) v2) A':=
 ((h.set (p:=(qa b 0)) hp v0).set (p:=(qa b 1)) hp v1).set (p:=(qa b 2)) hp v2
theorem zev {w:World} {b:Nat} {x0 x1 x2:Value} {t:TypeId} (h:w.heap[b]? = some (.cells #[x0,x1,x2] t (0,0))) :
 w.cell? (qa b 0)=some x0/\w.cell? (qa b 1)=some x1/\w.cell? (qa b 2)=some x2/\∀ i,w.frozen? (qa b i)=false:=by
 refine ⟨?_,?_,?_,fun i=>veg h i⟩<;>(rw [vef h];rfl)
theorem Keeps.below {R B:Nat} {w0 w w':World} (h:Below B w0 w) (hk:Keeps R w w') (hR:B<=R) (hB:B<=w.heap.size):Below B w0 w':=
 h.trans ⟨hk.os,hk.tape,hk.output,hk.size,fun k h1=>hk.block k (by omega) (by omega)⟩
theorem z29 (K:Kn) (kb:Nat) (p:Pr) (q1:OA) (d1:Nat) (q2:OA) (d2:Nat) (q3:OA) (d3:Nat) (w:World) (hK:zmg w (.map (some kb)) K) (h1:DAt w Tt q1 p.params.length (zaj p.params)) (h2:DAt w Tt q2 p.locals.length (zaj p.locals)) (h3:DAt w Tt q3 p.body.length (zbp p.body)) (So:p.params.length<=3) (EN:p.locals.length<=4) (Gh:zaf 6 p.body=false) :
 qc 120 #[.agg #[.map (some kb)],.agg #[.string p.name,.bool p.pub,.slice q1 p.params.length d1,.slice q2 p.locals.length d2,.slice q3 p.body.length d3]] w fun e w'=>z5y w.heap.size (zlk K p) e w'/\qb w w':=by
 have HK:=hid hK;have Nn:=hid h3;have S7:=hid (zj2 6 p.body Gh)
 have hs:∀ s ∈ p.own,s.size<=maxLen:=fun s hs=>(vbs.1 hs).elim ((zel h1).2 s) ((zel h2).2 s)
 have Ky:p.own.length=p.params.length+p.locals.length:=by unfold Pr.own;rw [vam]
 have HS:=hid hs;have I1:=hid Ky;have KN:qb w ((((w.alloc (.cells #[.map (some kb)] 189)).alloc (pP p q1 d1 q2 d2 q3 d3)).alloc (kzL 0 0 none 0 0)).alloc (.cells #[.slice q1 p.params.length d1,.slice q2 p.locals.length d2] 22)):=thenB (bl3 w _ _ _) (al1 _ _);have HC:=hid (zwu p.params p.locals q1 d1 q2 d2 (w.heap.size+3) ((((w.alloc (.cells #[.map (some kb)] 189)).alloc (pP p q1 d1 q2 d2 q3 d3)).alloc (kzL 0 0 none 0 0)).alloc (.cells #[.slice q1 p.params.length d1,.slice q2 p.locals.length d2] 22)) (by simp) (zvd _ _ _ _ 0 _ (by simp) rfl) (zvd _ _ _ _ 1 _ (by simp) rfl) ((zel h1).1.later KN) ((zel h2).1.later KN) (by omega) (by omega));have Ar:=hid KN;clear hK h1 h2 h3 Gh hs Ky KN
 obtain ⟨r,hr⟩:∃ r,r=zlk K p:=⟨_,rfl⟩
 rw [← hr];have HR:=hid hr;clear hr;go_enter Tryz.func120,Tryz.ntmps120;go_wp2_with fail;refine HC.out.mono ?_;rintro e w1 ⟨v1,rfl,GL,A6⟩;have A7:=hid (thenB Ar.out A6);have An:=A6.size;simp at An;obtain ⟨q0,qp,qr⟩:=zo8 (thenB (al1 _ _) A6);have P0:=hid q0;have P1:=hid qp;have P2:=hid qr;obtain ⟨x0,x1,x2,x3,x4,xf⟩:=zaa qp;obtain ⟨r0,r1,r2,rf⟩:=zev qr
 have k0:w1.cell? (qa w.heap.size 0)=some (.map (some kb)):=by rw [vef q0];rfl
 have Bi:Hid (w1.ownsRow ((((w.alloc (.cells #[.map (some kb)] 189)).alloc (pP p q1 d1 q2 d2 q3 d3)).alloc (kzL 0 0 none 0 0)).alloc (.cells #[.slice q1 p.params.length d1,.slice q2 p.locals.length d2] 22)).heap.size 9 1 v1 (p.params.length+p.locals.length) (strV p.own)):=GL;have Bn:=hid (zrd I1.out.symm Bi.out (by rw [I1.out];omega) HS.out);clear A6 HC GL q0 qp qr
 cases hd:Fx.zpu (Fx.ze3 p.own) with
 | true=>
   have Ao:Hid (r = .error 6):=HR.out.trans (by unfold zlk;rw [hd];rfl);rw [hd] at Bn;clear hd;go_wp2_with fail;refine Bn.out.mono ?_;rintro e w2 ⟨rfl,Ab⟩;have Af:=hid (thenB A7.out Ab);have Lg:=(Ab.block _ (lt_of_heap P2.out)).trans P2.out;have Cg:=lt_of_heap Lg;clear r0 r1 r2 rf;obtain ⟨r0,r1,r2,rf⟩:=zev Lg;clear Ab Lg;go_wp2_with fail;refine bodyPost_ret (v:=.tuple #[.agg #[qi 0,qi 0,qs],qi 6]) (by simp [results,Tryz.results120,go_sem,r0,r1,r2,Cg]) rfl ⟨by rw [Ao.out];exact ⟨0,0,none,0,0,rfl,by decide⟩,?_⟩;exact z5z Af.out (by omega) _ _ _
 | false=>
   have Ao:Hid (r=zc9 (zfo K (zxc p.own) p.body) fun b=>.ok ⟨p.params.length,p.locals.length,b⟩):=HR.out.trans (by unfold zlk;rw [hd];rfl);rw [hd] at Bn;clear hd HR;go_wp2_with fail;refine Bn.out.mono ?_;rintro e w2 ⟨rfl,Ab⟩;have Af:=hid (thenB A7.out Ab);have AA:=Ab.size;have P0':=hid ((Ab.block _ (lt_of_heap P0.out)).trans P0.out);have P1':=hid ((Ab.block _ (lt_of_heap P1.out)).trans P1.out);have P2':=hid ((Ab.block _ (lt_of_heap P2.out)).trans P2.out);have Gv:=hid (Fx.ownsRow_later Bi.out Ab);clear x0 x1 x2 x3 x4 xf r0 r1 r2 rf k0 Bi Bn P0 P1 P2
   have k0:w2.cell? (qa w.heap.size 0)=some (.map (some kb)):=by rw [vef P0'.out];rfl
   have Bm:=lt_of_heap P0'.out;have CF:=lt_of_heap P1'.out;have Cb:=lt_of_heap P2'.out;obtain ⟨av,cv,rfl,hSt⟩:=zj4 (l:=p.own) (by rw [I1.out];exact Gv.out);have EZ:=hid hSt;have GN:=@run_makeMap Tryz.prog;have K3:=hid ((zlj.made w2).later (al1 _ (.cells #[.map (some kb),.map (some w2.heap.size)] 195)));clear Ab hSt Gv;rw [I1.out];go_wp2_with fail
   go_loopw [8,9,26] (fun _ _ i wr=>∃ j:Nat,j<=p.params.length+p.locals.length/\i=qi j/\zlj wr w2.heap.size j (zxc (p.own.take j))/\Keeps w2.heap.size ((w2.alloc (.map #[] 0)).alloc (.cells #[.map (some kb),.map (some w2.heap.size)] 195)) wr) (fun _ _ i _=>p.params.length+p.locals.length - (intOf i).toNat)
   case atStart=>exact ⟨0,vag _,rfl,K3.out,Keeps.refl _ _⟩
   case round=>
    clear K3 GN k0;obtain ⟨j,hj,rfl,GS,Bf⟩:=hrel;have Pd:=hid GS;have HE:=hid Bf;have C9:=Bf.size;simp at C9;have b0:wr.heap[w2.heap.size+1]? = some (.cells #[.map (some kb),.map (some w2.heap.size)] 195):=(Bf.block _ (by simp) (by omega)).trans (by simpa using heap_newP (w2.alloc (.map #[] 0)) (.cells #[.map (some kb),.map (some w2.heap.size)] 195));have To:=hid b0;obtain ⟨y0,y1,yf⟩:=zcl b0;have Si:=lt_of_heap b0;clear GS Bf b0
    by_cases GQ:j<p.params.length+p.locals.length
    . have A4:j<p.own.length:=by rw [I1.out];exact GQ
      obtain ⟨b,off,rfl,Au,c0⟩:=EZ.out.place A4;have d0:=(HE.out.cell (off:=off+j) (by simp;omega) (by omega)).trans (((bl2 w2 (.map #[] 0) (.cells #[.map (some kb),.map (some w2.heap.size)] 195)).cell (p:=⟨b,off+j,none⟩) Au).trans c0)
      have QM:b<wr.heap.size:=by omega
      have B5:=HS.out p.own[j] (vaj _)
      have BP:Hid (z5x (zxc (p.own.take j)) p.own[j] j=zxc (p.own.take (j+1))):=by
       show _=zxc (p.own.take (j+1));rw [vaf A4,zz6,vcc,vdl (by omega)]
      generalize p.own[j]=s at *
      have Oi:j<=1000:=by have:=I1.out;omega
      obtain ⟨w5,hrun,hL5,hg5⟩:=Pd.out.put (by unfold maxLen;omega) s B5 j (WalkArith.wf_i64 (by omega));rw [BP.out] at hL5;have RI:=hid hL5;have Nj:=hid (HE.out.grown hg5);clear hL5 hg5 c0 B5;go_wp2_with fail;go_roundw
      case rel=>exact ⟨j+1,by omega,by go_num,RI.out,Nj.out⟩
      case measure=>simp [intOf];omega
    . obtain rfl:j=p.params.length+p.locals.length:=by omega
      have RG:Hid (zlj wr w2.heap.size (p.params.length+p.locals.length) (zxc p.own)):=by have:=Pd.out;rw [vaw (by rw [I1.out];exact vaa _)] at this;exact this
      have CW:Hid (qb w wr):=Keeps.below (thenB Af.out (bl2 _ _ _)) HE.out (by have:=Af.out.size;omega) (by have:=Af.out.size;simp;omega);have RJ:=hid (HK.out.later CW.out);have BR:=hid (S7.out K (zxc p.own) (.map (some kb)) (.map (some w2.heap.size)) Tt q3 d3 wr RJ.out RG.out.names (Nn.out.later CW.out));have e1:wr.heap[w.heap.size+1]? = some (pP p q1 d1 q2 d2 q3 d3):=(HE.out.block _ (by simp;omega) (by omega)).trans (zab (zab P1'.out));have e2:wr.heap[w.heap.size+2]? = some (kzL 0 0 none 0 0):=(HE.out.block _ (by simp;omega) (by omega)).trans (zab (zab P2'.out));have BM:=hid e1;have FA:=hid e2;obtain ⟨x0,x1,x2,x3,x4,xf⟩:=zaa e1;have LQ:=lt_of_heap e1;have LP:=lt_of_heap e2;clear e1 e2;go_wp2_with fail;refine BR.out.mono ?_;rintro e w6 ⟨Ai,AK⟩;have Cw:=hid (thenB CW.out AK);have GC:=AK.size
      have f1:=(AK.block _ LQ).trans BM.out;have f2:=(AK.block _ LP).trans FA.out;have Ql:=lt_of_heap f1;have Jc:=lt_of_heap f2;clear x0 x1 x2 x3 x4 xf y0 y1 yf;obtain ⟨x0,x1,x2,x3,x4,xf⟩:=zaa f1;obtain ⟨r0,r1,r2,rf⟩:=zev f2;clear AK f1 f2
      cases hr:zfo K (zxc p.own) p.body with
      | error c=>
        rw [hr] at Ai;obtain ⟨rfl,Ak⟩:=Ai;have Aq:Hid (r = .error c):=Ao.out.trans (by rw [hr];rfl);clear hr;go_wp2_with fail;refine bodyPost_ret (v:=.tuple #[.agg #[qi p.params.length,qi p.locals.length,qs],qi c]) (by simp [results,Tryz.results120,go_sem,r0,r1,r2,Jc]) rfl ⟨by rw [Aq.out];exact ⟨_,_,_,_,_,rfl,Ak⟩,?_⟩;exact z5z Cw.out (by omega) _ _ _
      | ok bd=>
        rw [hr] at Ai;obtain ⟨ab,cb,rfl,heb⟩:=Ai;have Aq:Hid (r = .ok ⟨p.params.length,p.locals.length,bd⟩):=Ao.out.trans (by rw [hr];rfl);have RU:=hid heb;clear hr heb;go_wp2_with fail;refine bodyPost_ret (v:=.tuple #[.agg #[qi p.params.length,qi p.locals.length,.slice ab bd.length cb],qi 0]) (by simp [results,Tryz.results120,go_sem,r0,r1,r2,Jc]) rfl ⟨by rw [Aq.out];exact ⟨ab,cb,rfl,(RU.out.moves ((zad.refl w6 _).set3 (by intro k _ hk;have:wr.heap.size<=k:=hk;omega) _ _ _)).moves ⟨vaa _,fun b _ h=>⟨by have:wr.heap.size<=b:=h;show w.heap.size<=b;omega,rfl⟩⟩⟩,z5z Cw.out (by omega) _ _ _⟩
set_option maxHeartbeats 1600000
abbrev Fc:=Fx.Fc
def fcD (f:Fc):List D:=[.str f.name,.list f.items.length (zgm f.items)]
def z50 (l:List Fc):List D:=l.flatMap fcD
def z52 (m:Mo):Kn:=ziw (fun _ _=>none) ⟨#[]⟩ 0 (za6 m)
def zh8 (K:Kn) (l:List Fc):Kn:=l.zipIdx.foldl (fun K p=>ziw K p.1.name ((p.2:Int)+1) p.1.items) K
theorem ztc (K:Kn) (l:List Fc) (f:Fc):zh8 K (l++[f])=ziw (zh8 K l) f.name ((l.length:Int)+1) f.items:=by
 unfold zh8;rw [List.zipIdx_append,vbk];simp
def zd9 (m:Mo) (l:List Fc):Kn:=zh8 (z52 m) l
def zcb (K:Kn):List Pr->Except Int (List Pt)
 | []=>.ok []
 | p :: r=>zc9 (zlk K p) fun t=>zc9 (zcb K r) fun l=>.ok (t :: l)
def zjo (m:Mo) (l:List Fc):Except Int Un:=zc9 (zcb (zd9 m l) m.procs) fun ps=>zc9 (zfo (zd9 m l) (fun _=>none) m.main) fun b=>.ok ⟨m.name,m.uses,zb3 m,ps,b⟩
theorem zix (K:Kn):∀ (a b:List Pr) (A5:List Pt),zcb K a = .ok A5->zcb K (a++b)=zc9 (zcb K b) fun l=>.ok (A5++l)
 | [],b,A5,h=>by
   obtain rfl:=vdb h;show zcb K b=_;exact (zo1 _).symm
 | x :: a,b,A5,h=>by
   rw [zcb] at h;show zcb K (x :: (a++b))=_;rw [zcb]
   cases hx:zlk K x with
   | error e=>rw [hx] at h;cases h
   | ok y=>
     rw [hx] at h;simp only [zc9] at h ⊢
     cases ha:zcb K a with
     | error e=>rw [ha] at h;cases h
     | ok l=>
       rw [ha] at h;obtain rfl:=vdb h;rw [zix K a b l ha]
       cases zcb K b<;>rfl
theorem zww {K:Kn} {l:List Pr} {j:Nat} {A5:List Pt} {e:Int} (h:j<l.length) (ha:zcb K (l.take j) = .ok A5) (he:zlk K l[j] = .error e):zcb K l = .error e:=by
 rw [zo4 l j h,zix K _ _ A5 ha,zcb,he];rfl
theorem ztd {K:Kn} {l:List Pr} {j:Nat} {A5:List Pt} {y:Pt} (h:j<l.length) (ha:zcb K (l.take j) = .ok A5) (he:zlk K l[j] = .ok y):zcb K (l.take (j+1)) = .ok (A5++[y]):=by
 rw [vaf h,zix K _ _ A5 ha,zcb,he];rfl
theorem zwx {m:Mo} {l:List Fc} {c:Int} (h:zcb (zd9 m l) m.procs = .error c):zjo m l = .error c:=by unfold zjo;rw [h];rfl
theorem zz7 {m:Mo} {l:List Fc} {c:Int} {ps:List Pt} (h:zcb (zd9 m l) m.procs = .ok ps) (h2:zfo (zd9 m l) (fun _=>none) m.main = .error c):zjo m l = .error c:=by unfold zjo;rw [h,h2];rfl
theorem z53 {m:Mo} {l:List Fc} {ps:List Pt} {b:List Ac} (h:zcb (zd9 m l) m.procs = .ok ps) (h2:zfo (zd9 m l) (fun _=>none) m.main = .ok b):zjo m l = .ok ⟨m.name,m.uses,zb3 m,ps,b⟩:=by unfold zjo;rw [h,h2];rfl
def zz8 (lo:Nat) (r:Except Int Un) (e:Ending) (w:World):Prop:=
 match r with
 | .error c=>e = .returned (.tuple #[.agg #[.string ⟨#[]⟩,.slice none 0 0,.int .i64 0,.slice none 0 0,.slice none 0 0],.int .i64 c])/\c≠0
 | .ok u=>∃ x1 y1 x2 y2 x3 y3,e = .returned (.tuple #[.agg #[.string u.name,.slice x1 u.uses.length y1,.int .i64 u.data,.slice x2 u.parts.length y2,.slice x3 u.main.length y3],.int .i64 0])/\
   EAt w (lo<=·) x1 u.uses.length (zaj u.uses)/\EAt w (lo<=·) x2 u.parts.length (zk7 u.parts)/\EAt w (lo<=·) x3 u.main.length (zdm u.main)
theorem DAt.fc {w:World} {A:Nat->Prop} {a:OA} {l:List Fc} (h:DAt w A a l.length (z50 l)) (i:Nat) (hi:i<l.length):∃ b off ai ci,a=some (qa b off)/\b<w.heap.size/\w.cell? ⟨b,off+i*2,none⟩=some (.string l[i].name)/\w.cell? ⟨b,off+i*2+1,none⟩=some (.slice ai l[i].items.length ci)/\l[i].name.size<=maxLen/\DAt w A ai l[i].items.length (zgm l[i].items):=by
 obtain ⟨b,off,ha,hb,hc⟩:=h.cell (by omega);generalize hx:l[i]=x;obtain ⟨name,items⟩:=x
 have g:∀ j d,j<2->(fcD ⟨name,items⟩)[j]? = some d->∃ v,w.cell? ⟨b,off+i*2+j,none⟩=some v/\zc7 w A d v:=fun j d hj hd=>by
  rw [vbj];exact hc (i*2+j) d ((zck fcD 2 (fun _=>rfl) l i hi j hj).trans (by rw [hx];exact hd))
 obtain ⟨v0,k0,d0⟩:=g 0 (.str name) (by omega) rfl;obtain ⟨v1,k1,d1⟩:=g 1 (.list items.length (zgm items)) (by omega) rfl;obtain ⟨rfl,w0⟩:=zc8 d0;obtain ⟨ai,ci,rfl,h1⟩:=za0 d1;exact ⟨b,off,ai,ci,ha,hb,k0,k1,w0,h1⟩
theorem zll {w:World} {A:Nat->Prop} {a:OA} {l:List It} (h:DAt w A a l.length (zgm l)):Fx.zcr w a l/\Fx.AllFit l:=by
 rcases h.2.2 with h | ⟨b,off,cs,ha,_,hb,hc,hx⟩
 . have:l=[]:=vak h
   subst this;exact ⟨Or.inl rfl,fun i hi=>by cases hi⟩
 . have g:∀ i (hi:i<l.length) j d,j<4->(itD l[i])[j]? = some d->∃ v,w.cell? ⟨b,off+i*4+j,none⟩=some v/\zc7 w A d v:=fun i hi j d hj hd=>by
    obtain ⟨v,hv,EU⟩:=hx.get (i*4+j) d ((zck itD 4 (fun _=>rfl) l i hi j hj).trans hd);exact ⟨v,by rw [vbj];exact hc _ v hv,EU⟩
   refine ⟨Or.inr ⟨b,off,ha,hb,fun i hi=>?_,fun i hi=>?_,fun i hi=>?_,fun i hi=>?_⟩,fun x Bx=>?_⟩
   . obtain ⟨v,hv,hd⟩:=g i hi 0 (.int l[i].kind) (by omega) rfl
     rw [(za3 hd).1] at hv;exact hv
   . obtain ⟨v,hv,hd⟩:=g i hi 1 (.int l[i].n) (by omega) rfl
     rw [(za3 hd).1] at hv;exact hv
   . obtain ⟨v,hv,hd⟩:=g i hi 2 (.int l[i].at_) (by omega) rfl
     rw [(za3 hd).1] at hv;exact hv
   . obtain ⟨v,hv,hd⟩:=g i hi 3 (.str l[i].name) (by omega) rfl
     rw [(zc8 hd).1] at hv;exact hv
   . obtain ⟨i,hi,rfl⟩:=vbl Bx
     obtain ⟨v,hv,hd⟩:=g i hi 3 (.str l[i].name) (by omega) rfl;exact (zc8 hd).2
theorem zlm {w:World} {a:OA} {l:List It} (h:Fx.zcr w a l) {R:Nat} (hR:w.heap.size<=R):∀ b' off,l≠[]->a=some (qa b' off)->b'≠R:=by
 intro b' off hl e
 rcases h with h | ⟨b,o,e2,h⟩
 . exact absurd h hl
 . rw [e] at e2
   have:=vab e2
   injection this with e3 _
   have:=h.lt;omega
theorem Keeps.items {R:Nat} {w w':World} {a:OA} {l:List It} (h:Fx.zcr w a l) (hk:Keeps R w w') (hR:∀ b' off,l≠[]->a=some (qa b' off)->b'≠R):Fx.zcr w' a l:=by
 rcases h with h | ⟨b,o,e,h⟩
 . exact Or.inl h
 . by_cases hl:l=[]
   . exact Or.inl hl
   . have Ak:=hR b o hl e
     exact Or.inr ⟨b,o,e,vah h.lt hk.size,fun i hi=>(hk.cell h.lt Ak).trans (h.kind i hi),fun i hi=>(hk.cell h.lt Ak).trans (h.num i hi),fun i hi=>(hk.cell h.lt Ak).trans (h.at_ i hi),fun i hi=>(hk.cell h.lt Ak).trans (h.name i hi)⟩
end Go.Proofs.YtndkhgakfodldaaGreatDoor
