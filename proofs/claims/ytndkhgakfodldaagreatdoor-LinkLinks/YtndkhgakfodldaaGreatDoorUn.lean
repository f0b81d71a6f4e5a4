import Derived.Test.YtndkhgakfodldaaGreatDoorUi
import Derived.Lib.AppendZeros
namespace Go.Proofs.YtndkhgakfodldaaGreatDoor
set_option maxRecDepth 100000
set_option maxHeartbeats 1600000
open Go.RowKit Go.Maps Go.WideMaps
set_option linter.unusedSimpArgs false
def strV (l:List ByteArray):List Value:=l.map Value.string
theorem zr0 (a b:List ByteArray):strV (a++b)=strV a++strV b:=vbw ..
theorem ztx (l:List ByteArray):(strV l).length=l.length:=vcq ..
theorem z1q (l:List ByteArray):∀ u ∈ strV l,u.oneCell'=true:=fun u hu=>by
 obtain ⟨s,_,rfl⟩:=vcw.1 hu
 rfl
theorem zhl {P:Program} {w:World} (base:Nat) (t ty e:TypeId) (i:TypeInfo) (size c:Nat) (ht:P.underlying t=some (.slice e)) (hi:P.info? e=some i)
 (v:Value) (n:Nat) (xs:List Value) (Ag:w.ownsRow base e size v n xs) :
 (Builtin.append_ #[t,t] ty #[v,.slice none 0 c]).run P w = .ok v w:=by
 rcases Ag.2 with ⟨rfl,rfl⟩ | ⟨g,cap,AC,rfl,_,_,hnc,_⟩
 . simp [Builtin.append_,run_underlying ht,Go.sizeOf,typeInfo,hi,Builtin.lenOf,Builtin.firstCells]
 . simp [Builtin.append_,run_underlying ht,Go.sizeOf,typeInfo,hi,Builtin.lenOf,Builtin.firstCells,hnc,storeCells]
theorem zb3 {w:World} (base:Nat) (ty:TypeId) (v:Value) (n:Nat) (xs:List Value) (Ag:w.ownsRow base 9 1 v n xs) (us:List ByteArray) (b:OA) (c:Nat) (hS:Fx.zd4 w b us) (Ai:n+us.length<=10000) (AN:base<=w.heap.size) :
 ∃ v' w',(Builtin.append_ #[22,22] ty #[v,.slice b us.length c]).run Tryz.prog w = .ok v' w'/\w'.ownsRow base 9 1 v' (n+us.length) (xs++strV us)/\w.grownBy w' v.ownBlock:=by
 obtain ⟨i0,hi,Bs,Ao,AA⟩:=info_parts Tryz.infoP9
 have go:∀ ad:Addr,b=some ad->(∀ j u,(strV us)[j]? = some u->w.cell? (ad.add j)=some u)->∃ v' w',(Builtin.append_ #[22,22] ty #[v,.slice b us.length c]).run Tryz.prog w = .ok v' w'/\w'.ownsRow base 9 1 v' (n+us.length) (xs++strV us)/\w.grownBy w' v.ownBlock:=by
  rintro ad rfl hn;obtain ⟨v',w',h1,h2,h3,_⟩:=run_append_own (P:=Tryz.prog) (w:=w) base 22 ty 9 i0 _ 1 16 Tryz.underlying22 hi Bs Ao AA rfl (by decide) v n xs Ag ad us.length c (strV us) (by rw [ztx,Nat.mul_one]) hn (z1q us) (by unfold maxLen;omega) (by omega) AN;exact ⟨v',w',h1,h2,h3⟩
 rcases hS with rfl | ⟨b1,off,rfl,A5,h⟩
 . cases b with
   | none=>exact ⟨v,w,zhl base _ ty _ i0 1 c Tryz.underlying22 hi v n xs Ag,by simpa [strV] using Ag,⟨rfl,rfl,rfl,vaa _,fun _ _ _=>rfl⟩⟩
   | some ad=>exact go ad rfl (fun j u hj=>by simp [strV] at hj)
 . refine go _ rfl (fun j u hj=>?_)
   have Ok:j<us.length:=by
    rcases vbi j us.length with h' | h'
    . exact h'
    . rw [vbv (by rw [ztx];exact h')] at hj;cases hj
   have e:((qa b1 off):Addr).add j=⟨b1,off+j,none⟩:=by unfold Addr.add;split<;>simp_all
   rw [e,h j Ok];simp [strV,Ok] at hj;rw [hj]
theorem z1r (n:Nat) (w:World) (hn:n<=10000) :
 qc 204 #[qs,qi n] w fun e w'=>∃ v,e = .returned v/\w'.ownsRow w.heap.size 9 1 v 0 []/\qb w w':=by
 obtain ⟨i0,hi,Bs,Ao,AA⟩:=info_parts Tryz.infoP9
 have hw:IntKind.i64.wrap (n:Int)=n:=by simp only [IntKind.wrap,IntKind.bits,IntKind.signed];simp;omega
 by_cases h0:n=0
 . subst h0
   go_enter Tryz.func204,Tryz.ntmps204;go_wp2_with fail;go_ret;exact ⟨_,rfl,ver _ _ _ _,Below.refl _ _⟩
 . have hr:=fun ty=>Lib.run_append_nil_zeros (P:=Tryz.prog) w 22 3 ty 9 i0 _ .i64 .i64 Tryz.underlying22 Tryz.underlying3 hi Bs n (by omega) (by omega) (by omega) (by rw [AA];omega)
   have Fu:=grownCap_ge w n 0 9
   have DM:Hid ((w.drew.alloc (.cells (Builtin.zeroCells (Value.string ⟨#[]⟩).cells n++Builtin.zeroCells (Value.string ⟨#[]⟩).cells (grownCap w n 0 9 - n)) 9)).ownsRow w.heap.size 9 1 (.slice (some (qa w.heap.size 0)) 0 (grownCap w n 0 9)) 0 []):=by
    refine ⟨rfl,Or.inr ⟨w.heap.size,_,_,rfl,vaa _,heap_alloc_new w.drew _,vae _,grownCap_le_maxLen w n 0 _ (by unfold maxLen;omega),?_,by simp⟩⟩;rw [Array.size_append,size_zeroCells,size_zeroCells];show n*1+(grownCap w n 0 9 - n)*1=_;omega
   have Bp:Hid (qb w (w.drew.alloc (.cells (Builtin.zeroCells (Value.string ⟨#[]⟩).cells n++Builtin.zeroCells (Value.string ⟨#[]⟩).cells (grownCap w n 0 9 - n)) 9))):=((Below.refl w.heap.size w).drew).alloc (vaa _) _
   have J4:(0:Int)<n:=by omega
   generalize (w.drew.alloc (.cells (Builtin.zeroCells (Value.string ⟨#[]⟩).cells n++Builtin.zeroCells (Value.string ⟨#[]⟩).cells (grownCap w n 0 9 - n)) 9))=w2 at *;generalize grownCap w n 0 9=cp at *
   have DE:(n:Int)<=cp:=by omega
   go_enter Tryz.func204,Tryz.ntmps204
   go_wp2_with (at_builtin;refine Lib.wpList_append_run _ rfl (.tmp 20) (.tmp 21) 22 3 rfl _ _ rfl rfl _ _ (hr _) ?_)
   go_ret;exact ⟨_,rfl,DM.out,Bp.out⟩
set_option maxHeartbeats 3200000
theorem zvg (x y:List ByteArray) (a1:OA) (c1:Nat) (a2:OA) (c2 b:Nat) (w:World) (hb:b<w.heap.size) (h0:w.cell? (qa b 0)=some (.slice a1 x.length c1)) (h1:w.cell? (qa b 1)=some (.slice a2 y.length c2))
 (hx:Fx.zd4 w a1 x) (hy:Fx.zd4 w a2 y) (GD:x.length<=1000) (Qe:y.length<=1000) :
 qc 161 #[.slice (some (qa b 0)) 2 2] w fun e w'=>∃ v,e = .returned v/\w'.ownsRow w.heap.size 9 1 v (x.length+y.length) (strV (x++y))/\qb w w':=by
 have HX:=hid hx;have HY:=hid hy;have H0:=hid h0;have H1:=hid h1;clear hx hy
 have Cm:IntKind.i64.wrap (x.length:Int)=x.length:=by simp only [IntKind.wrap,IntKind.bits,IntKind.signed];simp;omega
 have DT:IntKind.i64.wrap ((x.length:Int)+(y.length:Int))=((x.length+y.length:Nat):Int):=by simp only [IntKind.wrap,IntKind.bits,IntKind.signed];simp;omega
 have Du:(0:Int)<=x.length:=by omega
 have B7:(0:Int)<=((x.length+y.length:Nat):Int):=by omega
 have HG:=hid (z1r (x.length+y.length) w (by omega));go_enter Tryz.func161,Tryz.ntmps161;go_wp2_with fail
 go_loopw [3,5,11] (fun s _ i wr=>∃ j:Nat,j<=2/\i=qi j/\s=qi (if j=0 then 0 else if j=1 then (x.length:Int) else ((x.length+y.length:Nat):Int))/\w=wr) (fun _ _ i _=>2 - (intOf i).toNat)
 case atStart=>exact ⟨0,by omega,rfl,rfl,rfl⟩
 case round=>
  obtain ⟨j,hj,rfl,rfl,rfl⟩:=hrel
  obtain rfl | rfl | rfl:j=0\/j=1\/j=2:=by omega
  . go_wp2_with fail
    go_roundw
    case rel=>exact ⟨1,by omega,rfl,rfl,trivial⟩
    case measure=>simp [intOf]
  . go_wp2_with fail
    go_roundw
    case rel=>exact ⟨2,by omega,rfl,rfl,trivial⟩
    case measure=>simp [intOf]
  . go_wp2_with fail
    refine HG.out.mono ?_;rintro e w1 ⟨v1,rfl,GA,A5⟩;have Bd:=hid GA;have A8:=hid A5;have Ao:=A5.size;clear GA A5 HG h0 h1;go_wp2_with fail
    go_loopw [6,8,27] (fun v _ i wr=>∃ j:Nat,j<=2/\i=qi j/\wr.ownsRow w.heap.size 9 1 v (if j=0 then 0 else if j=1 then x.length else x.length+y.length) (if j=0 then [] else if j=1 then strV x else strV (x++y))/\qb w wr) (fun _ _ i _=>2 - (intOf i).toNat)
    case atStart=>exact ⟨0,by omega,rfl,Bd.out,A8.out⟩
    case round=>
     clear Bd A8 Ao;obtain ⟨j,hj,rfl,ho,E1⟩:=hrel;have HB:=hid E1;have BU:=E1.size;have AZ:b<wr.heap.size:=vah hb BU;have k0:=(E1.cell (p:=(qa b 0)) hb).trans H0.out;have k1:=(E1.cell (p:=(qa b 1)) hb).trans H1.out;clear E1
     obtain rfl | rfl | rfl:j=0\/j=1\/j=2:=by omega
     . have EY:wr.ownsRow w.heap.size 9 1 u6 0 []:=ho
       obtain ⟨v',w',hr,h2,h3⟩:=zb3 w.heap.size 22 u6 0 [] EY x a1 c1 (HX.out.later HB.out) (by omega) BU;have Ge:Hid (w'.ownsRow w.heap.size 9 1 v' x.length (strV x)):=hid (by simpa using h2);have Ad:=hid (HB.out.grown h3 BU (fun k hk=>(EY.lt k hk).1));clear ho EY h2 h3
       go_wp2_with (at_builtin;refine Lib.wpList_append_run _ rfl (.tmp 31) (.tmp 32) 22 22 rfl _ _ rfl rfl _ _ hr ?_)
       go_roundw
       case rel=>exact ⟨1,by omega,rfl,Ge.out,Ad.out⟩
       case measure=>simp [intOf]
     . have EY:wr.ownsRow w.heap.size 9 1 u6 x.length (strV x):=ho
       obtain ⟨v',w',hr,h2,h3⟩:=zb3 w.heap.size 22 u6 x.length (strV x) EY y a2 c2 (HY.out.later HB.out) (by omega) BU
       have Ge:Hid (w'.ownsRow w.heap.size 9 1 v' (x.length+y.length) (strV (x++y))):=by rw [zr0];exact h2
       have Ad:=hid (HB.out.grown h3 BU (fun k hk=>(EY.lt k hk).1));clear ho EY h2 h3
       go_wp2_with (at_builtin;refine Lib.wpList_append_run _ rfl (.tmp 31) (.tmp 32) 22 22 rfl _ _ rfl rfl _ _ hr ?_)
       go_roundw
       case rel=>exact ⟨2,by omega,rfl,Ge.out,Ad.out⟩
       case measure=>simp [intOf]
     . have Ge:Hid (wr.ownsRow w.heap.size 9 1 u6 (x.length+y.length) (strV (x++y))):=ho
       clear ho;go_wp2_with fail;go_ret;exact ⟨_,rfl,Ge.out,HB.out⟩
theorem zhm {w:World} {B:Nat} {v:Value} {l:List ByteArray} (h:w.ownsRow B 9 1 v l.length (strV l)):∃ a cap,v = .slice a l.length cap/\Fx.zd4 w a l:=by
 rcases h.2 with ⟨hv,h0⟩ | ⟨g,cap,AC,hv,hB,hg,_⟩
 . have hl:l=[]:=vam h0
   exact ⟨none,0,by rw [hv,hl];rfl,Or.inl hl⟩
 . refine ⟨_,cap,hv,Or.inr ⟨g,0,rfl,lt_of_heap hg,fun i hi=>?_⟩⟩
   have:=h.cells (g:=g) (by rw [hv];rfl) i (.string l[i]) (by simp [strV,hi]);rw [show ((qa g 0):Addr).add i=(qa g i) from by unfold Addr.add;split<;>simp_all] at this;rw [vax];exact this
theorem keyedStr:Keyed Tryz.prog 9:=string_keyed Tryz.underlying9
theorem zeroInt (w:World):(zeroValue 3).run Tryz.prog w = .ok (qi 0) w:=by kernel_rfl
def z4f (L:Lc) (s:ByteArray) (i:Int):Lc:=fun a=>if a=s then some i else L a
def z67 (D:DataW Unit) (L:Lc):Prop:=∀ a:ByteArray,has D (.string a.data.toList)=(L a).isSome/\D.atKey (.string a.data.toList) (.lit (.int .i64 0)) = .lit (.int .i64 ((L a).getD 0))
theorem zhn {a b:ByteArray} (h:a.data.toList=b.data.toList):a=b:=by
 cases a;cases b;simp at h;rw [h]
theorem z67.put {D:DataW Unit} {L:Lc} (h:z67 D L) (hD:IsMap D) (s:ByteArray) (i:Int):z67 (D.put (.string s.data.toList) (.lit (.int .i64 i))) (z4f L s i):=by
 intro a
 by_cases e:a=s
 . subst e
   simp only [z4f,if_true];exact ⟨has_put_same (k:=.string a.data.toList) hD trivial _,atKey_put_same (k:=.string a.data.toList) hD trivial _ _⟩
 . have Aj:Lit.string a.data.toList≠.string s.data.toList:=fun h=>e (zhn (by injection h))
   simp only [z4f,if_neg e];rw [has_put_other Aj,atKey_put_other Aj];exact h a
def zkq (w:World) (b n:Nat) (L:Lc):Prop:=∃ D:DataW Unit,w.ownsMap Tryz.prog 9 (plainElem Tryz.prog 3) b n D/\z67 D L
theorem zkq.lt {w:World} {b n:Nat} {L:Lc} (h:zkq w b n L):b<w.heap.size:=by obtain ⟨D,h1,_⟩:=h;exact h1.lt
theorem zkq.later {w w':World} {b n:Nat} {L:Lc} (h:zkq w b n L) (hb:qb w w'):zkq w' b n L:=by
 have A0:=h.lt;obtain ⟨D,h1,h2⟩:=h;obtain ⟨es,clock,AZ,r⟩:=h1;exact ⟨D,⟨es,clock,(hb.block b A0).trans AZ,r⟩,h2⟩
theorem zkq.made (w:World):zkq (w.alloc (.map #[] 0)) w.heap.size 0 (fun _=>none):=⟨.map [],veu w _ _ _,fun _=>⟨rfl,rfl⟩⟩
theorem zkq.names {w:World} {b n:Nat} {L:Lc} (h:zkq w b n L):zmq w (.map (some b)) L:=by
 intro w' hb s hs;obtain ⟨D,k1,k2⟩:=h.later hb;obtain ⟨v,ps,hrun,hv⟩:=k1.look_ok keyedStr Tryz.underlying185 (zeroInt w') (zd:=.lit (.int .i64 0)) (zp:=[]) (plainElem_int Tryz.underlying3 (by decide)) (keyOf_string_mk Tryz.underlying9 hs);obtain ⟨c,rfl,hc,_⟩:=plainElem_int_inv Tryz.underlying3 hv;simp only [vdd] at hc;have hc:=hc.1;rw [(k2 s).2] at hc
 injection hc with hc
 injection hc with _ hc
 rw [hrun,← hc,(k2 s).1]
theorem zvh (w:World):zmq w (.map none) (fun _=>none):=by
 intro w' hb s hs;rw [look_nil true keyedStr Tryz.underlying185 (zeroInt w') (keyOf_string_mk Tryz.underlying9 hs)]
 rfl
theorem zkq.put {w:World} {b n:Nat} {L:Lc} (h:zkq w b n L) (hn:n<maxLen) (s:ByteArray) (hs:s.size<=maxLen) (i:Int) (hi:(Lit.int .i64 i).wf=true) :
 ∃ w',(Instr.mapUpdate 185 (.map (some b)) (.string s) (qi i)).run Tryz.prog w = .ok () w'/\zkq w' b (n+1) (z4f L s i)/\w.grownBy w' (some b):=by
 obtain ⟨D,k1,k2⟩:=h;obtain ⟨w',r1,r2,r3⟩:=k1.update keyedStr Tryz.underlying185 hn (keyOf_string_mk Tryz.underlying9 hs) (plainElem_int (a:=i) Tryz.underlying3 hi);exact ⟨w',r1,⟨_,r2,k2.put k1.isMap s i⟩,r3⟩
def zvz (l:List ByteArray):Lc:=l.zipIdx.foldl (fun f p=>z4f f p.1 (p.2:Int)) (fun _=>none)
theorem zyo (l:List ByteArray) (s:ByteArray):zvz (l++[s])=z4f (zvz l) s l.length:=by
 unfold zvz;rw [List.zipIdx_append,vbn];simp
set_option linter.unusedVariables false
theorem zkq.look {w:World} {b n:Nat} {L:Lc} (h:zkq w b n L) (s:ByteArray) (hs:s.size<=maxLen) :
 (Instr.lookup 185 (.map (some b)) (.string s) false).run Tryz.prog w = .ok (qi ((L s).getD 0)) w:=by
 obtain ⟨D,k1,k2⟩:=h;obtain ⟨c,hrun,AF,_⟩:=k1.lookup_int keyedStr Tryz.underlying185 Tryz.underlying3 (zeroInt w) (keyOf_string_mk Tryz.underlying9 hs);rw [(k2 s).2] at AF
 injection AF with AF
 injection AF with _ AF
 rw [hrun,AF]
set_option maxHeartbeats 6400000
theorem UnAt.uv {w:World} {b o:Nat} {x:Un} {a1:OA} {k1:Nat} {a2:OA} {k2:Nat} {a3:OA} {k3:Nat} (h:UnAt w Tt b o x a1 k1 a2 k2 a3 k3):UvAt w x a1 k1 a2 k2 a3 k3:=⟨h.w0,h.uses',h.w2,h.parts',h.main'⟩
set_option maxHeartbeats 8000000
abbrev pP (p:Pr) (a:OA) (b:Nat) (c:OA) (e:Nat) (f:OA) (g:Nat):Obj:=kzK p.name p.pub a p.params.length b c p.locals.length e f p.body.length g
def Pr.own (p:Pr):List ByteArray:=p.params++p.locals
def zkr (K:Kn) (p:Pr):Except Int Pt:=if Fx.zfk (Fx.zbf p.own) then .error 6 else zcx (ze7 K (zvz p.own) p.body) fun b=>.ok ⟨p.params.length,p.locals.length,b⟩
def z4g (lo:Nat) (r:Except Int Pt) (e:Ending) (w:World):Prop:=
 match r with
 | .error c=>∃ x y a k cp,e = .returned (.tuple #[.agg #[.int .i64 x,.int .i64 y,.slice a k cp],.int .i64 c])/\c≠0
 | .ok t=>∃ a cp,e = .returned (.tuple #[.agg #[.int .i64 t.params,.int .i64 t.locals,.slice a t.body.length cp],.int .i64 0])/\EAt w (lo<=·) a t.body.length (zc7 t.body)
theorem zp7 {w:World} {B n:Nat} {v:Value} {l:List ByteArray} (hn:n=l.length) (h:w.ownsRow B 9 1 v n (strV l)) (hl:l.length<=1000000) (hf:∀ s ∈ l,s.size<=maxLen) :
 qc 59 #[v] w fun e w'=>e = .returned (.bool (Fx.zfk (Fx.zbf l)))/\qb w w':=by
 subst hn;obtain ⟨a,c,rfl,hS⟩:=zhm h;exact Fx.zfb a c _ w hS hl hf
theorem zty (W:World) (cs:Array Value) (t:TypeId) (n i:Nat) (v:Value) (hn:n=W.heap.size) (hv:cs[i]? = some v):(W.alloc (.cells cs t)).cell? (qa n i)=some v:=by
 subst hn;rw [vep (heap_newP _ _)];exact hv
theorem z4h {B b:Nat} {a w:World} (h:Below B a w) (hb:B<=b) (v0 v1 v2:Value):Below B a (((w.setCell (qa b 0) v0).setCell (qa b 1) v1).setCell (qa b 2) v2):=
 ((h.setCell (p:=(qa b 0)) hb _).setCell (p:=(qa b 1)) hb _).setCell (p:=(qa b 2)) hb _
theorem zad.set3 {w w1:World} {A A':Nat->Prop} {b:Nat} (h:zad w A w1 A') (hp:∀ k,k<w.heap.size->A k->k≠b) (v0 v1 v2:Value):zad w A (((w1.setCell (qa b 0) v0).setCell (qa b 1) v1).setCell (qa b 2) v2) A':=
 ((h.set (p:=(qa b 0)) hp v0).set (p:=(qa b 1)) hp v1).set (p:=(qa b 2)) hp v2
theorem zef {w:World} {b:Nat} {x0 x1 x2:Value} {t:TypeId} (h:w.heap[b]? = some (.cells #[x0,x1,x2] t (0,0))) :
 w.cell? (qa b 0)=some x0/\w.cell? (qa b 1)=some x1/\w.cell? (qa b 2)=some x2/\∀ i,w.frozen? (qa b i)=false:=by
 refine ⟨?_,?_,?_,fun i=>veq h i⟩<;>(rw [vep h];rfl)
theorem Keeps.below {R B:Nat} {w0 w w':World} (h:Below B w0 w) (hk:Keeps R w w') (hR:B<=R) (hB:B<=w.heap.size):Below B w0 w':=
 h.trans ⟨hk.os,hk.tape,hk.output,hk.size,fun k h1=>hk.block k (by omega) (by omega)⟩
theorem z1s (K:Kn) (kb:Nat) (p:Pr) (q1:OA) (d1:Nat) (q2:OA) (d2:Nat) (q3:OA) (d3:Nat) (w:World) (hK:zls w (.map (some kb)) K) (h1:DAt w Tt q1 p.params.length (zaw p.params)) (h2:DAt w Tt q2 p.locals.length (zaw p.locals)) (h3:DAt w Tt q3 p.body.length (zby p.body)) (SP:p.params.length<=3) (Fs:p.locals.length<=4) (FX:zah 6 p.body=false) :
 qc 120 #[.agg #[.map (some kb)],.agg #[.string p.name,.bool p.pub,.slice q1 p.params.length d1,.slice q2 p.locals.length d2,.slice q3 p.body.length d3]] w fun e w'=>z4g w.heap.size (zkr K p) e w'/\qb w w':=by
 have HK:=hid hK;have Kt:=hid h3;have Sp:=hid (zji 6 p.body FX)
 have hs:∀ s ∈ p.own,s.size<=maxLen:=fun s hs=>(vcd.1 hs).elim ((zc9 h1).2 s) ((zc9 h2).2 s)
 have KF:p.own.length=p.params.length+p.locals.length:=by unfold Pr.own;rw [vak]
 have HS:=hid hs;have Ht:=hid KF;have KV:qb w ((((w.alloc (.cells #[.map (some kb)] 189)).alloc (pP p q1 d1 q2 d2 q3 d3)).alloc (kzL 0 0 none 0 0)).alloc (.cells #[.slice q1 p.params.length d1,.slice q2 p.locals.length d2] 22)):=thenB (bl3 w _ _ _) (al1 _ _);have HC:=hid (zvg p.params p.locals q1 d1 q2 d2 (w.heap.size+3) ((((w.alloc (.cells #[.map (some kb)] 189)).alloc (pP p q1 d1 q2 d2 q3 d3)).alloc (kzL 0 0 none 0 0)).alloc (.cells #[.slice q1 p.params.length d1,.slice q2 p.locals.length d2] 22)) (by simp) (zty _ _ _ _ 0 _ (by simp) rfl) (zty _ _ _ _ 1 _ (by simp) rfl) ((zc9 h1).1.later KV) ((zc9 h2).1.later KV) (by omega) (by omega));have An:=hid KV;clear hK h1 h2 h3 FX hs KF KV
 obtain ⟨r,hr⟩:∃ r,r=zkr K p:=⟨_,rfl⟩
 rw [← hr];have HR:=hid hr;clear hr;go_enter Tryz.func120,Tryz.ntmps120;go_wp2_with fail;refine HC.out.mono ?_;rintro e w1 ⟨v1,rfl,GA,A5⟩;have A8:=hid (thenB An.out A5);have Ao:=A5.size;simp at Ao;obtain ⟨q0,qp,qr⟩:=zn5 (thenB (al1 _ _) A5);have P0:=hid q0;have P1:=hid qp;have P2:=hid qr;obtain ⟨x0,x1,x2,x3,x4,xf⟩:=zaa qp;obtain ⟨r0,r1,r2,rf⟩:=zef qr
 have k0:w1.cell? (qa w.heap.size 0)=some (.map (some kb)):=by rw [vep q0];rfl
 have Bd:Hid (w1.ownsRow ((((w.alloc (.cells #[.map (some kb)] 189)).alloc (pP p q1 d1 q2 d2 q3 d3)).alloc (kzL 0 0 none 0 0)).alloc (.cells #[.slice q1 p.params.length d1,.slice q2 p.locals.length d2] 22)).heap.size 9 1 v1 (p.params.length+p.locals.length) (strV p.own)):=GA;have Bh:=hid (zp7 Ht.out.symm Bd.out (by rw [Ht.out];omega) HS.out);clear A5 HC GA q0 qp qr
 cases hd:Fx.zfk (Fx.zbf p.own) with
 | true=>
   have Am:Hid (r = .error 6):=HR.out.trans (by unfold zkr;rw [hd];rfl);rw [hd] at Bh;clear hd;go_wp2_with fail;refine Bh.out.mono ?_;rintro e w2 ⟨rfl,Aa⟩;have Ad:=hid (thenB A8.out Aa);have LB:=(Aa.block _ (lt_of_heap P2.out)).trans P2.out;have CL:=lt_of_heap LB;clear r0 r1 r2 rf;obtain ⟨r0,r1,r2,rf⟩:=zef LB;clear Aa LB;go_wp2_with fail;refine bodyPost_ret (v:=.tuple #[.agg #[qi 0,qi 0,qs],qi 6]) (by simp [results,Tryz.results120,go_sem,r0,r1,r2,CL]) rfl ⟨by rw [Am.out];exact ⟨0,0,none,0,0,rfl,by decide⟩,?_⟩;exact z4h Ad.out (by omega) _ _ _
 | false=>
   have Am:Hid (r=zcx (ze7 K (zvz p.own) p.body) fun b=>.ok ⟨p.params.length,p.locals.length,b⟩):=HR.out.trans (by unfold zkr;rw [hd];rfl);rw [hd] at Bh;clear hd HR;go_wp2_with fail;refine Bh.out.mono ?_;rintro e w2 ⟨rfl,Aa⟩;have Ad:=hid (thenB A8.out Aa);have AA:=Aa.size;have P0':=hid ((Aa.block _ (lt_of_heap P0.out)).trans P0.out);have P1':=hid ((Aa.block _ (lt_of_heap P1.out)).trans P1.out);have P2':=hid ((Aa.block _ (lt_of_heap P2.out)).trans P2.out);have Ge:=hid (Fx.ownsRow_later Bd.out Aa);clear x0 x1 x2 x3 x4 xf r0 r1 r2 rf k0 Bd Bh P0 P1 P2
   have k0:w2.cell? (qa w.heap.size 0)=some (.map (some kb)):=by rw [vep P0'.out];rfl
   have Bn:=lt_of_heap P0'.out;have Cz:=lt_of_heap P1'.out;have Cg:=lt_of_heap P2'.out;obtain ⟨av,cv,rfl,hSt⟩:=zhm (l:=p.own) (by rw [Ht.out];exact Ge.out);have EM:=hid hSt;have GC:=@run_makeMap Tryz.prog;have Ka:=hid ((zkq.made w2).later (al1 _ (.cells #[.map (some kb),.map (some w2.heap.size)] 195)));clear Aa hSt Ge;rw [Ht.out];go_wp2_with fail
   go_loopw [8,9,26] (fun _ _ i wr=>∃ j:Nat,j<=p.params.length+p.locals.length/\i=qi j/\zkq wr w2.heap.size j (zvz (p.own.take j))/\Keeps w2.heap.size ((w2.alloc (.map #[] 0)).alloc (.cells #[.map (some kb),.map (some w2.heap.size)] 195)) wr) (fun _ _ i _=>p.params.length+p.locals.length - (intOf i).toNat)
   case atStart=>exact ⟨0,vae _,rfl,Ka.out,Keeps.refl _ _⟩
   case round=>
    clear Ka GC k0;obtain ⟨j,hj,rfl,KH,Bf⟩:=hrel;have Pa:=hid KH;have HE:=hid Bf;have BU:=Bf.size;simp at BU;have b0:wr.heap[w2.heap.size+1]? = some (.cells #[.map (some kb),.map (some w2.heap.size)] 195):=(Bf.block _ (by simp) (by omega)).trans (by simpa using heap_newP (w2.alloc (.map #[] 0)) (.cells #[.map (some kb),.map (some w2.heap.size)] 195));have TV:=hid b0;obtain ⟨y0,y1,yf⟩:=zcd b0;have SG:=lt_of_heap b0;clear KH Bf b0
    by_cases GE:j<p.params.length+p.locals.length
    . have A0:j<p.own.length:=by rw [Ht.out];exact GE
      obtain ⟨b,off,rfl,Au,c0⟩:=EM.out.place A0;have d0:=(HE.out.cell (off:=off+j) (by simp;omega) (by omega)).trans (((bl2 w2 (.map #[] 0) (.cells #[.map (some kb),.map (some w2.heap.size)] 195)).cell (p:=⟨b,off+j,none⟩) Au).trans c0)
      have QL:b<wr.heap.size:=by omega
      have Bq:=HS.out p.own[j] (vag _)
      have BW:Hid (z4f (zvz (p.own.take j)) p.own[j] j=zvz (p.own.take (j+1))):=by
       show _=zvz (p.own.take (j+1));rw [vaf A0,zyo,vbg,vdt (by omega)]
      generalize p.own[j]=s at *
      have Oj:j<=1000:=by have:=Ht.out;omega
      obtain ⟨w5,hrun,hL5,hg5⟩:=Pa.out.put (by unfold maxLen;omega) s Bq j (WalkArith.wf_i64 (by omega));rw [BW.out] at hL5;have RW:=hid hL5;have Nu:=hid (HE.out.grown hg5);clear hL5 hg5 c0 Bq;go_wp2_with fail;go_roundw
      case rel=>exact ⟨j+1,by omega,by go_num,RW.out,Nu.out⟩
      case measure=>simp [intOf];omega
    . obtain rfl:j=p.params.length+p.locals.length:=by omega
      have RU:Hid (zkq wr w2.heap.size (p.params.length+p.locals.length) (zvz p.own)):=by have:=Pa.out;rw [vau (by rw [Ht.out];exact vaa _)] at this;exact this
      have C9:Hid (qb w wr):=Keeps.below (thenB Ad.out (bl2 _ _ _)) HE.out (by have:=Ad.out.size;omega) (by have:=Ad.out.size;simp;omega);have RX:=hid (HK.out.later C9.out);have BX:=hid (Sp.out K (zvz p.own) (.map (some kb)) (.map (some w2.heap.size)) Tt q3 d3 wr RX.out RU.out.names (Kt.out.later C9.out));have e1:wr.heap[w.heap.size+1]? = some (pP p q1 d1 q2 d2 q3 d3):=(HE.out.block _ (by simp;omega) (by omega)).trans (zab (zab P1'.out));have e2:wr.heap[w.heap.size+2]? = some (kzL 0 0 none 0 0):=(HE.out.block _ (by simp;omega) (by omega)).trans (zab (zab P2'.out));have BR:=hid e1;have Bv:=hid e2;obtain ⟨x0,x1,x2,x3,x4,xf⟩:=zaa e1;have LW:=lt_of_heap e1;have LV:=lt_of_heap e2;clear e1 e2;go_wp2_with fail;refine BX.out.mono ?_;rintro e w6 ⟨Ak,AH⟩;have Cb:=hid (thenB C9.out AH);have I9:=AH.size
      have f1:=(AH.block _ LW).trans BR.out;have f2:=(AH.block _ LV).trans Bv.out;have Qj:=lt_of_heap f1;have Ji:=lt_of_heap f2;clear x0 x1 x2 x3 x4 xf y0 y1 yf;obtain ⟨x0,x1,x2,x3,x4,xf⟩:=zaa f1;obtain ⟨r0,r1,r2,rf⟩:=zef f2;clear AH f1 f2
      cases hr:ze7 K (zvz p.own) p.body with
      | error c=>
        rw [hr] at Ak;obtain ⟨rfl,Aj⟩:=Ak;have Av:Hid (r = .error c):=Am.out.trans (by rw [hr];rfl);clear hr;go_wp2_with fail;refine bodyPost_ret (v:=.tuple #[.agg #[qi p.params.length,qi p.locals.length,qs],qi c]) (by simp [results,Tryz.results120,go_sem,r0,r1,r2,Ji]) rfl ⟨by rw [Av.out];exact ⟨_,_,_,_,_,rfl,Aj⟩,?_⟩;exact z4h Cb.out (by omega) _ _ _
      | ok bd=>
        rw [hr] at Ak;obtain ⟨ab,cb,rfl,heb⟩:=Ak;have Av:Hid (r = .ok ⟨p.params.length,p.locals.length,bd⟩):=Am.out.trans (by rw [hr];rfl);have S7:=hid heb;clear hr heb;go_wp2_with fail;refine bodyPost_ret (v:=.tuple #[.agg #[qi p.params.length,qi p.locals.length,.slice ab bd.length cb],qi 0]) (by simp [results,Tryz.results120,go_sem,r0,r1,r2,Ji]) rfl ⟨by rw [Av.out];exact ⟨ab,cb,rfl,(S7.out.moves ((zad.refl w6 _).set3 (by intro k _ hk;have:wr.heap.size<=k:=hk;omega) _ _ _)).moves ⟨vaa _,fun b _ h=>⟨by have:wr.heap.size<=b:=h;show w.heap.size<=b;omega,rfl⟩⟩⟩,z4h Cb.out (by omega) _ _ _⟩
set_option maxHeartbeats 1600000
abbrev Fc:=Fx.Fc
def fcD (f:Fc):List D:=[.str f.name,.list f.items.length (zgb f.items)]
def z4i (l:List Fc):List D:=l.flatMap fcD
def z4j (m:Mo):Kn:=zia (fun _ _=>none) ⟨#[]⟩ 0 (za4 m)
def zho (K:Kn) (l:List Fc):Kn:=l.zipIdx.foldl (fun K p=>zia K p.1.name ((p.2:Int)+1) p.1.items) K
theorem zr1 (K:Kn) (l:List Fc) (f:Fc):zho K (l++[f])=zia (zho K l) f.name ((l.length:Int)+1) f.items:=by
 unfold zho;rw [List.zipIdx_append,vbn];simp
def zdt (m:Mo) (l:List Fc):Kn:=zho (z4j m) l
def zb6 (K:Kn):List Pr->Except Int (List Pt)
 | []=>.ok []
 | p :: r=>zcx (zkr K p) fun t=>zcx (zb6 K r) fun l=>.ok (t :: l)
def zi2 (m:Mo) (l:List Fc):Except Int Un:=zcx (zb6 (zdt m l) m.procs) fun ps=>zcx (ze7 (zdt m l) (fun _=>none) m.main) fun b=>.ok ⟨m.name,m.uses,zbw m,ps,b⟩
theorem zib (K:Kn):∀ (a b:List Pr) (A7:List Pt),zb6 K a = .ok A7->zb6 K (a++b)=zcx (zb6 K b) fun l=>.ok (A7++l)
 | [],b,A7,h=>by
   obtain rfl:=vde h;show zb6 K b=_;exact (znv _).symm
 | x :: a,b,A7,h=>by
   rw [zb6] at h;show zb6 K (x :: (a++b))=_;rw [zb6]
   cases hx:zkr K x with
   | error e=>rw [hx] at h;cases h
   | ok y=>
     rw [hx] at h;simp only [zcx] at h ⊢
     cases ha:zb6 K a with
     | error e=>rw [ha] at h;cases h
     | ok l=>
       rw [ha] at h;obtain rfl:=vde h;rw [zib K a b l ha]
       cases zb6 K b<;>rfl
theorem zvi {K:Kn} {l:List Pr} {j:Nat} {A7:List Pt} {e:Int} (h:j<l.length) (ha:zb6 K (l.take j) = .ok A7) (he:zkr K l[j] = .error e):zb6 K l = .error e:=by
 rw [zny l j h,zib K _ _ A7 ha,zb6,he];rfl
theorem zr2 {K:Kn} {l:List Pr} {j:Nat} {A7:List Pt} {y:Pt} (h:j<l.length) (ha:zb6 K (l.take j) = .ok A7) (he:zkr K l[j] = .ok y):zb6 K (l.take (j+1)) = .ok (A7++[y]):=by
 rw [vaf h,zib K _ _ A7 ha,zb6,he];rfl
theorem zvj {m:Mo} {l:List Fc} {c:Int} (h:zb6 (zdt m l) m.procs = .error c):zi2 m l = .error c:=by unfold zi2;rw [h];rfl
theorem zyp {m:Mo} {l:List Fc} {c:Int} {ps:List Pt} (h:zb6 (zdt m l) m.procs = .ok ps) (h2:ze7 (zdt m l) (fun _=>none) m.main = .error c):zi2 m l = .error c:=by unfold zi2;rw [h,h2];rfl
theorem z4k {m:Mo} {l:List Fc} {ps:List Pt} {b:List Ac} (h:zb6 (zdt m l) m.procs = .ok ps) (h2:ze7 (zdt m l) (fun _=>none) m.main = .ok b):zi2 m l = .ok ⟨m.name,m.uses,zbw m,ps,b⟩:=by unfold zi2;rw [h,h2];rfl
def zyq (lo:Nat) (r:Except Int Un) (e:Ending) (w:World):Prop:=
 match r with
 | .error c=>e = .returned (.tuple #[.agg #[.string ⟨#[]⟩,.slice none 0 0,.int .i64 0,.slice none 0 0,.slice none 0 0],.int .i64 c])/\c≠0
 | .ok u=>∃ x1 y1 x2 y2 x3 y3,e = .returned (.tuple #[.agg #[.string u.name,.slice x1 u.uses.length y1,.int .i64 u.data,.slice x2 u.parts.length y2,.slice x3 u.main.length y3],.int .i64 0])/\
   EAt w (lo<=·) x1 u.uses.length (zaw u.uses)/\EAt w (lo<=·) x2 u.parts.length (zke u.parts)/\EAt w (lo<=·) x3 u.main.length (zc7 u.main)
theorem DAt.fc {w:World} {A:Nat->Prop} {a:OA} {l:List Fc} (h:DAt w A a l.length (z4i l)) (i:Nat) (hi:i<l.length):∃ b off ai ci,a=some (qa b off)/\b<w.heap.size/\w.cell? ⟨b,off+i*2,none⟩=some (.string l[i].name)/\w.cell? ⟨b,off+i*2+1,none⟩=some (.slice ai l[i].items.length ci)/\l[i].name.size<=maxLen/\DAt w A ai l[i].items.length (zgb l[i].items):=by
 obtain ⟨b,off,ha,hb,hc⟩:=h.cell (by omega);generalize hx:l[i]=x;obtain ⟨name,items⟩:=x
 have g:∀ j d,j<2->(fcD ⟨name,items⟩)[j]? = some d->∃ v,w.cell? ⟨b,off+i*2+j,none⟩=some v/\zcv w A d v:=fun j d hj hd=>by
  rw [vbm];exact hc (i*2+j) d ((zcc fcD 2 (fun _=>rfl) l i hi j hj).trans (by rw [hx];exact hd))
 obtain ⟨v0,k0,d0⟩:=g 0 (.str name) (by omega) rfl;obtain ⟨v1,k1,d1⟩:=g 1 (.list items.length (zgb items)) (by omega) rfl;obtain ⟨rfl,w0⟩:=zcw d0;obtain ⟨ai,ci,rfl,h1⟩:=zav d1;exact ⟨b,off,ai,ci,ha,hb,k0,k1,w0,h1⟩
theorem zks {w:World} {A:Nat->Prop} {a:OA} {l:List It} (h:DAt w A a l.length (zgb l)):Fx.zcj w a l/\Fx.AllFit l:=by
 rcases h.2.2 with h | ⟨b,off,cs,ha,_,hb,hc,hx⟩
 . have:l=[]:=vam h
   subst this;exact ⟨Or.inl rfl,fun i hi=>by cases hi⟩
 . have g:∀ i (hi:i<l.length) j d,j<4->(itD l[i])[j]? = some d->∃ v,w.cell? ⟨b,off+i*4+j,none⟩=some v/\zcv w A d v:=fun i hi j d hj hd=>by
    obtain ⟨v,hv,EI⟩:=hx.get (i*4+j) d ((zcc itD 4 (fun _=>rfl) l i hi j hj).trans hd);exact ⟨v,by rw [vbm];exact hc _ v hv,EI⟩
   refine ⟨Or.inr ⟨b,off,ha,hb,fun i hi=>?_,fun i hi=>?_,fun i hi=>?_,fun i hi=>?_⟩,fun x Bz=>?_⟩
   . obtain ⟨v,hv,hd⟩:=g i hi 0 (.int l[i].kind) (by omega) rfl
     rw [(zaz hd).1] at hv;exact hv
   . obtain ⟨v,hv,hd⟩:=g i hi 1 (.int l[i].n) (by omega) rfl
     rw [(zaz hd).1] at hv;exact hv
   . obtain ⟨v,hv,hd⟩:=g i hi 2 (.int l[i].at_) (by omega) rfl
     rw [(zaz hd).1] at hv;exact hv
   . obtain ⟨v,hv,hd⟩:=g i hi 3 (.str l[i].name) (by omega) rfl
     rw [(zcw hd).1] at hv;exact hv
   . obtain ⟨i,hi,rfl⟩:=vay Bz
     obtain ⟨v,hv,hd⟩:=g i hi 3 (.str l[i].name) (by omega) rfl;exact (zcw hd).2
theorem zkt {w:World} {a:OA} {l:List It} (h:Fx.zcj w a l) {R:Nat} (hR:w.heap.size<=R):∀ b' off,l≠[]->a=some (qa b' off)->b'≠R:=by
 intro b' off hl e
 rcases h with h | ⟨b,o,e2,h⟩
 . exact absurd h hl
 . rw [e] at e2
   have:=vai e2
   injection this with e3 _
   have:=h.lt;omega
theorem Keeps.items {R:Nat} {w w':World} {a:OA} {l:List It} (h:Fx.zcj w a l) (hk:Keeps R w w') (hR:∀ b' off,l≠[]->a=some (qa b' off)->b'≠R):Fx.zcj w' a l:=by
 rcases h with h | ⟨b,o,e,h⟩
 . exact Or.inl h
 . by_cases hl:l=[]
   . exact Or.inl hl
   . have Aj:=hR b o hl e
     exact Or.inr ⟨b,o,e,vah h.lt hk.size,fun i hi=>(hk.cell h.lt Aj).trans (h.kind i hi),fun i hi=>(hk.cell h.lt Aj).trans (h.num i hi),fun i hi=>(hk.cell h.lt Aj).trans (h.at_ i hi),fun i hi=>(hk.cell h.lt Aj).trans (h.name i hi)⟩
end Go.Proofs.YtndkhgakfodldaaGreatDoor
