import Derived.Lib.AppendZeros
import Derived.Test.YtndkhgakfodldaaGreatDoorKh
namespace Go.Proofs.YtndkhgakfodldaaGreatDoor
set_option maxRecDepth 100000
set_option maxHeartbeats 1600000
open Go.RowKit Go.Maps Go.WideMaps
set_option linter.unusedSimpArgs false
def strV (l:List ByteArray):List Value:=l.map Value.string
theorem zp0 (a b:List ByteArray):strV (a++b)=strV a++strV b:=vce ..
theorem zrd (l:List ByteArray):(strV l).length=l.length:=vbd ..
theorem zyi (l:List ByteArray):∀ u ∈ strV l,u.oneCell'=true:=fun u hu=>by
 obtain ⟨s,_,rfl⟩:=vcb.1 hu
 rfl
theorem zd2 {P:Program} {w:World} (base:Nat) (t ty e:TypeId) (i:TypeInfo) (size c:Nat) (ht:P.underlying t=some (.slice e)) (hi:P.info? e=some i)
 (v:Value) (n:Nat) (xs:List Value) (hown:w.ownsRow base e size v n xs) :
 (Builtin.append_ #[t,t] ty #[v,.slice none 0 c]).run P w = .ok v w:=by
 rcases hown.2 with ⟨rfl,rfl⟩ | ⟨g,cap,cur,rfl,_,_,hnc,_⟩
 . simp [Builtin.append_,run_underlying ht,Go.sizeOf,typeInfo,hi,Builtin.lenOf,Builtin.firstCells]
 . simp [Builtin.append_,run_underlying ht,Go.sizeOf,typeInfo,hi,Builtin.lenOf,Builtin.firstCells,hnc,storeCells]
theorem zdu {w:World} (base:Nat) (ty:TypeId) (v:Value) (n:Nat) (xs:List Value) (hown:w.ownsRow base 9 1 v n xs) (us:List ByteArray) (b:OA) (c:Nat) (hS:Fx.zej w b us) (hlen:n+us.length<=10000) (hbase:base<=w.heap.size) :
 ∃ v' w',(Builtin.append_ #[22,22] ty #[v,.slice b us.length c]).run Tryz.prog w = .ok v' w'/\w'.ownsRow base 9 1 v' (n+us.length) (xs++strV us)/\w.grownBy w' v.ownBlock:=by
 obtain ⟨i0,hi,hz0,hz1,hz2⟩:=info_parts Tryz.infoP9
 have go:∀ ad:Addr,b=some ad->(∀ j u,(strV us)[j]? = some u->w.cell? (ad.add j)=some u)->∃ v' w',(Builtin.append_ #[22,22] ty #[v,.slice b us.length c]).run Tryz.prog w = .ok v' w'/\w'.ownsRow base 9 1 v' (n+us.length) (xs++strV us)/\w.grownBy w' v.ownBlock:=by
  rintro ad rfl hn;obtain ⟨v',w',h1,h2,h3,_⟩:=run_append_own (P:=Tryz.prog) (w:=w) base 22 ty 9 i0 _ 1 16 Tryz.underlying22 hi hz0 hz1 hz2 rfl (by decide) v n xs hown ad us.length c (strV us) (by rw [zrd,vea]) hn (zyi us) (by unfold maxLen;omega) (by omega) hbase;exact ⟨v',w',h1,h2,h3⟩
 rcases hS with rfl | ⟨b1,off,rfl,hb1,h⟩
 . cases b with
   | none=>exact ⟨v,w,zd2 base _ ty _ i0 1 c Tryz.underlying22 hi v n xs hown,by simpa [strV] using hown,⟨rfl,rfl,rfl,vaa _,fun _ _ _=>rfl⟩⟩
   | some ad=>exact go ad rfl (fun j u hj=>by simp [strV] at hj)
 . refine go _ rfl (fun j u hj=>?_)
   have hj':j<us.length:=by
    rcases vbe j us.length with h' | h'
    . exact h'
    . rw [vbi (by rw [zrd];exact h')] at hj;cases hj
   have e:(⟨b1,off,none⟩:Addr).add j=⟨b1,off+j,none⟩:=by unfold Addr.add;split<;>simp_all
   rw [e,h j hj'];simp [strV,hj'] at hj;rw [hj]
theorem zyj (n:Nat) (w:World) (hn:n<=10000) :
 Calls Tryz.prog 204 #[.slice none 0 0,.int .i64 n] w fun e w'=>∃ v,e = .returned v/\w'.ownsRow w.heap.size 9 1 v 0 []/\Below w.heap.size w w':=by
 obtain ⟨i0,hi,hz0,hz1,hz2⟩:=info_parts Tryz.infoP9
 have hw:IntKind.i64.wrap (n:Int)=n:=by simp only [IntKind.wrap,IntKind.bits,IntKind.signed];simp;omega
 by_cases h0:n=0
 . subst h0
   go_enter Tryz.func204,Tryz.ntmps204;go_wp2_with fail;go_ret;exact ⟨_,rfl,vei _ _ _ _,Below.refl _ _⟩
 . have hr:=fun ty=>Lib.run_append_nil_zeros (P:=Tryz.prog) w 22 3 ty 9 i0 _ .i64 .i64 Tryz.underlying22 Tryz.underlying3 hi hz0 n (by omega) (by omega) (by omega) (by rw [hz2];omega)
   have hge:=grownCap_ge w n 0 9
   have HOw:Hid ((w.drew.alloc (.cells (Builtin.zeroCells (Value.string ⟨#[]⟩).cells n++Builtin.zeroCells (Value.string ⟨#[]⟩).cells (grownCap w n 0 9 - n)) 9)).ownsRow w.heap.size 9 1 (.slice (some ⟨w.heap.size,0,none⟩) 0 (grownCap w n 0 9)) 0 []):=by
    refine ⟨rfl,Or.inr ⟨w.heap.size,_,_,rfl,vaa _,heap_alloc_new w.drew _,vad _,grownCap_le_maxLen w n 0 _ (by unfold maxLen;omega),?_,by simp⟩⟩;rw [Array.size_append,size_zeroCells,size_zeroCells];show n*1+(grownCap w n 0 9 - n)*1=_;omega
   have HBw:Hid (Below w.heap.size w (w.drew.alloc (.cells (Builtin.zeroCells (Value.string ⟨#[]⟩).cells n++Builtin.zeroCells (Value.string ⟨#[]⟩).cells (grownCap w n 0 9 - n)) 9))):=((Below.refl w.heap.size w).drew).alloc (vaa _) _
   have hpos:(0:Int)<n:=by omega
   generalize (w.drew.alloc (.cells (Builtin.zeroCells (Value.string ⟨#[]⟩).cells n++Builtin.zeroCells (Value.string ⟨#[]⟩).cells (grownCap w n 0 9 - n)) 9))=w2 at *;generalize grownCap w n 0 9=cp at *
   have hcp:(n:Int)<=cp:=by omega
   go_enter Tryz.func204,Tryz.ntmps204
   go_wp2_with (at_builtin;refine Lib.wpList_append_run _ rfl (.tmp 20) (.tmp 21) 22 3 rfl _ _ rfl rfl _ _ (hr _) ?_)
   go_ret;exact ⟨_,rfl,HOw.out,HBw.out⟩
set_option maxHeartbeats 3200000
theorem zs1 (x y:List ByteArray) (a1:OA) (c1:Nat) (a2:OA) (c2 b:Nat) (w:World) (hb:b<w.heap.size) (h0:w.cell? ⟨b,0,none⟩=some (.slice a1 x.length c1)) (h1:w.cell? ⟨b,1,none⟩=some (.slice a2 y.length c2))
 (hx:Fx.zej w a1 x) (hy:Fx.zej w a2 y) (hlx:x.length<=1000) (hly:y.length<=1000) :
 Calls Tryz.prog 161 #[.slice (some ⟨b,0,none⟩) 2 2] w fun e w'=>∃ v,e = .returned v/\w'.ownsRow w.heap.size 9 1 v (x.length+y.length) (strV (x++y))/\Below w.heap.size w w':=by
 have HX:=hid hx;have HY:=hid hy;have H0:=hid h0;have H1:=hid h1;clear hx hy
 have hw1:IntKind.i64.wrap (x.length:Int)=x.length:=by simp only [IntKind.wrap,IntKind.bits,IntKind.signed];simp;omega
 have hw2:IntKind.i64.wrap ((x.length:Int)+(y.length:Int))=((x.length+y.length:Nat):Int):=by simp only [IntKind.wrap,IntKind.bits,IntKind.signed];simp;omega
 have hs1:(0:Int)<=x.length:=by omega
 have hs2:(0:Int)<=((x.length+y.length:Nat):Int):=by omega
 have HG:=hid (zyj (x.length+y.length) w (by omega));go_enter Tryz.func161,Tryz.ntmps161;go_wp2_with fail
 go_loopw [3,5,11] (fun s _ i wr=>∃ j:Nat,j<=2/\i = .int .i64 j/\s = .int .i64 (if j=0 then 0 else if j=1 then (x.length:Int) else ((x.length+y.length:Nat):Int))/\w=wr) (fun _ _ i _=>2 - (intOf i).toNat)
 case atStart=>exact ⟨0,by omega,rfl,rfl,rfl⟩
 case round=>
  obtain ⟨j,hj,rfl,rfl,rfl⟩:=hrel
  obtain rfl | rfl | rfl:j=0\/j=1\/j=2:=by omega
  . go_wp2_with fail
    go_roundw
    case rel=>exact ⟨1,by omega,rfl,rfl,trivial⟩
    case measure=>simp [intOf]
  . go_wp2_with fail
    go_roundw
    case rel=>exact ⟨2,by omega,rfl,rfl,trivial⟩
    case measure=>simp [intOf]
  . go_wp2_with fail
    refine HG.out.mono ?_;rintro e w1 ⟨v1,rfl,ho1,hb1⟩;have HO1:=hid ho1;have HB1:=hid hb1;have hz1:=hb1.size;clear ho1 hb1 HG h0 h1;go_wp2_with fail
    go_loopw [6,8,27] (fun v _ i wr=>∃ j:Nat,j<=2/\i = .int .i64 j/\wr.ownsRow w.heap.size 9 1 v (if j=0 then 0 else if j=1 then x.length else x.length+y.length) (if j=0 then [] else if j=1 then strV x else strV (x++y))/\Below w.heap.size w wr) (fun _ _ i _=>2 - (intOf i).toNat)
    case atStart=>exact ⟨0,by omega,rfl,HO1.out,HB1.out⟩
    case round=>
     clear HO1 HB1 hz1;obtain ⟨j,hj,rfl,ho,hbr⟩:=hrel;have HB:=hid hbr;have hzr:=hbr.size;have hb':b<wr.heap.size:=vac hb hzr;have k0:=(hbr.cell (p:=⟨b,0,none⟩) hb).trans H0.out;have k1:=(hbr.cell (p:=⟨b,1,none⟩) hb).trans H1.out;clear hbr
     obtain rfl | rfl | rfl:j=0\/j=1\/j=2:=by omega
     . have ho':wr.ownsRow w.heap.size 9 1 u6 0 []:=ho
       obtain ⟨v',w',hr,h2,h3⟩:=zdu w.heap.size 22 u6 0 [] ho' x a1 c1 (HX.out.later HB.out) (by omega) hzr;have HO2:Hid (w'.ownsRow w.heap.size 9 1 v' x.length (strV x)):=hid (by simpa using h2);have HB2:=hid (HB.out.grown h3 hzr (fun k hk=>(ho'.lt k hk).1));clear ho ho' h2 h3
       go_wp2_with (at_builtin;refine Lib.wpList_append_run _ rfl (.tmp 31) (.tmp 32) 22 22 rfl _ _ rfl rfl _ _ hr ?_)
       go_roundw
       case rel=>exact ⟨1,by omega,rfl,HO2.out,HB2.out⟩
       case measure=>simp [intOf]
     . have ho':wr.ownsRow w.heap.size 9 1 u6 x.length (strV x):=ho
       obtain ⟨v',w',hr,h2,h3⟩:=zdu w.heap.size 22 u6 x.length (strV x) ho' y a2 c2 (HY.out.later HB.out) (by omega) hzr
       have HO2:Hid (w'.ownsRow w.heap.size 9 1 v' (x.length+y.length) (strV (x++y))):=by rw [zp0];exact h2
       have HB2:=hid (HB.out.grown h3 hzr (fun k hk=>(ho'.lt k hk).1));clear ho ho' h2 h3
       go_wp2_with (at_builtin;refine Lib.wpList_append_run _ rfl (.tmp 31) (.tmp 32) 22 22 rfl _ _ rfl rfl _ _ hr ?_)
       go_roundw
       case rel=>exact ⟨2,by omega,rfl,HO2.out,HB2.out⟩
       case measure=>simp [intOf]
     . have HO2:Hid (wr.ownsRow w.heap.size 9 1 u6 (x.length+y.length) (strV (x++y))):=ho
       clear ho;go_wp2_with fail;go_ret;exact ⟨_,rfl,HO2.out,HB.out⟩
theorem zmk {w:World} {B:Nat} {v:Value} {l:List ByteArray} (h:w.ownsRow B 9 1 v l.length (strV l)):∃ a cap,v = .slice a l.length cap/\Fx.zej w a l:=by
 rcases h.2 with ⟨hv,h0⟩ | ⟨g,cap,cur,hv,hB,hg,_⟩
 . have hl:l=[]:=vam h0
   exact ⟨none,0,by rw [hv,hl];rfl,Or.inl hl⟩
 . refine ⟨_,cap,hv,Or.inr ⟨g,0,rfl,zab hg,fun i hi=>?_⟩⟩
   have:=h.cells (g:=g) (by rw [hv];rfl) i (.string l[i]) (by simp [strV,hi]);rw [show (⟨g,0,none⟩:Addr).add i=⟨g,i,none⟩ from by unfold Addr.add;split<;>simp_all] at this;rw [vbc];exact this
theorem keyedStr:Keyed Tryz.prog 9:=string_keyed Tryz.underlying9
theorem zeroInt (w:World):(zeroValue 3).run Tryz.prog w = .ok (.int .i64 0) w:=by kernel_rfl
def ztf (L:Lc) (s:ByteArray) (i:Int):Lc:=fun a=>if a=s then some i else L a
def z2x (D:DataW Unit) (L:Lc):Prop:=∀ a:ByteArray,has D (.string a.data.toList)=(L a).isSome/\D.atKey (.string a.data.toList) (.lit (.int .i64 0)) = .lit (.int .i64 ((L a).getD 0))
theorem zn8 {a b:ByteArray} (h:a.data.toList=b.data.toList):a=b:=by
 cases a;cases b;simp at h;rw [h]
theorem z2x.put {D:DataW Unit} {L:Lc} (h:z2x D L) (hD:IsMap D) (s:ByteArray) (i:Int):z2x (D.put (.string s.data.toList) (.lit (.int .i64 i))) (ztf L s i):=by
 intro a
 by_cases e:a=s
 . subst e
   simp only [ztf,if_true];exact ⟨has_put_same (k:=.string a.data.toList) hD trivial _,atKey_put_same (k:=.string a.data.toList) hD trivial _ _⟩
 . have hne:Lit.string a.data.toList≠.string s.data.toList:=fun h=>e (zn8 (by injection h))
   simp only [ztf,if_neg e];rw [has_put_other hne,atKey_put_other hne];exact h a
def zff (w:World) (b n:Nat) (L:Lc):Prop:=∃ D:DataW Unit,w.ownsMap Tryz.prog 9 (plainElem Tryz.prog 3) b n D/\z2x D L
theorem zff.lt {w:World} {b n:Nat} {L:Lc} (h:zff w b n L):b<w.heap.size:=by obtain ⟨D,h1,_⟩:=h;exact h1.lt
theorem zff.later {w w':World} {b n:Nat} {L:Lc} (h:zff w b n L) (hb:Below w.heap.size w w'):zff w' b n L:=by
 have hlt:=h.lt;obtain ⟨D,h1,h2⟩:=h;obtain ⟨es,clock,hb',r⟩:=h1;exact ⟨D,⟨es,clock,(hb.block b hlt).trans hb',r⟩,h2⟩
theorem zff.made (w:World):zff (w.alloc (.map #[] 0)) w.heap.size 0 (fun _=>none):=⟨.map [],vek w _ _ _,fun _=>⟨rfl,rfl⟩⟩
theorem zff.names {w:World} {b n:Nat} {L:Lc} (h:zff w b n L):zk4 w (.map (some b)) L:=by
 intro w' hb s hs;obtain ⟨D,k1,k2⟩:=h.later hb;obtain ⟨v,ps,hrun,hv⟩:=k1.look_ok keyedStr Tryz.underlying185 (zeroInt w') (zd:=.lit (.int .i64 0)) (zp:=[]) (plainElem_int Tryz.underlying3 (by decide)) (keyOf_string_mk Tryz.underlying9 hs);obtain ⟨c,rfl,hc,_⟩:=plainElem_int_inv Tryz.underlying3 hv;simp only [vdn] at hc;have hc:=hc.1;rw [(k2 s).2] at hc
 injection hc with hc
 injection hc with _ hc
 rw [hrun,← hc,(k2 s).1]
theorem zs2 (w:World):zk4 w (.map none) (fun _=>none):=by
 intro w' hb s hs;rw [look_nil true keyedStr Tryz.underlying185 (zeroInt w') (keyOf_string_mk Tryz.underlying9 hs)]
 rfl
theorem zff.put {w:World} {b n:Nat} {L:Lc} (h:zff w b n L) (hn:n<maxLen) (s:ByteArray) (hs:s.size<=maxLen) (i:Int) (hi:(Lit.int .i64 i).wf=true) :
 ∃ w',(Instr.mapUpdate 185 (.map (some b)) (.string s) (.int .i64 i)).run Tryz.prog w = .ok () w'/\zff w' b (n+1) (ztf L s i)/\w.grownBy w' (some b):=by
 obtain ⟨D,k1,k2⟩:=h;obtain ⟨w',r1,r2,r3⟩:=k1.update keyedStr Tryz.underlying185 hn (keyOf_string_mk Tryz.underlying9 hs) (plainElem_int (a:=i) Tryz.underlying3 hi);exact ⟨w',r1,⟨_,r2,k2.put k1.isMap s i⟩,r3⟩
def zhy (l:List ByteArray):Lc:=l.zipIdx.foldl (fun f p=>ztf f p.1 (p.2:Int)) (fun _=>none)
theorem zg5 (l:List ByteArray) (s:ByteArray):zhy (l++[s])=ztf (zhy l) s l.length:=by
 unfold zhy;rw [List.zipIdx_append,vcd];simp
set_option linter.unusedVariables false
def namesU (l:List Un):List ByteArray:=l.map Un.name
theorem zdv (l:List Un) (j:Nat) (h:j<l.length):namesU (l.take (j+1))=namesU (l.take j)++[l[j].name]:=by
 unfold namesU;rw [vaf h,vce];rfl
def cntL (l:List ByteArray):Lc:=l.foldl (fun f s=>ztf f s ((f s).getD 0+1)) (fun _=>none)
theorem zjd (l:List ByteArray) (s:ByteArray):cntL (l++[s])=ztf (cntL l) s ((cntL l s).getD 0+1):=by unfold cntL;rw [vcd];rfl
theorem zvq (s:ByteArray):∀ l:List ByteArray,0<=(cntL l s).getD 0/\(cntL l s).getD 0<=l.length:=by
 apply Fx.zbw
 . exact ⟨vcv _,vcv _⟩
 . intro l a ih
   rw [zjd,vag];unfold ztf
   by_cases e:s=a
   . subst e
     rw [if_pos rfl];simp only [vba,vbg];omega
   . rw [if_neg e,vbg]
     omega
theorem zvr (s:ByteArray):∀ l:List ByteArray,((cntL l s).getD 0=0)↔s ∉ l:=by
 apply Fx.zbw
 . exact ⟨fun _ h=>(by cases h),fun _=>rfl⟩
 . intro l a ih
   have hb:=zvq s l;rw [zjd,vbp,vby];unfold ztf
   by_cases e:s=a
   . subst e
     rw [if_pos rfl];simp only [vba];exact ⟨fun h=>by omega,fun h=>absurd (Or.inr (by trivial)) h⟩
   . rw [if_neg e,ih]
     exact ⟨fun h k=>k.elim h e,fun h k=>h (Or.inl k)⟩
theorem zff.look {w:World} {b n:Nat} {L:Lc} (h:zff w b n L) (s:ByteArray) (hs:s.size<=maxLen) :
 (Instr.lookup 185 (.map (some b)) (.string s) false).run Tryz.prog w = .ok (.int .i64 ((L s).getD 0)) w:=by
 obtain ⟨D,k1,k2⟩:=h;obtain ⟨c,hrun,hat,_⟩:=k1.lookup_int keyedStr Tryz.underlying185 Tryz.underlying3 (zeroInt w) (keyOf_string_mk Tryz.underlying9 hs);rw [(k2 s).2] at hat
 injection hat with hat
 injection hat with _ hat
 rw [hrun,hat]
def zwh (l:List ByteArray) (s:ByteArray):Bool:=l.any fun x=>decide (x=s)
theorem memB_iff {l:List ByteArray} {s:ByteArray}:zwh l s=true↔s ∈ l:=by
 unfold zwh;rw [vdr];exact ⟨fun ⟨x,hx,h⟩=>(of_decide_eq_true h) ▸ hx,fun h=>⟨s,h,decide_eq_true rfl⟩⟩
theorem zyk {l:List ByteArray} {s:ByteArray} (h:s ∉ l):zwh l s=false:=by
 cases hm:zwh l s with
 | false=>rfl
 | true=>exact absurd (memB_iff.1 hm) h
def zdc (l:List Un):Nat->Bool
 | 0=>true
 | j+1=>zdc l j&&(match l[j]? with | some u=>u.uses.all (zwh (namesU (l.take j))) | none=>true)
def zez (l:List Un):Bool:=zdc l l.length
theorem zn9 {l:List Un} {j:Nat} (h:j<l.length):zdc l (j+1)=(zdc l j&&l[j].uses.all (zwh (namesU (l.take j)))):=by
 rw [zdc,vaj h]
theorem zg6 {l:List Un} {j:Nat} (h:zdc l j=false):∀ k,j<=k->zdc l k=false
 | 0, hk => by obtain rfl:j=0:=by omega
               exact h
 | k + 1,hk=>by
   rcases vbe k j with h1 | h1
   . obtain rfl:j=k+1:=by omega
     exact h
   . rw [zdc,zg6 h k h1];rfl
theorem zje {w w':World} {b g:Nat} {x:Obj} (hg:w.grownBy w' (some g)) (hne:b≠g) (h:w.heap[b]? = some x):w'.heap[b]? = some x:=
 (hg.block b (zab h) (by simpa using hne)).trans h
theorem zh7 (l:List Un) (a:OA) (cap:Nat) (w:World) (hD:DAt w Tt a l.length (zfs l)) (h4:l.length<=4) :
 Calls Tryz.prog 69 #[.slice a l.length cap] w fun e w'=>e = .returned (.bool (zez l))/\Below w.heap.size w w':=by
 have hmm:=@run_makeMap Tryz.prog;have HD:=hid hD;clear hD;go_enter Tryz.func69,Tryz.ntmps69;go_wp2_with fail
 go_loopw [11] (fun i wr=>∃ j:Nat,j<=l.length/\i = .int .i64 j/\zdc l j=true/\zff wr w.heap.size j (cntL (namesU (l.take j)))/\Below w.heap.size w wr) (fun i _=>l.length - (intOf i).toNat)
 case atStart=>exact ⟨0,vad _,rfl,rfl,zff.made _,al1 _ _⟩
 case round=>
  obtain ⟨j,hj,rfl,hall,hm,hb⟩:=hrel;have HM:=hid hm;have HB:=hid hb;have HL:=hid hall;have hzm:=hm.lt;clear hall hm hb
  by_cases hlt:j<l.length
  . obtain ⟨b,off,a1,k1,a2,k2,a3,k3,rfl,hx⟩:=(HD.out.later HB.out).un j hlt
    have HS:=hid (zn9 hlt);have HN:=hid (zdv l j hlt);obtain ⟨hbl,c0,c1,c2,c3,c4,hus,_,_,hnm,_⟩:=hx;have hub:=hus.bound;have HUs:=hid (hus.later (al1 wr (.cells #[.string l[j].name,.slice a1 l[j].uses.length k1,.int .i64 l[j].data,.slice a2 l[j].parts.length k2,.slice a3 l[j].main.length k3] 42)))
    have HLen:Hid ((namesU (l.take j)).length<=4):=by show _<=4;unfold namesU;rw [vbd,vbm];omega
    generalize namesU (l.take j)=ns at *;generalize l[j]=x at *;clear hus;have HM1:=hid (HM.out.later (al1 wr (.cells #[.string x.name,.slice a1 x.uses.length k1,.int .i64 x.data,.slice a2 x.parts.length k2,.slice a3 x.main.length k3] 42)));have HX1:Hid ((wr.alloc (.cells #[.string x.name,.slice a1 x.uses.length k1,.int .i64 x.data,.slice a2 x.parts.length k2,.slice a3 x.main.length k3] 42)).heap[wr.heap.size]? = some (.cells #[.string x.name,.slice a1 x.uses.length k1,.int .i64 x.data,.slice a2 x.parts.length k2,.slice a3 x.main.length k3] 42 (0,0))):=heap_newP _ _;have HB1:=hid (thenB HB.out (al1 wr (.cells #[.string x.name,.slice a1 x.uses.length k1,.int .i64 x.data,.slice a2 x.parts.length k2,.slice a3 x.main.length k3] 42)))
    have HZ:Hid ((wr.alloc (.cells #[.string x.name,.slice a1 x.uses.length k1,.int .i64 x.data,.slice a2 x.parts.length k2,.slice a3 x.main.length k3] 42)).heap.size=wr.heap.size+1):=by show _=_;simp
    go_wp2_with fail;generalize hW1:wr.alloc (.cells #[.string x.name,.slice a1 x.uses.length k1,.int .i64 x.data,.slice a2 x.parts.length k2,.slice a3 x.main.length k3] 42)=W1 at *;clear hW1;have hzz:=HZ.out;clear c0 c1 c2 c3 c4 hbl
    go_loopw [18] (fun i W=>∃ k:Nat,k<=x.uses.length/\i = .int .i64 k/\(x.uses.take k).all (zwh ns)=true/\W=W1) (fun i _=>x.uses.length - (intOf i).toNat)
    case atStart=>exact ⟨0,vad _,rfl,rfl,rfl⟩
    case round=>
     obtain ⟨k,hk,rfl,hall,rfl⟩:=hrel;have HAll:=hid hall;clear hall
     by_cases hlt2:k<x.uses.length
     . obtain ⟨b2,off2,rfl,hb2,d0,hsz⟩:=HUs.out.str k hlt2
       have hlk:=HM1.out.look x.uses[k] hsz;have HZr:=hid (zvr x.uses[k] ns);have HF:=hid (all_not x.uses (zwh ns) k hlt2);have HT:=hid (all_snoc x.uses (zwh ns) k hlt2);generalize x.uses[k]=s at *;generalize (cntL ns s).getD 0=cc at *
       by_cases t1:cc=0
       . have HR:Hid (zez l=false):=by
          show _=_;refine zg6 (j:=j+1) ?_ l.length (by omega);rw [HS.out,HF.out (zyk (HZr.out.1 t1)),Bool.and_false]
         subst t1;go_wp2_with fail;go_ret;exact ⟨zaa (by first | exact HR.out.symm | (rw [HR.out]<;>first | (simp;omega) | (simp [*];done))),HB1.out⟩
       . have HT':Hid ((x.uses.take (k+1)).all (zwh ns)=true):=by
          show _=_
          rw [HT.out,HAll.out,memB_iff.2 (Classical.byContradiction fun h=>t1 (HZr.out.2 h))];rfl
         go_wp2_with fail;go_roundw
         case rel=>exact ⟨k+1,by omega,by go_num,HT'.out,trivial⟩
         case measure=>simp [intOf];omega
     . have HT:Hid (zdc l (j+1)=true):=by show _=_;rw [HS.out,HL.out,zb1 HAll.out hlt2];rfl
       have hlk:=HM1.out.look x.name hnm;have HBd:=hid (zvq x.name ns);have HC:=hid (zjd ns x.name)
       have hwr:IntKind.i64.wrap ((cntL ns x.name).getD 0+1)=(cntL ns x.name).getD 0+1:=by
        have:=HBd.out;have:=HLen.out
        simp only [IntKind.wrap,IntKind.bits,IntKind.signed];simp;omega
       obtain ⟨w2,hup,hm2,hg2⟩:=HM1.out.put (by unfold maxLen;omega) x.name hnm ((cntL ns x.name).getD 0+1) (by have:=HBd.out;have:=HLen.out;simp only [Lit.wf,vae,decide_eq_true_eq];exact ⟨by show (-9223372036854775808:Int)<=_;omega,by show _<=(9223372036854775807:Int);omega⟩);obtain ⟨e0,e1,e2,e3,e4,_⟩:=zad HX1.out;have HM2:=hid hm2;have HB2:=hid (HB1.out.grown hg2 HB1.out.size (fun q hq=>by cases hq;exact vaa _));clear hm2 hg2;generalize (cntL ns x.name).getD 0=cc at *;have hc1:0<=cc:=HBd.out.1
       have hc2:cc<=4:=by have:=HBd.out.2;have:=HLen.out;omega
       go_wp2_with fail;go_roundw
       case rel=>exact ⟨j+1,by omega,by go_num,HT.out,by rw [HN.out,HC.out];exact HM2.out,HB2.out⟩
       case measure=>simp [intOf];omega
  . obtain rfl:j=l.length:=by omega
    go_wp2_with fail;go_ret;exact ⟨zaa (by first | exact HL.out.symm | (rw [HL.out]<;>first | (simp;omega) | (simp [*];done))),HB.out⟩
theorem zh8 (l:List Un) (a:OA) (cap:Nat) (w:World) (hD:DAt w Tt a l.length (zfs l)) (h4:l.length<=4) :
 Calls Tryz.prog 70 #[.slice a l.length cap] w fun e w'=>e = .returned (.bool (Fx.zgj (Fx.lists (namesU l))))/\Below w.heap.size w w':=by
 have hmm:=@run_makeMap Tryz.prog;have HD:=hid hD;clear hD;go_enter Tryz.func70,Tryz.ntmps70;go_wp2_with fail
 go_loopw [9] (fun i wr=>∃ (k:Nat) (D:DataW Unit),k<=l.length/\i = .int .i64 k/\wr.ownsMap Tryz.prog 9 (plainElem Tryz.prog 3) w.heap.size k D/\Fx.MapInv D (Fx.lists (namesU (l.take k)))/\Below w.heap.size w wr) (fun i _=>l.length - (intOf i).toNat)
 case atStart=>exact ⟨0,.map [],vad _,rfl,vek _ _ _ _,Fx.zle,al1 _ _⟩
 case round=>
  obtain ⟨k,D,hk,rfl,hown,hinv,hb⟩:=hrel;have HI:=hid hinv;have HO:=hid hown;have HB:=hid hb;have hzm:=hown.lt;clear hown hb hinv
  by_cases hlt:k<l.length
  . obtain ⟨b,off,a1,k1,a2,k2,a3,k3,rfl,hx⟩:=(HD.out.later HB.out).un k hlt
    have HN:=hid (zdv l k hlt);obtain ⟨hbl,c0,c1,c2,c3,c4,_,_,_,hnm,_⟩:=hx
    have HK:Hid (Fx.lists (namesU (l.take k))++[l[k].name.data.toList]=Fx.lists (namesU (l.take (k+1)))):=by show _=_;rw [HN.out,Fx.zlf]
    have HKey:=hid (keyOf_string_mk (P:=Tryz.prog) Tryz.underlying9 hnm);generalize l[k]=x at *;have HO1:=hid (HO.out.alloc (.cells #[.string x.name,.slice a1 x.uses.length k1,.int .i64 x.data,.slice a2 x.parts.length k2,.slice a3 x.main.length k3] 42));have HB1:=hid (thenB HB.out (al1 wr (.cells #[.string x.name,.slice a1 x.uses.length k1,.int .i64 x.data,.slice a2 x.parts.length k2,.slice a3 x.main.length k3] 42)));clear hnm
    go_wp2_with (first
     | (at_lookup;refine wpList_lookup_own_int _ rfl _ _ 185 rfl 9 3 .i64 Fx.law Tryz.underlying185 Tryz.underlying3 (Fx.z2k _) w.heap.size k D rfl HO1.out _ _ rfl HKey.out ?_;intro c hat hwc;clear hat hwc)
     | (at_mapUpdate;refine wpList_mapUpdate_own _ rfl _ _ _ 185 rfl 9 3 Fx.law Tryz.underlying185 _ w.heap.size k D rfl HO1.out (by unfold maxLen;omega) _ _ _ rfl rfl HKey.out _ [] (plainElem_int Tryz.underlying3 (wrap64_wf _)) ?_;intro w1 hown1 hgrow1;have HO2:=hid hown1;have HG:=hid hgrow1;clear hown1 hgrow1))
    go_roundw
    case rel=>exact ⟨k+1,_,by omega,by go_num,HO2.out,by rw [← HK.out];exact HI.out.put (HO.out.tidy Fx.law) HO.out.isMap _ _,HB1.out.grown HG.out HB1.out.size (fun j hj=>by cases hj;exact vaa _)⟩
    case measure=>simp [intOf];omega
  . have HE:Hid (Maps.size D=(Fx.zgc (Fx.lists (namesU l))).length):=by
     have:=HI.out.size;rw [vao (by omega)] at this;exact this
    have HLn:Hid ((Fx.lists (namesU l)).length=l.length):=by show _=_;simp [Fx.lists,namesU]
    go_wp2_with (at_len;refine wpList_len_own _ rfl _ _ rfl 9 3 Tryz.underlying185 _ w.heap.size k D rfl HO.out ?_)
    go_ret;exact ⟨zaa (by unfold Fx.zgj;rw [← HE.out,HLn.out]),HB.out⟩
def sumD (l:List Un):Int:=(l.map Un.data).sum
theorem zei (l:List Un) (j:Nat) (h:j<l.length):sumD (l.take (j+1))=sumD (l.take j)+l[j].data:=by
 unfold sumD;rw [vaf h,vce,List.sum_append];simp
theorem zho (l:List Un) (hb:∀ u ∈ l,0<=u.data/\u.data<=512):∀ j:Nat,0<=sumD (l.take j)/\sumD (l.take j)<=512*j
 | 0=>by simp [sumD]
 | j + 1=>by
   have ih:=zho l hb j
   rcases vbe j l.length with h | h
   . have:=hb l[j] (vah h)
     rw [zei l j h];omega
   . rw [vao (by omega)]
     rw [vao (by omega)] at ih;omega
theorem zml (l:List Un) (a:OA) (cap:Nat) (w:World) (hD:DAt w Tt a l.length (zfs l)) (h4:l.length<=4) (hb:∀ u ∈ l,0<=u.data/\u.data<=512) :
 Calls Tryz.prog 72 #[.slice a l.length cap] w fun e w'=>e = .returned (.bool (decide (sumD l<=512)))/\Below w.heap.size w w':=by
 have HBd:=hid (zho l hb);have HE:=hid hb;have HD:=hid hD;clear hD hb;go_enter Tryz.func72,Tryz.ntmps72;go_wp2_with fail
 go_loopw [3,8] (fun v i wr=>∃ j:Nat,j<=l.length/\i = .int .i64 j/\v = .int .i64 (sumD (l.take j))/\Below w.heap.size w wr) (fun _ i _=>l.length - (intOf i).toNat)
 case atStart=>exact ⟨0,vad _,rfl,rfl,Below.refl _ _⟩
 case round=>
  obtain ⟨j,hj,rfl,rfl,hb⟩:=hrel;have HB:=hid hb;obtain ⟨g1,g2⟩:=HBd.out j;clear hb
  by_cases hlt:j<l.length
  . obtain ⟨b,off,a1,k1,a2,k2,a3,k3,rfl,hx⟩:=(HD.out.later HB.out).un j hlt
    have HS:=hid (zei l j hlt);obtain ⟨g3,g4⟩:=HE.out l[j] (vah hlt);obtain ⟨hbl,c0,c1,c2,c3,c4,_,_,_,_,_⟩:=hx;generalize l[j]=x at *;generalize sumD (l.take j)=sm at *
    have hws:IntKind.i64.wrap (sm+x.data)=sm+x.data:=by simp only [IntKind.wrap,IntKind.bits,IntKind.signed];simp;omega
    go_wp2_with fail;go_roundw
    case rel=>exact ⟨j+1,by omega,by go_num,by rw [HS.out],thenB HB.out (al1 _ _)⟩
    case measure=>simp [intOf];omega
  . have HR:Hid (sumD (l.take j)=sumD l):=by show _=_;rw [vao (by omega)]
    rw [HR.out] at g1 g2;rw [HR.out]
    by_cases t:sumD l<=512
    . have HT:Hid (decide (sumD l<=512)=true):=decide_eq_true t
      go_wp2_with fail;go_ret;exact ⟨zaa (by first | exact HT.out.symm | (rw [HT.out]<;>first | (simp;omega) | (simp [*];done))),HB.out⟩
    . have HT:Hid (decide (sumD l<=512)=false):=decide_eq_false t
      have t':512<sumD l:=by omega
      clear t;go_wp2_with fail;go_ret;exact ⟨zaa (by first | exact HT.out.symm | (rw [HT.out]<;>first | (simp;omega) | (simp [*];done))),HB.out⟩
set_option maxHeartbeats 6400000
theorem zs3 {P:Program} {ops:Array Oper} {rest:List Oper} {o:Oper} {a:Act} {Q:Exit->Act->World->Prop} (hgd:o.guard=none) (s x:Operand) (t:TypeId)
 (ho:o.op = .call { callee:=.builtin .append,args:=#[s,x],argTypes:=#[t,t] }) (base:Nat) (e:TypeId) (z:Value) (size bytes:Nat) (ht:P.underlying t=some (.slice e))
 (hi:(P.info? e).map (fun i=>(i.zero,i.size,i.bytes))=some (some z,size,bytes)) (hzs:z.cells.size=size) (hsz:0<size) (w:World) (v:Value) (n:Nat) (xs:List Value) (hs:a.eval s=v) (hrow:w.ownsRow base e size v n xs)
 (cs:Array Value) (H:Nat) (hH:H=w.heap.size) (hx:a.eval x = .slice (some ⟨H,0,none⟩) 1 1) (hcs:cs.size=size) (h1:∀ u ∈ cs.toList,u.oneCell'=true)
 (hn:n<=2000000) (hby:bytes<=200) (hbase:base<=w.heap.size)
 (h:∀ g cap w',w'.ownsRow base e size (.slice (some ⟨g,0,none⟩) (n+1) cap) (n+1) (xs++cs.toList)->Below base w w'->w.heap.size<w'.heap.size->wpList P ops Q rest (a.put o.dst (.slice (some ⟨g,0,none⟩) (n+1) cap)) w') :
 wpList P ops Q (o :: rest) a (w.alloc (.cells cs e)):=by
 obtain ⟨i0,hi,hz0,hz1,hz2⟩:=info_parts hi
 have hsize:(w.alloc (.cells cs e)).heap.size=w.heap.size+1:=by simp
 refine wpList_append_lies (w.alloc (.cells cs e)) hgd s x t ho base e i0 z size bytes ht hi hz0 hz1 hz2 hzs hsz v n xs hs (hrow.alloc _) ⟨H,0,none⟩ 1 1 cs.toList hx (by simp [hcs]) ?_ h1 (by omega) (by unfold maxLen;omega) ?_ (by omega) _ rfl ?_
 . intro j u hj
   subst hH
   have:(⟨w.heap.size,0,none⟩:Addr).add j=⟨w.heap.size,j,none⟩:=by unfold Addr.add;split<;>simp_all
   rw [this,vee (heap_newP w _)];simpa using hj
 . have:(n+1)*bytes<=2000001*200:=vdl (by omega) hby
   omega
 . intro g cap w' hown' hgrow hat hlt
   have hbel:Below base w w':=((Below.refl base w).alloc hbase _).grown hgrow (by omega) (fun k hk=>(hrow.lt k hk).1);have hgz:=hgrow.size;exact h g cap w' hown' hbel (by omega)
theorem Tryz.infoUnit:(Tryz.prog.info? 42).map (fun i=>(i.zero,i.size,i.bytes))=some (some (.agg #[.string ⟨#[]⟩,.slice none 0 0,.int .i64 0,.slice none 0 0,.slice none 0 0]),5,96):=by kernel_rfl
def un0:Un:=⟨⟨#[]⟩,[],0,[],[]⟩
def zmm (l:List Un) (s:ByteArray):Un:=(l.find? (fun u=>decide (u.name=s))).getD un0
def usesU (l:List Un) (u:Un):List Un:=u.uses.map (zmm l)
def zwi (l:List Un) (u:Un):Bool:=zka u (zt8 (usesU l u)) (zo1 (usesU l u))
def zoa (l:List Un):Bool:=l.all (zwi l)
theorem zjf {l:List Un} {u:Un} (h:zwi l u=true):0<=u.data/\u.data<=512:=by
 unfold zwi zka at h;simp only [vae] at h;exact zhh h.1
def zob (l:List Un):Prop:=∀ i j (hi:i<l.length) (hj:j<l.length),l[i].name=l[j].name->i=j
theorem nodup_of_dup:∀ l:List (L8),Fx.zgj l=false->∀ i j (hi:i<l.length) (hj:j<l.length),l[i]=l[j]->i=j:=by
 apply Fx.zbw
 . intro _ i j hi;simp at hi
 . intro l s ih h i j hi hj e
   rw [Fx.zxw,vay] at h;have hm:s ∉ l:=of_decide_eq_false h.2;rw [vag,vbg] at hi hj
   rcases vbe i l.length with h1 | h1
   . rcases vbe j l.length with h2 | h2
     . rw [vau h1,vau h2] at e
       exact ih h.1 i j h1 h2 e
     . obtain rfl:j=l.length:=by omega
       rw [vau h1,vcs] at e;exact absurd (e ▸ vah h1) hm
       rfl
   . obtain rfl:i=l.length:=by omega
     rcases vbe j l.length with h2 | h2
     . rw [vau h2,vcs] at e
       exact absurd (e ▸ vah h2) hm
       rfl
     . omega
theorem zre {l:List Un} (h:Fx.zgj (Fx.lists (namesU l))=false):zob l:=by
 intro i j hi hj e;refine nodup_of_dup _ h i j (by simpa [Fx.lists,namesU] using hi) (by simpa [Fx.lists,namesU] using hj) ?_;simp only [Fx.lists,namesU,vcu];rw [e]
theorem zyl {l:List Un} (h:zob l) (i:Nat) (hi:i<l.length):zmm l l[i].name=l[i]:=by
 unfold zmm
 have:l.find? (fun u=>decide (u.name=l[i].name))=some l[i]:=by
  rw [List.find?_eq_some_iff_getElem];refine ⟨decide_eq_true rfl,i,hi,rfl,fun j hj=>?_⟩
  have:¬ l[j].name=l[i].name:=fun e=>by have:=h j i (by omega) hi e;omega
  rw [decide_eq_false this];rfl
 rw [this];rfl
theorem zvs (s:ByteArray):∀ ns:List ByteArray,s ∈ ns->∃ i,∃ hi:i<ns.length,zhy ns s=some (i:Int)/\ns[i]=s:=by
 apply Fx.zbw
 . intro h;cases h
 . intro l a ih h
   rw [zg5];unfold ztf
   by_cases e:s=a
   . subst e
     exact ⟨l.length,by simp,if_pos rfl,by simp⟩
   . rw [if_neg e]
     obtain ⟨i,hi,h1,h2⟩:=ih ((vbp.1 h).elim id (fun k=>absurd (vby.1 k) e));exact ⟨i,by rw [vag];omega,h1,by rw [vau hi];exact h2⟩
theorem zlb {l:List Un}:∀ (k:Nat),zdc l k=true->∀ j (hj:j<l.length),j<k->∀ s ∈ l[j].uses,s ∈ namesU (l.take j)
 | 0,_,j,_,hk=>by omega
 | k + 1,h,j,hj,hk=>by
   rw [zdc,vae] at h
   rcases vbe j k with h1 | h1
   . exact zlb k h.1 j hj h1
   . obtain rfl:j=k:=by omega
     rw [vaj hj] at h;intro s hs;exact memB_iff.1 (vas.1 h.2 s hs)
theorem zrf {l:List Un} (hA:zez l=true) (hN:zob l) {j:Nat} (hj:j<l.length) {s:ByteArray} (hs:s ∈ l[j].uses) :
 ∃ i,∃ hi:i<l.length,i<j/\zhy (namesU (l.take (j+1))) s=some (i:Int)/\zmm l s=l[i]:=by
 have hm:=zlb l.length hA j hj hj s hs
 have hm':s ∈ namesU (l.take (j+1)):=by rw [zdv l j hj];exact List.mem_append_left _ hm
 obtain ⟨i,hi,h1,h2⟩:=zvs s _ hm'
 have hi':i<l.length:=by unfold namesU at hi;rw [vbd,vbm] at hi;omega
 have e:l[i].name=s:=by
  rw [← h2];simp only [namesU,vcu,List.getElem_take]
 obtain ⟨p,hp,e2⟩:=vbu hm
 have hp':p<j/\p<l.length:=by unfold namesU at hp;rw [vbd,vbm] at hp;omega
 have e3:l[p].name=s:=by
  rw [← e2];simp only [namesU,vcu,List.getElem_take]
 have:=hN i p hi' hp'.2 (e.trans e3.symm);exact ⟨i,hi',by omega,h1,by rw [← e];exact zyl hN i hi'⟩
theorem zvt (l:List Un) (u:Un):zfs (l++[u])=zfs l++u.ds:=by unfold zfs;simp
theorem z0g {w0 W:World} {base:Nat} {v:Value} {us:List Un} {xs:List Value} (h:W.ownsRow base 42 5 v us.length xs) (hx:DVals w0 Tt (zfs us) xs) (hb:Below w0.heap.size w0 W) (hl:us.length<=2000000):∃ a cap,v = .slice a us.length cap/\DAt W Tt a us.length (zfs us):=by
 have hlen:(zfs us).length=us.length*5:=by
  have:∀ l:List Un,(zfs l).length=l.length*5:=by
   intro l;induction l with
   | nil=>rfl
   | cons a r ih=>unfold zfs at ih ⊢;rw [vbw,vag,ih,vat];unfold Un.ds;simp;omega
  exact this us
 rcases h.2 with ⟨rfl,h0⟩ | ⟨g,cap,cur,rfl,_,hg,_⟩
 . exact ⟨none,0,by rw [h0],⟨by omega,by omega,Or.inl h0⟩⟩
 . refine ⟨some ⟨g,0,none⟩,cap,rfl,⟨by omega,by omega,Or.inr ⟨g,0,xs,rfl,trivial,zab hg,fun j u hj=>?_,hx.moves (zag.of_below hb Tt)⟩⟩⟩
   have:=h.cells (g:=g) rfl j u hj;rw [show (⟨g,0,none⟩:Addr).add j=⟨g,j,none⟩ from by unfold Addr.add;split<;>simp_all] at this
   rw [vbc];exact this
theorem z0h {w:World} {b o:Nat} {x:Un} {a1:OA} {k1:Nat} {a2:OA} {k2:Nat} {a3:OA} {k3:Nat} (h:UnAt w Tt b o x a1 k1 a2 k2 a3 k3):DVals w Tt x.ds (#[.string x.name,.slice a1 x.uses.length k1,.int .i64 x.data,.slice a2 x.parts.length k2,.slice a3 x.main.length k3]:Array Value).toList:=by
 unfold Un.ds;exact .cons (zd6 h.w0) (.cons h.uses'.val (.cons (dint h.w2) (.cons h.parts'.val (.cons h.main'.val .nil))))
theorem UnAt.uv {w:World} {b o:Nat} {x:Un} {a1:OA} {k1:Nat} {a2:OA} {k2:Nat} {a3:OA} {k3:Nat} (h:UnAt w Tt b o x a1 k1 a2 k2 a3 k3):UvAt w x a1 k1 a2 k2 a3 k3:=⟨h.w0,h.uses',h.w2,h.parts',h.main'⟩
theorem zmn (l:List Un) (a:OA) (cap:Nat) (w:World) (hD:DAt w Tt a l.length (zfs l)) (h4:l.length<=4) (hA:zez l=true) (hN:Fx.zgj (Fx.lists (namesU l))=false) (hS:∀ u ∈ l,u.uses.length<=2000000) :
 Calls Tryz.prog 71 #[.slice a l.length cap] w fun e w'=>e = .returned (.bool (zoa l))/\Below w.heap.size w w':=by
 have hmm:=@run_makeMap Tryz.prog;have HUse:=hid (fun (j:Nat) (hj:j<l.length) (s:ByteArray) (hs:s ∈ l[j].uses)=>zrf hA (zre hN) hj hs);have HD:=hid hD;clear hD hA hN;go_enter Tryz.func71,Tryz.ntmps71;go_wp2_with fail
 go_loopw [12] (fun i wr=>∃ j:Nat,j<=l.length/\i = .int .i64 j/\(l.take j).all (zwi l)=true/\zff wr w.heap.size j (zhy (namesU (l.take j)))/\Below w.heap.size w wr) (fun i _=>l.length - (intOf i).toNat)
 case atStart=>exact ⟨0,vad _,rfl,rfl,zff.made _,al1 _ _⟩
 case round=>
  obtain ⟨j,hj,rfl,hall,hm,hb⟩:=hrel;have HM:=hid hm;have HB:=hid hb;have HL:=hid hall;have hzm:=hm.lt;clear hall hm hb
  by_cases hlt:j<l.length
  . obtain ⟨b,off,a1,k1,a2,k2,a3,k3,ha,hx⟩:=HD.out.un j hlt
    have hx':=hx;obtain ⟨hbl0,_⟩:=hx'
    have hxr:UnAt wr Tt b (off+j*5) l[j] a1 k1 a2 k2 a3 k3:=by
     obtain ⟨hbl,c0,c1,c2,c3,c4,h1,h2,h3,h5,h6⟩:=hx;exact ⟨vac hbl HB.out.size,(HB.out.cell (p:=⟨b,_,none⟩) hbl).trans c0,(HB.out.cell (p:=⟨b,_,none⟩) hbl).trans c1,(HB.out.cell (p:=⟨b,_,none⟩) hbl).trans c2,(HB.out.cell (p:=⟨b,_,none⟩) hbl).trans c3,(HB.out.cell (p:=⟨b,_,none⟩) hbl).trans c4,h1.later HB.out,h2.later HB.out,h3.later HB.out,h5,h6⟩
    have HUv:=hid hx.uv;have husm:=hS l[j] (vah hlt);have HN:=hid (zdv l j hlt);have HUs:=hid (HUse.out j hlt);have HF:=hid (all_not l (zwi l) j hlt);have HT:=hid (all_snoc l (zwi l) j hlt)
    have HDat:Hid (∀ i (hi:i<l.length),i<j->0<=l[i].data/\l[i].data<=512):=fun i hi h=>zjf (vas.1 HL.out l[i] (by rw [List.mem_take_iff_getElem];exact ⟨i,by omega,rfl⟩))
    have HOne:Hid (zwi l l[j]=zka l[j] (zt8 (usesU l l[j])) (zo1 (usesU l l[j]))):=rfl;have HUl:Hid (usesU l l[j]=l[j].uses.map (zmm l)):=rfl;obtain ⟨hbl,c0,c1,c2,c3,c4,_,_,_,hnm,_⟩:=hxr;have HLoc:=hid (zg5 (namesU (l.take j)) l[j].name)
    have HLen:Hid ((namesU (l.take j)).length=j):=by show _=_;unfold namesU;rw [vbd,vbm];omega
    generalize namesU (l.take j)=ns at *;generalize l[j]=x at *;subst ha
    obtain ⟨W1,hW1⟩:∃ W1,W1=wr.alloc (.cells #[.string x.name,.slice a1 x.uses.length k1,.int .i64 x.data,.slice a2 x.parts.length k2,.slice a3 x.main.length k3] 42):=⟨_,rfl⟩
    have HM1:Hid (zff W1 w.heap.size j (zhy ns)):=by rw [hW1];exact HM.out.later (al1 _ _)
    have HX1:Hid (W1.heap[wr.heap.size]? = some (.cells #[.string x.name,.slice a1 x.uses.length k1,.int .i64 x.data,.slice a2 x.parts.length k2,.slice a3 x.main.length k3] 42 (0,0))):=by rw [hW1];exact heap_newP _ _
    have HB1:Hid (Below w.heap.size w W1):=by rw [hW1];exact thenB HB.out (al1 _ _)
    obtain ⟨w2,hup,hm2,hg2⟩:=HM1.out.put (by unfold maxLen;omega) x.name hnm (j:Int) (by simp only [Lit.wf,vae,decide_eq_true_eq];exact ⟨by show (-9223372036854775808:Int)<=_;omega,by show _<=(9223372036854775807:Int);omega⟩)
    have HM2:Hid (zff w2 w.heap.size (j+1) (zhy (namesU (l.take (j+1))))):=by show zff _ _ _ _;rw [HN.out,HLoc.out,HLen.out];exact hm2
    have HX2:=hid (zje hg2 (by omega) HX1.out);have HB2:=hid (HB1.out.grown hg2 HB1.out.size (fun q hq=>by cases hq;exact vaa _));obtain ⟨f0,f1,f2,f3,f4,_⟩:=zad HX1.out;have fz:=zab HX1.out;clear hm2 hg2 HM1 HM;go_wp2_with fail;rw [← hW1];clear hW1;rw [hup];obtain ⟨e0,e1,e2,e3,e4,_⟩:=zad HX2.out;have ez:=zab HX2.out;clear f0 f1 f2 f3 f4 fz c0 c1 c2 c3 c4 hup HB1 HX1;have hub:=HUv.out.uses.bound;go_wp2_with fail
    go_loopw [6,24] (fun v i W=>∃ (k:Nat) (xs:List Value),k<=x.uses.length/\i = .int .i64 k/\W.ownsRow w2.heap.size 42 5 v k xs/\DVals w Tt (zfs ((x.uses.take k).map (zmm l))) xs/\Below w2.heap.size w2 W) (fun _ i _=>x.uses.length - (intOf i).toNat)
    case atStart=>exact ⟨0,[],vad _,rfl,vei _ _ _ _,.nil,Below.refl _ _⟩
    case round=>
     obtain ⟨k,xs,hk,rfl,ho,hxs,hb3⟩:=hrel;have HO:=hid ho;have HXs:=hid hxs;have HB3:=hid hb3;have HX3:=hid ((hb3.block _ (zab HX2.out)).trans HX2.out);have HM3:=hid (HM2.out.later hb3);clear e0 e1 e2 e3 e4 ez;obtain ⟨e0,e1,e2,e3,e4,_⟩:=zad HX3.out;have ez:=zab HX3.out;clear ho hxs hb3
     by_cases hlt2:k<x.uses.length
     . obtain ⟨b2,off2,rfl,hb2,d0,hsz⟩:=(HUv.out.uses.later (thenB HB2.out HB3.out)).str k hlt2
       obtain ⟨i,hi,hij,hloc,hfind⟩:=HUs.out x.uses[k] (vah hlt2);have hlk:=HM3.out.look x.uses[k] hsz;rw [hloc] at hlk;have HFd:=hid hfind
       have HTk:Hid ((x.uses.take (k+1)).map (zmm l)=(x.uses.take k).map (zmm l)++[l[i]]):=by show _=_;rw [vaf hlt2,vce,List.map_singleton,hfind]
       obtain ⟨b5,off5,d1,m1,d2,m2,d3,m3,hbo,hy⟩:=HD.out.un i hi
       obtain ⟨rfl,rfl⟩:b5=b/\off5=off:=by
        injection hbo with hbo;injection hbo with h1 h2;exact ⟨h1.symm,h2.symm⟩
       have HVl:=hid (z0h hy);obtain ⟨hbl5,g0,g1,g2,g3,g4,_,_,_,_,_⟩:=hy;have HBw:=hid (thenB HB2.out HB3.out);have j0:=(HBw.out.cell (p:=⟨b5,_,none⟩) hbl5).trans g0;have j1:=(HBw.out.cell (p:=⟨b5,_,none⟩) hbl5).trans g1;have j2:=(HBw.out.cell (p:=⟨b5,_,none⟩) hbl5).trans g2;have j3:=(HBw.out.cell (p:=⟨b5,_,none⟩) hbl5).trans g3;have j4:=(HBw.out.cell (p:=⟨b5,_,none⟩) hbl5).trans g4;have hbl6:=vac hbl5 HBw.out.size
       have hil:(i:Int)<l.length:=by omega
       clear g0 g1 g2 g3 g4 hfind hloc hbo;generalize l[i]=y at *;generalize x.uses[k]=su at *;simp only [vba] at hlk
       go_wp2_with (at_builtin;refine zs3 rfl (.tmp 28) (.tmp 35) 199 rfl w2.heap.size 42 _ 5 96 Tryz.underlying199 Tryz.infoUnit rfl (by decide) _ _ k xs rfl HO.out #[.string y.name,.slice d1 y.uses.length m1,.int .i64 y.data,.slice d2 y.parts.length m2,.slice d3 y.main.length m3] _ rfl rfl rfl (DVals.one HVl.out) (by omega) (by decide) HB3.out.size ?_;intro g5 c5 w5 ho5 hb5 hz5;have HO5:=hid ho5;have HB5:=hid hb5;clear ho5 hb5)
       go_roundw
       case rel=>exact ⟨k+1,_,by omega,by go_num,HO5.out,by rw [HTk.out,zvt];exact HXs.out.append HVl.out,HB3.out.trans HB5.out⟩
       case measure=>simp [intOf];omega
     . obtain rfl:k=x.uses.length:=by omega
       have HXf:Hid (DVals w Tt (zfs (usesU l x)) xs):=by have:=HXs.out;rw [vaz] at this;rw [HUl.out];exact this
       have hul:(usesU l x).length=x.uses.length:=by rw [HUl.out,vbd]
       obtain ⟨av,cv,rfl,hdv⟩:=z0g (us:=usesU l x) (by rw [hul];exact HO.out) HXf.out (thenB HB2.out HB3.out) (by rw [hul];omega);rw [hul] at hdv;have HDv:=hid hdv;clear hdv HO HXs
       have hbu:∀ u ∈ usesU l x,0<=u.data/\u.data<=512:=by
        intro u hu;rw [HUl.out] at hu;obtain ⟨s,hs,rfl⟩:=vcb.1 hu;obtain ⟨i,hi,hij,_,hf⟩:=HUs.out s hs;rw [hf];exact HDat.out i hi hij
       have HCk:=hid (fun (hh:zeh x=true) (lc:Int) (W:World) (hW:Below wr.heap.size wr W)=>ckK (zjv x (zt8 (usesU l x)) (zo1 (usesU l x)) lc) x.name a1 k1 a2 k2 a3 x.main.length k3 av x.uses.length cv W (zhh hh).1 (zhh hh).2 hub (HUv.out.later (thenB (thenB HB2.out HB3.out) hW)).parts (by have:=zr4 (us:=usesU l x) (cap:=cv) (by rw [hul];exact HDv.out.later hW) hbu x hul.symm lc;rw [hul] at this;exact this));have HHo:=hid (zxd x (zt8 (usesU l x)) (zo1 (usesU l x)) a1 k1 a2 k2 a3 k3 199 (.slice av x.uses.length cv) wr (HUv.out.later (thenB HB2.out HB3.out)) HCk.out);rw [← HOne.out] at HHo;clear hbu HCk;go_wp2_with fail;refine HHo.out.mono ?_
       cases h1:zwi l x with
       | false=>
         rintro e w6 ⟨rfl,hb6⟩;have HB6:=hid (thenB (thenB HB2.out HB3.out) hb6);have HR:Hid (zoa l=false):=HF.out h1;clear hb6;go_wp2_with fail;go_ret;exact ⟨zaa HR.out.symm,HB6.out⟩
       | true=>
         rintro e w6 ⟨rfl,hb6⟩;have HB6:=hid (thenB (thenB HB2.out HB3.out) hb6);have HM6:=hid (HM3.out.later hb6)
         have HT':Hid ((l.take (j+1)).all (zwi l)=true):=by show _=_;rw [HT.out,HL.out,h1];rfl
         clear hb6;go_wp2_with fail;go_roundw
         case rel=>exact ⟨j+1,by omega,by go_num,HT'.out,HM6.out,HB6.out⟩
         case measure=>simp [intOf];omega
  . obtain rfl:j=l.length:=by omega
    have HR:Hid (zoa l=true):=zb1 HL.out hlt;go_wp2_with fail;go_ret;exact ⟨zaa HR.out.symm,HB.out⟩
set_option maxHeartbeats 8000000
abbrev pP (p:Pr) (a:OA) (b:Nat) (c:OA) (e:Nat) (f:OA) (g:Nat):Obj:=.cells #[.string p.name,.bool p.pub,.slice a p.params.length b,.slice c p.locals.length e,.slice f p.body.length g] 118
def Pr.own (p:Pr):List ByteArray:=p.params++p.locals
def zjg (K:Kn) (p:Pr):Except Int Pt:=if Fx.zgj (Fx.lists p.own) then .error 6 else zcq (zes K (zhy p.own) p.body) fun b=>.ok ⟨p.params.length,p.locals.length,b⟩
def z0i (lo:Nat) (r:Except Int Pt) (e:Ending) (w:World):Prop:=
 match r with
 | .error c=>∃ x y a k cp,e = .returned (.tuple #[.agg #[.int .i64 x,.int .i64 y,.slice a k cp],.int .i64 c])/\c≠0
 | .ok t=>∃ a cp,e = .returned (.tuple #[.agg #[.int .i64 t.params,.int .i64 t.locals,.slice a t.body.length cp],.int .i64 0])/\EAt w (lo<=·) a t.body.length (zcg t.body)
theorem zoc {w:World} {B n:Nat} {v:Value} {l:List ByteArray} (hn:n=l.length) (h:w.ownsRow B 9 1 v n (strV l)) (hl:l.length<=1000000) (hf:∀ s ∈ l,s.size<=maxLen) :
 Calls Tryz.prog 59 #[v] w fun e w'=>e = .returned (.bool (Fx.zgj (Fx.lists l)))/\Below w.heap.size w w':=by
 subst hn;obtain ⟨a,c,rfl,hS⟩:=zmk h;exact Fx.zeu a c _ w hS hl hf
theorem zrg (W:World) (cs:Array Value) (t:TypeId) (n i:Nat) (v:Value) (hn:n=W.heap.size) (hv:cs[i]? = some v):(W.alloc (.cells cs t)).cell? ⟨n,i,none⟩=some v:=by
 subst hn;rw [vee (heap_newP _ _)];exact hv
theorem z0j {B b:Nat} {a w:World} (h:Below B a w) (hb:B<=b) (v0 v1 v2:Value):Below B a (((w.setCell ⟨b,0,none⟩ v0).setCell ⟨b,1,none⟩ v1).setCell ⟨b,2,none⟩ v2):=
 ((h.setCell (p:=⟨b,0,none⟩) hb _).setCell (p:=⟨b,1,none⟩) hb _).setCell (p:=⟨b,2,none⟩) hb _
theorem zag.set3 {w w1:World} {A A':Nat->Prop} {b:Nat} (h:zag w A w1 A') (hp:∀ k,k<w.heap.size->A k->k≠b) (v0 v1 v2:Value):zag w A (((w1.setCell ⟨b,0,none⟩ v0).setCell ⟨b,1,none⟩ v1).setCell ⟨b,2,none⟩ v2) A':=
 ((h.set (p:=⟨b,0,none⟩) hp v0).set (p:=⟨b,1,none⟩) hp v1).set (p:=⟨b,2,none⟩) hp v2
theorem zg7 {w:World} {b:Nat} {x0 x1 x2:Value} {t:TypeId} (h:w.heap[b]? = some (.cells #[x0,x1,x2] t (0,0))) :
 w.cell? ⟨b,0,none⟩=some x0/\w.cell? ⟨b,1,none⟩=some x1/\w.cell? ⟨b,2,none⟩=some x2/\∀ i,w.frozen? ⟨b,i,none⟩=false:=by
 refine ⟨?_,?_,?_,fun i=>vef h i⟩<;>(rw [vee h];rfl)
theorem Keeps.below {R B:Nat} {w0 w w':World} (h:Below B w0 w) (hk:Keeps R w w') (hR:B<=R) (hB:B<=w.heap.size):Below B w0 w':=
 h.trans ⟨hk.os,hk.tape,hk.output,hk.size,fun k h1=>hk.block k (by omega) (by omega)⟩
theorem zym (K:Kn) (kb:Nat) (p:Pr) (q1:OA) (d1:Nat) (q2:OA) (d2:Nat) (q3:OA) (d3:Nat) (w:World) (hK:zj8 w (.map (some kb)) K) (h1:DAt w Tt q1 p.params.length (zal p.params)) (h2:DAt w Tt q2 p.locals.length (zal p.locals)) (h3:DAt w Tt q3 p.body.length (zbj p.body)) (hp3:p.params.length<=3) (hl4:p.locals.length<=4) (hmany:zah 6 p.body=false) :
 Calls Tryz.prog 120 #[.agg #[.map (some kb)],.agg #[.string p.name,.bool p.pub,.slice q1 p.params.length d1,.slice q2 p.locals.length d2,.slice q3 p.body.length d3]] w fun e w'=>z0i w.heap.size (zjg K p) e w'/\Below w.heap.size w w':=by
 have HK:=hid hK;have HD3:=hid h3;have HAc:=hid (zig 6 p.body hmany)
 have hs:∀ s ∈ p.own,s.size<=maxLen:=fun s hs=>(vbp.1 hs).elim ((zfd h1).2 s) ((zfd h2).2 s)
 have hol:p.own.length=p.params.length+p.locals.length:=by unfold Pr.own;rw [vag]
 have HS:=hid hs;have HOl:=hid hol;have hB4:Below w.heap.size w ((((w.alloc (.cells #[.map (some kb)] 189)).alloc (pP p q1 d1 q2 d2 q3 d3)).alloc (.cells #[.int .i64 0,.int .i64 0,.slice none 0 0] 106)).alloc (.cells #[.slice q1 p.params.length d1,.slice q2 p.locals.length d2] 22)):=thenB (bl3 w _ _ _) (al1 _ _);have HC:=hid (zs1 p.params p.locals q1 d1 q2 d2 (w.heap.size+3) ((((w.alloc (.cells #[.map (some kb)] 189)).alloc (pP p q1 d1 q2 d2 q3 d3)).alloc (.cells #[.int .i64 0,.int .i64 0,.slice none 0 0] 106)).alloc (.cells #[.slice q1 p.params.length d1,.slice q2 p.locals.length d2] 22)) (by simp) (zrg _ _ _ _ 0 _ (by simp) rfl) (zrg _ _ _ _ 1 _ (by simp) rfl) ((zfd h1).1.later hB4) ((zfd h2).1.later hB4) (by omega) (by omega));have HB4:=hid hB4;clear hK h1 h2 h3 hmany hs hol hB4
 obtain ⟨r,hr⟩:∃ r,r=zjg K p:=⟨_,rfl⟩
 rw [← hr];have HR:=hid hr;clear hr;go_enter Tryz.func120,Tryz.ntmps120;go_wp2_with fail;refine HC.out.mono ?_;rintro e w1 ⟨v1,rfl,ho1,hb1⟩;have HB1:=hid (thenB HB4.out hb1);have hz1:=hb1.size;simp at hz1;obtain ⟨q0,qp,qr⟩:=zmf (thenB (al1 _ _) hb1);have P0:=hid q0;have P1:=hid qp;have P2:=hid qr;obtain ⟨x0,x1,x2,x3,x4,xf⟩:=zad qp;obtain ⟨r0,r1,r2,rf⟩:=zg7 qr
 have k0:w1.cell? ⟨w.heap.size,0,none⟩=some (.map (some kb)):=by rw [vee q0];rfl
 have HO1:Hid (w1.ownsRow ((((w.alloc (.cells #[.map (some kb)] 189)).alloc (pP p q1 d1 q2 d2 q3 d3)).alloc (.cells #[.int .i64 0,.int .i64 0,.slice none 0 0] 106)).alloc (.cells #[.slice q1 p.params.length d1,.slice q2 p.locals.length d2] 22)).heap.size 9 1 v1 (p.params.length+p.locals.length) (strV p.own)):=ho1;have HC2:=hid (zoc HOl.out.symm HO1.out (by rw [HOl.out];omega) HS.out);clear hb1 HC ho1 q0 qp qr
 cases hd:Fx.zgj (Fx.lists p.own) with
 | true=>
   have HR2:Hid (r = .error 6):=HR.out.trans (by unfold zjg;rw [hd];rfl);rw [hd] at HC2;clear hd;go_wp2_with fail;refine HC2.out.mono ?_;rintro e w2 ⟨rfl,hb2⟩;have HB2:=hid (thenB HB1.out hb2);have q2':=(hb2.block _ (zab P2.out)).trans P2.out;have hlt2:=zab q2';clear r0 r1 r2 rf;obtain ⟨r0,r1,r2,rf⟩:=zg7 q2';clear hb2 q2';go_wp2_with fail;refine bodyPost_ret (v:=.tuple #[.agg #[.int .i64 0,.int .i64 0,.slice none 0 0],.int .i64 6]) (by simp [results,Tryz.results120,go_sem,r0,r1,r2,hlt2]) rfl ⟨by rw [HR2.out];exact ⟨0,0,none,0,0,rfl,by decide⟩,?_⟩;exact z0j HB2.out (by omega) _ _ _
 | false=>
   have HR2:Hid (r=zcq (zes K (zhy p.own) p.body) fun b=>.ok ⟨p.params.length,p.locals.length,b⟩):=HR.out.trans (by unfold zjg;rw [hd];rfl);rw [hd] at HC2;clear hd HR;go_wp2_with fail;refine HC2.out.mono ?_;rintro e w2 ⟨rfl,hb2⟩;have HB2:=hid (thenB HB1.out hb2);have hz2:=hb2.size;have P0':=hid ((hb2.block _ (zab P0.out)).trans P0.out);have P1':=hid ((hb2.block _ (zab P1.out)).trans P1.out);have P2':=hid ((hb2.block _ (zab P2.out)).trans P2.out);have HO2:=hid (Fx.ownsRow_later HO1.out hb2);clear x0 x1 x2 x3 x4 xf r0 r1 r2 rf k0 HO1 HC2 P0 P1 P2
   have k0:w2.cell? ⟨w.heap.size,0,none⟩=some (.map (some kb)):=by rw [vee P0'.out];rfl
   have hl0:=zab P0'.out;have hl1:=zab P1'.out;have hl2:=zab P2'.out;obtain ⟨av,cv,rfl,hSt⟩:=zmk (l:=p.own) (by rw [HOl.out];exact HO2.out);have HSt:=hid hSt;have hmm:=@run_makeMap Tryz.prog;have HLm0:=hid ((zff.made w2).later (al1 _ (.cells #[.map (some kb),.map (some w2.heap.size)] 195)));clear hb2 hSt HO2;rw [HOl.out];go_wp2_with fail
   go_loopw [8,9,26] (fun _ _ i wr=>∃ j:Nat,j<=p.params.length+p.locals.length/\i = .int .i64 j/\zff wr w2.heap.size j (zhy (p.own.take j))/\Keeps w2.heap.size ((w2.alloc (.map #[] 0)).alloc (.cells #[.map (some kb),.map (some w2.heap.size)] 195)) wr) (fun _ _ i _=>p.params.length+p.locals.length - (intOf i).toNat)
   case atStart=>exact ⟨0,vad _,rfl,HLm0.out,Keeps.refl _ _⟩
   case round=>
    clear HLm0 hmm k0;obtain ⟨j,hj,rfl,hlm,hke⟩:=hrel;have HLm:=hid hlm;have HE:=hid hke;have hzr:=hke.size;simp at hzr;have b0:wr.heap[w2.heap.size+1]? = some (.cells #[.map (some kb),.map (some w2.heap.size)] 195):=(hke.block _ (by simp) (by omega)).trans (by simpa using heap_newP (w2.alloc (.map #[] 0)) (.cells #[.map (some kb),.map (some w2.heap.size)] 195));have HQb:=hid b0;obtain ⟨y0,y1,yf⟩:=zb7 b0;have hyl:=zab b0;clear hlm hke b0
    by_cases hlt0:j<p.params.length+p.locals.length
    . have hlt:j<p.own.length:=by rw [HOl.out];exact hlt0
      obtain ⟨b,off,rfl,hbl,c0⟩:=HSt.out.place hlt;have d0:=(HE.out.cell (off:=off+j) (by simp;omega) (by omega)).trans (((bl2 w2 (.map #[] 0) (.cells #[.map (some kb),.map (some w2.heap.size)] 195)).cell (p:=⟨b,off+j,none⟩) hbl).trans c0)
      have hblr:b<wr.heap.size:=by omega
      have hnm:=HS.out p.own[j] (vah _)
      have HSn:Hid (ztf (zhy (p.own.take j)) p.own[j] j=zhy (p.own.take (j+1))):=by
       show _=zhy (p.own.take (j+1));rw [vaf hlt,zg5,vbm,vdw (by omega)]
      generalize p.own[j]=s at *
      have hjj:j<=1000:=by have:=HOl.out;omega
      obtain ⟨w5,hrun,hL5,hg5⟩:=HLm.out.put (by unfold maxLen;omega) s hnm j (WalkArith.wf_i64 (by omega));rw [HSn.out] at hL5;have HL5:=hid hL5;have HE5:=hid (HE.out.grown hg5);clear hL5 hg5 c0 hnm;go_wp2_with fail;go_roundw
      case rel=>exact ⟨j+1,by omega,by go_num,HL5.out,HE5.out⟩
      case measure=>simp [intOf];omega
    . obtain rfl:j=p.params.length+p.locals.length:=by omega
      have HLf:Hid (zff wr w2.heap.size (p.params.length+p.locals.length) (zhy p.own)):=by have:=HLm.out;rw [vao (by rw [HOl.out];exact vaa _)] at this;exact this
      have HBr:Hid (Below w.heap.size w wr):=Keeps.below (thenB HB2.out (bl2 _ _ _)) HE.out (by have:=HB2.out.size;omega) (by have:=HB2.out.size;simp;omega);have HKr:=hid (HK.out.later HBr.out);have HC5:=hid (HAc.out K (zhy p.own) (.map (some kb)) (.map (some w2.heap.size)) Tt q3 d3 wr HKr.out HLf.out.names (HD3.out.later HBr.out));have e1:wr.heap[w.heap.size+1]? = some (pP p q1 d1 q2 d2 q3 d3):=(HE.out.block _ (by simp;omega) (by omega)).trans (zae (zae P1'.out));have e2:wr.heap[w.heap.size+2]? = some (.cells #[.int .i64 0,.int .i64 0,.slice none 0 0] 106):=(HE.out.block _ (by simp;omega) (by omega)).trans (zae (zae P2'.out));have HE1:=hid e1;have HE2:=hid e2;obtain ⟨x0,x1,x2,x3,x4,xf⟩:=zad e1;have hle1:=zab e1;have hle2:=zab e2;clear e1 e2;go_wp2_with fail;refine HC5.out.mono ?_;rintro e w6 ⟨hend,hb6⟩
      have HB6:=hid (thenB HBr.out hb6);have hz6:=hb6.size;have f1:=(hb6.block _ hle1).trans HE1.out;have f2:=(hb6.block _ hle2).trans HE2.out;have hlf1:=zab f1;have hlf2:=zab f2;clear x0 x1 x2 x3 x4 xf y0 y1 yf;obtain ⟨x0,x1,x2,x3,x4,xf⟩:=zad f1;obtain ⟨r0,r1,r2,rf⟩:=zg7 f2;clear hb6 f1 f2
      cases hr:zes K (zhy p.own) p.body with
      | error c=>
        rw [hr] at hend;obtain ⟨rfl,hne⟩:=hend;have HR3:Hid (r = .error c):=HR2.out.trans (by rw [hr];rfl);clear hr;go_wp2_with fail;refine bodyPost_ret (v:=.tuple #[.agg #[.int .i64 p.params.length,.int .i64 p.locals.length,.slice none 0 0],.int .i64 c]) (by simp [results,Tryz.results120,go_sem,r0,r1,r2,hlf2]) rfl ⟨by rw [HR3.out];exact ⟨_,_,_,_,_,rfl,hne⟩,?_⟩;exact z0j HB6.out (by omega) _ _ _
      | ok bd=>
        rw [hr] at hend;obtain ⟨ab,cb,rfl,heb⟩:=hend;have HR3:Hid (r = .ok ⟨p.params.length,p.locals.length,bd⟩):=HR2.out.trans (by rw [hr];rfl);have HEb:=hid heb;clear hr heb;go_wp2_with fail;refine bodyPost_ret (v:=.tuple #[.agg #[.int .i64 p.params.length,.int .i64 p.locals.length,.slice ab bd.length cb],.int .i64 0]) (by simp [results,Tryz.results120,go_sem,r0,r1,r2,hlf2]) rfl ⟨by rw [HR3.out];exact ⟨ab,cb,rfl,(HEb.out.moves ((zag.refl w6 _).set3 (by intro k _ hk;have:wr.heap.size<=k:=hk;omega) _ _ _)).moves ⟨vaa _,fun b _ h=>⟨by have:wr.heap.size<=b:=h;show w.heap.size<=b;omega,rfl⟩⟩⟩,z0j HB6.out (by omega) _ _ _⟩
set_option maxHeartbeats 1600000
def zhz (l:List Un):Int:=
 if l.length<1\/4<l.length then 2 else if zez l=false then 9 else if Fx.zgj (Fx.lists (namesU l))=true then 6 else if (zoa l&&decide (sumD l<=512))=true then 0 else 1
theorem zfg (l:List Un) (a:OA) (cap:Nat) (w:World) (hD:DAt w Tt a l.length (zfs l)) (hS:∀ u ∈ l,u.uses.length<=2000000) :
 Calls Tryz.prog 24 #[.slice a l.length cap] w fun e w'=>e = .returned (.int .i64 (zhz l))/\Below w.heap.size w w':=by
 have hbd:=hD.bound;have HS:=hid hS;have HD:=hid hD;clear hD hS
 by_cases t0:l.length<1
 . have HR:Hid (zhz l=2):=if_pos (Or.inl t0)
   go_enter Tryz.func24,Tryz.ntmps24;go_wp2_with fail;go_ret;exact ⟨zaw HR.out.symm,Below.refl _ _⟩
 have t0':1<=l.length:=by omega
 by_cases t4:4<l.length
 . have HR:Hid (zhz l=2):=if_pos (Or.inr t4)
   clear t0;go_enter Tryz.func24,Tryz.ntmps24;go_wp2_with fail;go_ret;exact ⟨zaw HR.out.symm,Below.refl _ _⟩
 have t4':l.length<=4:=by omega
 have HR0:Hid (zhz l=if zez l=false then 9 else if Fx.zgj (Fx.lists (namesU l))=true then 6 else if (zoa l&&decide (sumD l<=512))=true then 0 else 1):=if_neg (by omega);clear t0 t4;have HC:=hid (zh7 l a cap w HD.out t4')
 cases hA:zez l with
 | false=>
   rw [hA] at HC;have HR:Hid (zhz l=9):=HR0.out.trans (if_pos hA);go_enter Tryz.func24,Tryz.ntmps24;go_wp2_with fail;refine HC.out.mono ?_;rintro e w1 ⟨rfl,hb1⟩;have HB1:=hid hb1;clear hb1;go_wp2_with fail;go_ret;exact ⟨zaw HR.out.symm,HB1.out⟩
 | true=>
   rw [hA] at HC;have HR1:Hid (zhz l=if Fx.zgj (Fx.lists (namesU l))=true then 6 else if (zoa l&&decide (sumD l<=512))=true then 0 else 1):=HR0.out.trans (if_neg (by rw [hA];decide));have HA:=hid hA;clear HR0 hA;go_enter Tryz.func24,Tryz.ntmps24;go_wp2_with fail;refine HC.out.mono ?_;rintro e w1 ⟨rfl,hb1⟩;have HB1:=hid hb1;have HC2:=hid (zh8 l a cap w1 (HD.out.later hb1) t4');clear hb1;go_wp2_with fail;refine HC2.out.mono ?_
   cases hN:Fx.zgj (Fx.lists (namesU l)) with
   | true=>
     rintro e w2 ⟨rfl,hb2⟩;have HB2:=hid (thenB HB1.out hb2);have HR:Hid (zhz l=6):=HR1.out.trans (if_pos hN);clear hb2;go_wp2_with fail;go_ret;exact ⟨zaw HR.out.symm,HB2.out⟩
   | false=>
     rintro e w2 ⟨rfl,hb2⟩;have HB2:=hid (thenB HB1.out hb2);have HR2:Hid (zhz l=if (zoa l&&decide (sumD l<=512))=true then 0 else 1):=HR1.out.trans (if_neg (by rw [hN];decide));have HC3:=hid (zmn l a cap w2 (HD.out.later HB2.out) t4' HA.out hN HS.out);clear hb2 hN;go_wp2_with fail;refine HC3.out.mono ?_
     cases hF:zoa l with
     | false=>
       rintro e w3 ⟨rfl,hb3⟩;have HB3:=hid (thenB HB2.out hb3);have HR:Hid (zhz l=1):=HR2.out.trans (if_neg (by rw [hF];simp));clear hb3;go_wp2_with fail;go_ret;exact ⟨zaw HR.out.symm,HB3.out⟩
     | true=>
       rintro e w3 ⟨rfl,hb3⟩;have HB3:=hid (thenB HB2.out hb3);have HC4:=hid (zml l a cap w3 (HD.out.later HB3.out) t4' (fun u hu=>zjf (vas.1 hF u hu)))
       have HR3:Hid (zhz l=if decide (sumD l<=512)=true then 0 else 1):=by show _=_;rw [HR2.out,hF,veb]
       clear hb3 hF;go_wp2_with fail;refine HC4.out.mono ?_
       cases hQ:decide (sumD l<=512) with
       | false=>
         rintro e w4 ⟨rfl,hb4⟩;have HB4:=hid (thenB HB3.out hb4);have HR:Hid (zhz l=1):=HR3.out.trans (if_neg (by rw [hQ];decide));clear hb4 hQ;go_wp2_with fail;go_ret;exact ⟨zaw HR.out.symm,HB4.out⟩
       | true=>
         rintro e w4 ⟨rfl,hb4⟩;have HB4:=hid (thenB HB3.out hb4);have HR:Hid (zhz l=0):=HR3.out.trans (if_pos hQ);clear hb4 hQ;go_wp2_with fail;go_ret;exact ⟨zaw HR.out.symm,HB4.out⟩
end Go.Proofs.YtndkhgakfodldaaGreatDoor
