/-
  Lists of texts one behind the other: slices.Grow of nothing, slices.Concat of two; the map of a procedure's own names.
-/
import Derived.Test.YtndkhgakfodldaaGreatDoorUi
import Derived.Lib.AppendZeros
namespace Go.Proofs.YtndkhgakfodldaaGreatDoor
set_option maxRecDepth 100000
set_option maxHeartbeats 1600000
open Go.RowKit Go.Maps Go.WideMaps
set_option linter.unusedSimpArgs false
def strV (l:List ByteArray):List Value:=l.map Value.string
theorem strV_append (a b:List ByteArray):strV (a++b)=strV a++strV b:=List.map_append ..
theorem strV_len (l:List ByteArray):(strV l).length=l.length:=List.length_map ..
theorem strV_one (l:List ByteArray):∀ u ∈ strV l,u.oneCell'=true:=fun u hu=>by
 obtain ⟨s,_,rfl⟩:=List.mem_map.1 hu
 rfl
theorem run_append_nothing {P:Program} {w:World} (base:Nat) (t ty e:TypeId) (i:TypeInfo) (size c:Nat) (ht:P.underlying t=some (.slice e)) (hi:P.info? e=some i)
 (v:Value) (n:Nat) (xs:List Value) (hown:w.ownsRow base e size v n xs) :
 (Builtin.append_ #[t,t] ty #[v,.slice none 0 c]).run P w = .ok v w:=by
 rcases hown.2 with ⟨rfl,rfl⟩ | ⟨g,cap,cur,rfl,_,_,hnc,_⟩
 . simp [Builtin.append_,run_underlying ht,Go.sizeOf,typeInfo,hi,Builtin.lenOf,Builtin.firstCells]
 . simp [Builtin.append_,run_underlying ht,Go.sizeOf,typeInfo,hi,Builtin.lenOf,Builtin.firstCells,hnc,storeCells]
theorem run_append_strs {w:World} (base:Nat) (ty:TypeId) (v:Value) (n:Nat) (xs:List Value) (hown:w.ownsRow base 9 1 v n xs) (us:List ByteArray) (b:Option Addr) (c:Nat) (hS:Fx.StrsAt w b us) (hlen:n+us.length<=10000) (hbase:base<=w.heap.size) :
 ∃ v' w',(Builtin.append_ #[22,22] ty #[v,.slice b us.length c]).run Tryz.prog w = .ok v' w'/\w'.ownsRow base 9 1 v' (n+us.length) (xs++strV us)/\w.grownBy w' v.ownBlock:=by
 obtain ⟨i0,hi,hz0,hz1,hz2⟩:=info_parts Tryz.infoP9
 have go:∀ ad:Addr,b=some ad->(∀ j u,(strV us)[j]? = some u->w.cell? (ad.add j)=some u)->∃ v' w',(Builtin.append_ #[22,22] ty #[v,.slice b us.length c]).run Tryz.prog w = .ok v' w'/\w'.ownsRow base 9 1 v' (n+us.length) (xs++strV us)/\w.grownBy w' v.ownBlock:=by
  rintro ad rfl hn;obtain ⟨v',w',h1,h2,h3,_⟩:=run_append_own (P:=Tryz.prog) (w:=w) base 22 ty 9 i0 _ 1 16 Tryz.underlying22 hi hz0 hz1 hz2 rfl (by decide) v n xs hown ad us.length c (strV us) (by rw [strV_len,Nat.mul_one]) hn (strV_one us) (by unfold maxLen;omega) (by omega) hbase;exact ⟨v',w',h1,h2,h3⟩
 rcases hS with rfl | ⟨b1,off,rfl,hb1,h⟩
 . cases b with
   | none=>exact ⟨v,w,run_append_nothing base _ ty _ i0 1 c Tryz.underlying22 hi v n xs hown,by simpa [strV] using hown,⟨rfl,rfl,rfl,Nat.le_refl _,fun _ _ _=>rfl⟩⟩
   | some ad=>exact go ad rfl (fun j u hj=>by simp [strV] at hj)
 . refine go _ rfl (fun j u hj=>?_)
   have hj':j<us.length:=by
    rcases Nat.lt_or_ge j us.length with h' | h'
    . exact h'
    . rw [List.getElem?_eq_none (by rw [strV_len];exact h')] at hj;cases hj
   have e:(⟨b1,off,none⟩:Addr).add j=⟨b1,off+j,none⟩:=by unfold Addr.add;split<;>simp_all
   rw [e,h j hj'];simp [strV,hj'] at hj;rw [hj]
theorem grow_any (n:Nat) (w:World) (hn:n<=10000) :
 Calls Tryz.prog 204 #[.slice none 0 0,.int .i64 n] w fun e w'=>∃ v,e = .returned v/\w'.ownsRow w.heap.size 9 1 v 0 []/\Below w.heap.size w w':=by
 obtain ⟨i0,hi,hz0,hz1,hz2⟩:=info_parts Tryz.infoP9
 have hw:IntKind.i64.wrap (n:Int)=n:=by simp only [IntKind.wrap,IntKind.bits,IntKind.signed];simp;omega
 by_cases h0:n=0
 . subst h0
   go_enter Tryz.func204,Tryz.ntmps204;go_wp2_with fail;go_ret;exact ⟨_,rfl,World.ownsRow_nil _ _ _ _,Below.refl _ _⟩
 . have hr:=fun ty=>Lib.run_append_nil_zeros (P:=Tryz.prog) w 22 3 ty 9 i0 _ .i64 .i64 Tryz.underlying22 Tryz.underlying3 hi hz0 n (by omega) (by omega) (by omega) (by rw [hz2];omega)
   have hge:=grownCap_ge w n 0 9
   have HOw:Hid ((w.drew.alloc (.cells (Builtin.zeroCells (Value.string ⟨#[]⟩).cells n++Builtin.zeroCells (Value.string ⟨#[]⟩).cells (grownCap w n 0 9 - n)) 9)).ownsRow w.heap.size 9 1 (.slice (some ⟨w.heap.size,0,none⟩) 0 (grownCap w n 0 9)) 0 []):=by
    refine ⟨rfl,Or.inr ⟨w.heap.size,_,_,rfl,Nat.le_refl _,heap_alloc_new w.drew _,Nat.zero_le _,grownCap_le_maxLen w n 0 _ (by unfold maxLen;omega),?_,by simp⟩⟩;rw [Array.size_append,size_zeroCells,size_zeroCells];show n*1+(grownCap w n 0 9 - n)*1=_;omega
   have HBw:Hid (Below w.heap.size w (w.drew.alloc (.cells (Builtin.zeroCells (Value.string ⟨#[]⟩).cells n++Builtin.zeroCells (Value.string ⟨#[]⟩).cells (grownCap w n 0 9 - n)) 9))):=((Below.refl w.heap.size w).drew).alloc (Nat.le_refl _) _
   have hpos:(0:Int)<n:=by omega
   generalize (w.drew.alloc (.cells (Builtin.zeroCells (Value.string ⟨#[]⟩).cells n++Builtin.zeroCells (Value.string ⟨#[]⟩).cells (grownCap w n 0 9 - n)) 9))=w2 at *;generalize grownCap w n 0 9=cp at *
   have hcp:(n:Int)<=cp:=by omega
   go_enter Tryz.func204,Tryz.ntmps204
   go_wp2_with (at_builtin;refine Lib.wpList_append_run _ rfl (.tmp 20) (.tmp 21) 22 3 rfl _ _ rfl rfl _ _ (hr _) ?_)
   go_ret;exact ⟨_,rfl,HOw.out,HBw.out⟩
end Go.Proofs.YtndkhgakfodldaaGreatDoor

namespace Go.Proofs.YtndkhgakfodldaaGreatDoor
set_option maxRecDepth 100000
set_option maxHeartbeats 3200000
open Go.RowKit Go.Maps Go.WideMaps
set_option linter.unusedSimpArgs false
theorem concat_any (x y:List ByteArray) (a1:Option Addr) (c1:Nat) (a2:Option Addr) (c2 b:Nat) (w:World) (hb:b<w.heap.size) (h0:w.cell? ⟨b,0,none⟩=some (.slice a1 x.length c1)) (h1:w.cell? ⟨b,1,none⟩=some (.slice a2 y.length c2))
 (hx:Fx.StrsAt w a1 x) (hy:Fx.StrsAt w a2 y) (hlx:x.length<=1000) (hly:y.length<=1000) :
 Calls Tryz.prog 161 #[.slice (some ⟨b,0,none⟩) 2 2] w fun e w'=>∃ v,e = .returned v/\w'.ownsRow w.heap.size 9 1 v (x.length+y.length) (strV (x++y))/\Below w.heap.size w w':=by
 have HX:=hid hx;have HY:=hid hy;have H0:=hid h0;have H1:=hid h1;clear hx hy
 have hw1:IntKind.i64.wrap (x.length:Int)=x.length:=by simp only [IntKind.wrap,IntKind.bits,IntKind.signed];simp;omega
 have hw2:IntKind.i64.wrap ((x.length:Int)+(y.length:Int))=((x.length+y.length:Nat):Int):=by simp only [IntKind.wrap,IntKind.bits,IntKind.signed];simp;omega
 have hs1:(0:Int)<=x.length:=by omega
 have hs2:(0:Int)<=((x.length+y.length:Nat):Int):=by omega
 have HG:=hid (grow_any (x.length+y.length) w (by omega));go_enter Tryz.func161,Tryz.ntmps161;go_wp2_with fail
 go_loopw [3,5,11] (fun s _ i wr=>∃ j:Nat,j<=2/\i = .int .i64 j/\s = .int .i64 (if j=0 then 0 else if j=1 then (x.length:Int) else ((x.length+y.length:Nat):Int))/\w=wr) (fun _ _ i _=>2 - (intOf i).toNat)
 case atStart=>exact ⟨0,by omega,rfl,rfl,rfl⟩
 case round=>
  obtain ⟨j,hj,rfl,rfl,rfl⟩:=hrel
  obtain rfl | rfl | rfl:j=0\/j=1\/j=2:=by omega
  . go_wp2_with fail
    go_roundw
    case rel=>exact ⟨1,by omega,rfl,rfl,trivial⟩
    case measure=>simp [intOf]
  . go_wp2_with fail
    go_roundw
    case rel=>exact ⟨2,by omega,rfl,rfl,trivial⟩
    case measure=>simp [intOf]
  . go_wp2_with fail
    refine HG.out.mono ?_;rintro e w1 ⟨v1,rfl,ho1,hb1⟩;have HO1:=hid ho1;have HB1:=hid hb1;have hz1:=hb1.size;clear ho1 hb1 HG h0 h1;go_wp2_with fail
    go_loopw [6,8,27] (fun v _ i wr=>∃ j:Nat,j<=2/\i = .int .i64 j/\wr.ownsRow w.heap.size 9 1 v (if j=0 then 0 else if j=1 then x.length else x.length+y.length) (if j=0 then [] else if j=1 then strV x else strV (x++y))/\Below w.heap.size w wr) (fun _ _ i _=>2 - (intOf i).toNat)
    case atStart=>exact ⟨0,by omega,rfl,HO1.out,HB1.out⟩
    case round=>
     clear HO1 HB1 hz1;obtain ⟨j,hj,rfl,ho,hbr⟩:=hrel;have HB:=hid hbr;have hzr:=hbr.size;have hb':b<wr.heap.size:=Nat.lt_of_lt_of_le hb hzr;have k0:=(hbr.cell (p:=⟨b,0,none⟩) hb).trans H0.out;have k1:=(hbr.cell (p:=⟨b,1,none⟩) hb).trans H1.out;clear hbr
     obtain rfl | rfl | rfl:j=0\/j=1\/j=2:=by omega
     . have ho':wr.ownsRow w.heap.size 9 1 u6 0 []:=ho
       obtain ⟨v',w',hr,h2,h3⟩:=run_append_strs w.heap.size 22 u6 0 [] ho' x a1 c1 (HX.out.later HB.out) (by omega) hzr;have HO2:Hid (w'.ownsRow w.heap.size 9 1 v' x.length (strV x)):=hid (by simpa using h2);have HB2:=hid (HB.out.grown h3 hzr (fun k hk=>(ho'.lt k hk).1));clear ho ho' h2 h3
       go_wp2_with (at_builtin;refine Lib.wpList_append_run _ rfl (.tmp 31) (.tmp 32) 22 22 rfl _ _ rfl rfl _ _ hr ?_)
       go_roundw
       case rel=>exact ⟨1,by omega,rfl,HO2.out,HB2.out⟩
       case measure=>simp [intOf]
     . have ho':wr.ownsRow w.heap.size 9 1 u6 x.length (strV x):=ho
       obtain ⟨v',w',hr,h2,h3⟩:=run_append_strs w.heap.size 22 u6 x.length (strV x) ho' y a2 c2 (HY.out.later HB.out) (by omega) hzr
       have HO2:Hid (w'.ownsRow w.heap.size 9 1 v' (x.length+y.length) (strV (x++y))):=by rw [strV_append];exact h2
       have HB2:=hid (HB.out.grown h3 hzr (fun k hk=>(ho'.lt k hk).1));clear ho ho' h2 h3
       go_wp2_with (at_builtin;refine Lib.wpList_append_run _ rfl (.tmp 31) (.tmp 32) 22 22 rfl _ _ rfl rfl _ _ hr ?_)
       go_roundw
       case rel=>exact ⟨2,by omega,rfl,HO2.out,HB2.out⟩
       case measure=>simp [intOf]
     . have HO2:Hid (wr.ownsRow w.heap.size 9 1 u6 (x.length+y.length) (strV (x++y))):=ho
       clear ho;go_wp2_with fail;go_ret;exact ⟨_,rfl,HO2.out,HB.out⟩
theorem strV_own {w:World} {B:Nat} {v:Value} {l:List ByteArray} (h:w.ownsRow B 9 1 v l.length (strV l)):∃ a cap,v = .slice a l.length cap/\Fx.StrsAt w a l:=by
 rcases h.2 with ⟨hv,h0⟩ | ⟨g,cap,cur,hv,hB,hg,_⟩
 . have hl:l=[]:=List.eq_nil_of_length_eq_zero h0
   exact ⟨none,0,by rw [hv,hl];rfl,Or.inl hl⟩
 . refine ⟨_,cap,hv,Or.inr ⟨g,0,rfl,lt_of_heap hg,fun i hi=>?_⟩⟩
   have:=h.cells (g:=g) (by rw [hv];rfl) i (.string l[i]) (by simp [strV,hi]);rw [show (⟨g,0,none⟩:Addr).add i=⟨g,i,none⟩ from by unfold Addr.add;split<;>simp_all] at this;rw [Nat.zero_add];exact this
theorem keyedStr:Keyed Tryz.prog 9:=string_keyed Tryz.underlying9
theorem zeroInt (w:World):(zeroValue 3).run Tryz.prog w = .ok (.int .i64 0) w:=by kernel_rfl
def updL (L:Lc) (s:ByteArray) (i:Int):Lc:=fun a=>if a=s then some i else L a
def LFor (D:DataW Unit) (L:Lc):Prop:=∀ a:ByteArray,has D (.string a.data.toList)=(L a).isSome/\D.atKey (.string a.data.toList) (.lit (.int .i64 0)) = .lit (.int .i64 ((L a).getD 0))
theorem bytes_inj {a b:ByteArray} (h:a.data.toList=b.data.toList):a=b:=by
 cases a;cases b;simp at h;rw [h]
theorem LFor.put {D:DataW Unit} {L:Lc} (h:LFor D L) (hD:IsMap D) (s:ByteArray) (i:Int):LFor (D.put (.string s.data.toList) (.lit (.int .i64 i))) (updL L s i):=by
 intro a
 by_cases e:a=s
 . subst e
   simp only [updL,if_true];exact ⟨has_put_same (k:=.string a.data.toList) hD trivial _,atKey_put_same (k:=.string a.data.toList) hD trivial _ _⟩
 . have hne:Lit.string a.data.toList≠.string s.data.toList:=fun h=>e (bytes_inj (by injection h))
   simp only [updL,if_neg e];rw [has_put_other hne,atKey_put_other hne];exact h a
def LmAt (w:World) (b n:Nat) (L:Lc):Prop:=∃ D:DataW Unit,w.ownsMap Tryz.prog 9 (plainElem Tryz.prog 3) b n D/\LFor D L
theorem LmAt.lt {w:World} {b n:Nat} {L:Lc} (h:LmAt w b n L):b<w.heap.size:=by obtain ⟨D,h1,_⟩:=h;exact h1.lt
theorem LmAt.later {w w':World} {b n:Nat} {L:Lc} (h:LmAt w b n L) (hb:Below w.heap.size w w'):LmAt w' b n L:=by
 have hlt:=h.lt;obtain ⟨D,h1,h2⟩:=h;obtain ⟨es,clock,hb',r⟩:=h1;exact ⟨D,⟨es,clock,(hb.block b hlt).trans hb',r⟩,h2⟩
theorem LmAt.made (w:World):LmAt (w.alloc (.map #[] 0)) w.heap.size 0 (fun _=>none):=⟨.map [],World.ownsMap_made w _ _ _,fun _=>⟨rfl,rfl⟩⟩
theorem LmAt.names {w:World} {b n:Nat} {L:Lc} (h:LmAt w b n L):LcAt w (.map (some b)) L:=by
 intro w' hb s hs;obtain ⟨D,k1,k2⟩:=h.later hb;obtain ⟨v,ps,hrun,hv⟩:=k1.look_ok keyedStr Tryz.underlying185 (zeroInt w') (zd:=.lit (.int .i64 0)) (zp:=[]) (plainElem_int Tryz.underlying3 (by decide)) (keyOf_string_mk Tryz.underlying9 hs);obtain ⟨c,rfl,hc,_⟩:=plainElem_int_inv Tryz.underlying3 hv;simp only [Prod.mk.injEq] at hc;have hc:=hc.1;rw [(k2 s).2] at hc
 injection hc with hc
 injection hc with _ hc
 rw [hrun,← hc,(k2 s).1]
theorem none_names (w:World):LcAt w (.map none) (fun _=>none):=by
 intro w' hb s hs;rw [look_nil true keyedStr Tryz.underlying185 (zeroInt w') (keyOf_string_mk Tryz.underlying9 hs)]
 rfl
theorem LmAt.put {w:World} {b n:Nat} {L:Lc} (h:LmAt w b n L) (hn:n<maxLen) (s:ByteArray) (hs:s.size<=maxLen) (i:Int) (hi:(Lit.int .i64 i).wf=true) :
 ∃ w',(Instr.mapUpdate 185 (.map (some b)) (.string s) (.int .i64 i)).run Tryz.prog w = .ok () w'/\LmAt w' b (n+1) (updL L s i)/\w.grownBy w' (some b):=by
 obtain ⟨D,k1,k2⟩:=h;obtain ⟨w',r1,r2,r3⟩:=k1.update keyedStr Tryz.underlying185 hn (keyOf_string_mk Tryz.underlying9 hs) (plainElem_int (a:=i) Tryz.underlying3 hi);exact ⟨w',r1,⟨_,r2,k2.put k1.isMap s i⟩,r3⟩
def locL (l:List ByteArray):Lc:=l.zipIdx.foldl (fun f p=>updL f p.1 (p.2:Int)) (fun _=>none)
theorem locL_snoc (l:List ByteArray) (s:ByteArray):locL (l++[s])=updL (locL l) s l.length:=by
 unfold locL;rw [List.zipIdx_append,List.foldl_append];simp
end Go.Proofs.YtndkhgakfodldaaGreatDoor

namespace Go.Proofs.YtndkhgakfodldaaGreatDoor
set_option maxRecDepth 100000
set_option maxHeartbeats 3200000
open Go.RowKit Go.Maps Go.WideMaps
set_option linter.unusedSimpArgs false
set_option linter.unusedVariables false
theorem LmAt.look {w:World} {b n:Nat} {L:Lc} (h:LmAt w b n L) (s:ByteArray) (hs:s.size<=maxLen) :
 (Instr.lookup 185 (.map (some b)) (.string s) false).run Tryz.prog w = .ok (.int .i64 ((L s).getD 0)) w:=by
 obtain ⟨D,k1,k2⟩:=h;obtain ⟨c,hrun,hat,_⟩:=k1.lookup_int keyedStr Tryz.underlying185 Tryz.underlying3 (zeroInt w) (keyOf_string_mk Tryz.underlying9 hs);rw [(k2 s).2] at hat
 injection hat with hat
 injection hat with _ hat
 rw [hrun,hat]
end Go.Proofs.YtndkhgakfodldaaGreatDoor

namespace Go.Proofs.YtndkhgakfodldaaGreatDoor
set_option maxRecDepth 100000
set_option maxHeartbeats 6400000
open Go.RowKit Go.Maps Go.WideMaps
set_option linter.unusedSimpArgs false
set_option linter.unusedVariables false
end Go.Proofs.YtndkhgakfodldaaGreatDoor

namespace Go.Proofs.YtndkhgakfodldaaGreatDoor
set_option maxRecDepth 100000
set_option maxHeartbeats 1600000
open Go.RowKit Go.Maps Go.WideMaps
set_option linter.unusedSimpArgs false
set_option linter.unusedVariables false
end Go.Proofs.YtndkhgakfodldaaGreatDoor
