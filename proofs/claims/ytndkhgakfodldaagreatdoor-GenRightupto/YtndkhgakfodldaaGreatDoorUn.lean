/-
  Lists of texts one behind the other: slices.Grow of nothing, slices.Concat of two; the map of a procedure's own names.
-/
import Derived.Test.YtndkhgakfodldaaGreatDoorUi
import Derived.Lib.AppendZeros
import Derived.Test.YtndkhgakfodldaaGreatDoorKf
namespace Go.Proofs.YtndkhgakfodldaaGreatDoor
set_option maxRecDepth 100000
set_option maxHeartbeats 1600000
open Go.RowKit Go.Maps Go.WideMaps
set_option linter.unusedSimpArgs false
def strV (l:List ByteArray):List Value:=l.map Value.string
theorem strV_append (a b:List ByteArray):strV (a++b)=strV a++strV b:=List.map_append ..
theorem strV_len (l:List ByteArray):(strV l).length=l.length:=List.length_map ..
theorem strV_one (l:List ByteArray):∀ u ∈ strV l,u.oneCell'=true:=fun u hu=>by
 obtain ⟨s,_,rfl⟩:=List.mem_map.1 hu
 rfl
theorem run_append_nothing {P:Program} {w:World} (base:Nat) (t ty e:TypeId) (i:TypeInfo) (size c:Nat) (ht:P.underlying t=some (.slice e)) (hi:P.info? e=some i)
 (v:Value) (n:Nat) (xs:List Value) (hown:w.ownsRow base e size v n xs) :
 (Builtin.append_ #[t,t] ty #[v,.slice none 0 c]).run P w = .ok v w:=by
 rcases hown.2 with ⟨rfl,rfl⟩ | ⟨g,cap,cur,rfl,_,_,hnc,_⟩
 . simp [Builtin.append_,run_underlying ht,Go.sizeOf,typeInfo,hi,Builtin.lenOf,Builtin.firstCells]
 . simp [Builtin.append_,run_underlying ht,Go.sizeOf,typeInfo,hi,Builtin.lenOf,Builtin.firstCells,hnc,storeCells]
theorem run_append_strs {w:World} (base:Nat) (ty:TypeId) (v:Value) (n:Nat) (xs:List Value) (hown:w.ownsRow base 9 1 v n xs) (us:List ByteArray) (b:Option Addr) (c:Nat) (hS:Fx.StrsAt w b us) (hlen:n+us.length<=10000) (hbase:base<=w.heap.size) :
 ∃ v' w',(Builtin.append_ #[22,22] ty #[v,.slice b us.length c]).run Tryz.prog w = .ok v' w'/\w'.ownsRow base 9 1 v' (n+us.length) (xs++strV us)/\w.grownBy w' v.ownBlock:=by
 obtain ⟨i0,hi,hz0,hz1,hz2⟩:=info_parts Tryz.infoP9
 have go:∀ ad:Addr,b=some ad->(∀ j u,(strV us)[j]? = some u->w.cell? (ad.add j)=some u)->∃ v' w',(Builtin.append_ #[22,22] ty #[v,.slice b us.length c]).run Tryz.prog w = .ok v' w'/\w'.ownsRow base 9 1 v' (n+us.length) (xs++strV us)/\w.grownBy w' v.ownBlock:=by
  rintro ad rfl hn;obtain ⟨v',w',h1,h2,h3,_⟩:=run_append_own (P:=Tryz.prog) (w:=w) base 22 ty 9 i0 _ 1 16 Tryz.underlying22 hi hz0 hz1 hz2 rfl (by decide) v n xs hown ad us.length c (strV us) (by rw [strV_len,Nat.mul_one]) hn (strV_one us) (by unfold maxLen;omega) (by omega) hbase;exact ⟨v',w',h1,h2,h3⟩
 rcases hS with rfl | ⟨b1,off,rfl,hb1,h⟩
 . cases b with
   | none=>exact ⟨v,w,run_append_nothing base _ ty _ i0 1 c Tryz.underlying22 hi v n xs hown,by simpa [strV] using hown,⟨rfl,rfl,rfl,Nat.le_refl _,fun _ _ _=>rfl⟩⟩
   | some ad=>exact go ad rfl (fun j u hj=>by simp [strV] at hj)
 . refine go _ rfl (fun j u hj=>?_)
   have hj':j<us.length:=by
    rcases Nat.lt_or_ge j us.length with h' | h'
    . exact h'
    . rw [List.getElem?_eq_none (by rw [strV_len];exact h')] at hj;cases hj
   have e:(⟨b1,off,none⟩:Addr).add j=⟨b1,off+j,none⟩:=by unfold Addr.add;split<;>simp_all
   rw [e,h j hj'];simp [strV,hj'] at hj;rw [hj]
theorem grow_any (n:Nat) (w:World) (hn:n<=10000) :
 Calls Tryz.prog 204 #[.slice none 0 0,.int .i64 n] w fun e w'=>∃ v,e = .returned v/\w'.ownsRow w.heap.size 9 1 v 0 []/\Below w.heap.size w w':=by
 obtain ⟨i0,hi,hz0,hz1,hz2⟩:=info_parts Tryz.infoP9
 have hw:IntKind.i64.wrap (n:Int)=n:=by simp only [IntKind.wrap,IntKind.bits,IntKind.signed];simp;omega
 by_cases h0:n=0
 . subst h0
   go_enter Tryz.func204,Tryz.ntmps204;go_wp2_with fail;go_ret;exact ⟨_,rfl,World.ownsRow_nil _ _ _ _,Below.refl _ _⟩
 . have hr:=fun ty=>Lib.run_append_nil_zeros (P:=Tryz.prog) w 22 3 ty 9 i0 _ .i64 .i64 Tryz.underlying22 Tryz.underlying3 hi hz0 n (by omega) (by omega) (by omega) (by rw [hz2];omega)
   have hge:=grownCap_ge w n 0 9
   have HOw:Hid ((w.drew.alloc (.cells (Builtin.zeroCells (Value.string ⟨#[]⟩).cells n++Builtin.zeroCells (Value.string ⟨#[]⟩).cells (grownCap w n 0 9 - n)) 9)).ownsRow w.heap.size 9 1 (.slice (some ⟨w.heap.size,0,none⟩) 0 (grownCap w n 0 9)) 0 []):=by
    refine ⟨rfl,Or.inr ⟨w.heap.size,_,_,rfl,Nat.le_refl _,heap_alloc_new w.drew _,Nat.zero_le _,grownCap_le_maxLen w n 0 _ (by unfold maxLen;omega),?_,by simp⟩⟩;rw [Array.size_append,size_zeroCells,size_zeroCells];show n*1+(grownCap w n 0 9 - n)*1=_;omega
   have HBw:Hid (Below w.heap.size w (w.drew.alloc (.cells (Builtin.zeroCells (Value.string ⟨#[]⟩).cells n++Builtin.zeroCells (Value.string ⟨#[]⟩).cells (grownCap w n 0 9 - n)) 9))):=((Below.refl w.heap.size w).drew).alloc (Nat.le_refl _) _
   have hpos:(0:Int)<n:=by omega
   generalize (w.drew.alloc (.cells (Builtin.zeroCells (Value.string ⟨#[]⟩).cells n++Builtin.zeroCells (Value.string ⟨#[]⟩).cells (grownCap w n 0 9 - n)) 9))=w2 at *;generalize grownCap w n 0 9=cp at *
   have hcp:(n:Int)<=cp:=by omega
   go_enter Tryz.func204,Tryz.ntmps204
   go_wp2_with (at_builtin;refine Lib.wpList_append_run _ rfl (.tmp 20) (.tmp 21) 22 3 rfl _ _ rfl rfl _ _ (hr _) ?_)
   go_ret;exact ⟨_,rfl,HOw.out,HBw.out⟩
end Go.Proofs.YtndkhgakfodldaaGreatDoor

namespace Go.Proofs.YtndkhgakfodldaaGreatDoor
set_option maxRecDepth 100000
set_option maxHeartbeats 3200000
open Go.RowKit Go.Maps Go.WideMaps
set_option linter.unusedSimpArgs false
theorem concat_any (x y:List ByteArray) (a1:Option Addr) (c1:Nat) (a2:Option Addr) (c2 b:Nat) (w:World) (hb:b<w.heap.size) (h0:w.cell? ⟨b,0,none⟩=some (.slice a1 x.length c1)) (h1:w.cell? ⟨b,1,none⟩=some (.slice a2 y.length c2))
 (hx:Fx.StrsAt w a1 x) (hy:Fx.StrsAt w a2 y) (hlx:x.length<=1000) (hly:y.length<=1000) :
 Calls Tryz.prog 161 #[.slice (some ⟨b,0,none⟩) 2 2] w fun e w'=>∃ v,e = .returned v/\w'.ownsRow w.heap.size 9 1 v (x.length+y.length) (strV (x++y))/\Below w.heap.size w w':=by
 have HX:=hid hx;have HY:=hid hy;have H0:=hid h0;have H1:=hid h1;clear hx hy
 have hw1:IntKind.i64.wrap (x.length:Int)=x.length:=by simp only [IntKind.wrap,IntKind.bits,IntKind.signed];simp;omega
 have hw2:IntKind.i64.wrap ((x.length:Int)+(y.length:Int))=((x.length+y.length:Nat):Int):=by simp only [IntKind.wrap,IntKind.bits,IntKind.signed];simp;omega
 have hs1:(0:Int)<=x.length:=by omega
 have hs2:(0:Int)<=((x.length+y.length:Nat):Int):=by omega
 have HG:=hid (grow_any (x.length+y.length) w (by omega));go_enter Tryz.func161,Tryz.ntmps161;go_wp2_with fail
 go_loopw [3,5,11] (fun s _ i wr=>∃ j:Nat,j<=2/\i = .int .i64 j/\s = .int .i64 (if j=0 then 0 else if j=1 then (x.length:Int) else ((x.length+y.length:Nat):Int))/\w=wr) (fun _ _ i _=>2 - (intOf i).toNat)
 case atStart=>exact ⟨0,by omega,rfl,rfl,rfl⟩
 case round=>
  obtain ⟨j,hj,rfl,rfl,rfl⟩:=hrel
  obtain rfl | rfl | rfl:j=0\/j=1\/j=2:=by omega
  . go_wp2_with fail
    go_roundw
    case rel=>exact ⟨1,by omega,rfl,rfl,trivial⟩
    case measure=>simp [intOf]
  . go_wp2_with fail
    go_roundw
    case rel=>exact ⟨2,by omega,rfl,rfl,trivial⟩
    case measure=>simp [intOf]
  . go_wp2_with fail
    refine HG.out.mono ?_;rintro e w1 ⟨v1,rfl,ho1,hb1⟩;have HO1:=hid ho1;have HB1:=hid hb1;have hz1:=hb1.size;clear ho1 hb1 HG h0 h1;go_wp2_with fail
    go_loopw [6,8,27] (fun v _ i wr=>∃ j:Nat,j<=2/\i = .int .i64 j/\wr.ownsRow w.heap.size 9 1 v (if j=0 then 0 else if j=1 then x.length else x.length+y.length) (if j=0 then [] else if j=1 then strV x else strV (x++y))/\Below w.heap.size w wr) (fun _ _ i _=>2 - (intOf i).toNat)
    case atStart=>exact ⟨0,by omega,rfl,HO1.out,HB1.out⟩
    case round=>
     clear HO1 HB1 hz1;obtain ⟨j,hj,rfl,ho,hbr⟩:=hrel;have HB:=hid hbr;have hzr:=hbr.size;have hb':b<wr.heap.size:=Nat.lt_of_lt_of_le hb hzr;have k0:=(hbr.cell (p:=⟨b,0,none⟩) hb).trans H0.out;have k1:=(hbr.cell (p:=⟨b,1,none⟩) hb).trans H1.out;clear hbr
     obtain rfl | rfl | rfl:j=0\/j=1\/j=2:=by omega
     . have ho':wr.ownsRow w.heap.size 9 1 u6 0 []:=ho
       obtain ⟨v',w',hr,h2,h3⟩:=run_append_strs w.heap.size 22 u6 0 [] ho' x a1 c1 (HX.out.later HB.out) (by omega) hzr;have HO2:Hid (w'.ownsRow w.heap.size 9 1 v' x.length (strV x)):=hid (by simpa using h2);have HB2:=hid (HB.out.grown h3 hzr (fun k hk=>(ho'.lt k hk).1));clear ho ho' h2 h3
       go_wp2_with (at_builtin;refine Lib.wpList_append_run _ rfl (.tmp 31) (.tmp 32) 22 22 rfl _ _ rfl rfl _ _ hr ?_)
       go_roundw
       case rel=>exact ⟨1,by omega,rfl,HO2.out,HB2.out⟩
       case measure=>simp [intOf]
     . have ho':wr.ownsRow w.heap.size 9 1 u6 x.length (strV x):=ho
       obtain ⟨v',w',hr,h2,h3⟩:=run_append_strs w.heap.size 22 u6 x.length (strV x) ho' y a2 c2 (HY.out.later HB.out) (by omega) hzr
       have HO2:Hid (w'.ownsRow w.heap.size 9 1 v' (x.length+y.length) (strV (x++y))):=by rw [strV_append];exact h2
       have HB2:=hid (HB.out.grown h3 hzr (fun k hk=>(ho'.lt k hk).1));clear ho ho' h2 h3
       go_wp2_with (at_builtin;refine Lib.wpList_append_run _ rfl (.tmp 31) (.tmp 32) 22 22 rfl _ _ rfl rfl _ _ hr ?_)
       go_roundw
       case rel=>exact ⟨2,by omega,rfl,HO2.out,HB2.out⟩
       case measure=>simp [intOf]
     . have HO2:Hid (wr.ownsRow w.heap.size 9 1 u6 (x.length+y.length) (strV (x++y))):=ho
       clear ho;go_wp2_with fail;go_ret;exact ⟨_,rfl,HO2.out,HB.out⟩
theorem strV_own {w:World} {B:Nat} {v:Value} {l:List ByteArray} (h:w.ownsRow B 9 1 v l.length (strV l)):∃ a cap,v = .slice a l.length cap/\Fx.StrsAt w a l:=by
 rcases h.2 with ⟨hv,h0⟩ | ⟨g,cap,cur,hv,hB,hg,_⟩
 . have hl:l=[]:=List.eq_nil_of_length_eq_zero h0
   exact ⟨none,0,by rw [hv,hl];rfl,Or.inl hl⟩
 . refine ⟨_,cap,hv,Or.inr ⟨g,0,rfl,lt_of_heap hg,fun i hi=>?_⟩⟩
   have:=h.cells (g:=g) (by rw [hv];rfl) i (.string l[i]) (by simp [strV,hi]);rw [show (⟨g,0,none⟩:Addr).add i=⟨g,i,none⟩ from by unfold Addr.add;split<;>simp_all] at this;rw [Nat.zero_add];exact this
theorem keyedStr:Keyed Tryz.prog 9:=string_keyed Tryz.underlying9
theorem zeroInt (w:World):(zeroValue 3).run Tryz.prog w = .ok (.int .i64 0) w:=by kernel_rfl
def updL (L:Lc) (s:ByteArray) (i:Int):Lc:=fun a=>if a=s then some i else L a
def LFor (D:DataW Unit) (L:Lc):Prop:=∀ a:ByteArray,has D (.string a.data.toList)=(L a).isSome/\D.atKey (.string a.data.toList) (.lit (.int .i64 0)) = .lit (.int .i64 ((L a).getD 0))
theorem bytes_inj {a b:ByteArray} (h:a.data.toList=b.data.toList):a=b:=by
 cases a;cases b;simp at h;rw [h]
theorem LFor.put {D:DataW Unit} {L:Lc} (h:LFor D L) (hD:IsMap D) (s:ByteArray) (i:Int):LFor (D.put (.string s.data.toList) (.lit (.int .i64 i))) (updL L s i):=by
 intro a
 by_cases e:a=s
 . subst e
   simp only [updL,if_true];exact ⟨has_put_same (k:=.string a.data.toList) hD trivial _,atKey_put_same (k:=.string a.data.toList) hD trivial _ _⟩
 . have hne:Lit.string a.data.toList≠.string s.data.toList:=fun h=>e (bytes_inj (by injection h))
   simp only [updL,if_neg e];rw [has_put_other hne,atKey_put_other hne];exact h a
def LmAt (w:World) (b n:Nat) (L:Lc):Prop:=∃ D:DataW Unit,w.ownsMap Tryz.prog 9 (plainElem Tryz.prog 3) b n D/\LFor D L
theorem LmAt.lt {w:World} {b n:Nat} {L:Lc} (h:LmAt w b n L):b<w.heap.size:=by obtain ⟨D,h1,_⟩:=h;exact h1.lt
theorem LmAt.later {w w':World} {b n:Nat} {L:Lc} (h:LmAt w b n L) (hb:Below w.heap.size w w'):LmAt w' b n L:=by
 have hlt:=h.lt;obtain ⟨D,h1,h2⟩:=h;obtain ⟨es,clock,hb',r⟩:=h1;exact ⟨D,⟨es,clock,(hb.block b hlt).trans hb',r⟩,h2⟩
theorem LmAt.made (w:World):LmAt (w.alloc (.map #[] 0)) w.heap.size 0 (fun _=>none):=⟨.map [],World.ownsMap_made w _ _ _,fun _=>⟨rfl,rfl⟩⟩
theorem LmAt.names {w:World} {b n:Nat} {L:Lc} (h:LmAt w b n L):LcAt w (.map (some b)) L:=by
 intro w' hb s hs;obtain ⟨D,k1,k2⟩:=h.later hb;obtain ⟨v,ps,hrun,hv⟩:=k1.look_ok keyedStr Tryz.underlying185 (zeroInt w') (zd:=.lit (.int .i64 0)) (zp:=[]) (plainElem_int Tryz.underlying3 (by decide)) (keyOf_string_mk Tryz.underlying9 hs);obtain ⟨c,rfl,hc,_⟩:=plainElem_int_inv Tryz.underlying3 hv;simp only [Prod.mk.injEq] at hc;have hc:=hc.1;rw [(k2 s).2] at hc
 injection hc with hc
 injection hc with _ hc
 rw [hrun,← hc,(k2 s).1]
theorem none_names (w:World):LcAt w (.map none) (fun _=>none):=by
 intro w' hb s hs;rw [look_nil true keyedStr Tryz.underlying185 (zeroInt w') (keyOf_string_mk Tryz.underlying9 hs)]
 rfl
theorem LmAt.put {w:World} {b n:Nat} {L:Lc} (h:LmAt w b n L) (hn:n<maxLen) (s:ByteArray) (hs:s.size<=maxLen) (i:Int) (hi:(Lit.int .i64 i).wf=true) :
 ∃ w',(Instr.mapUpdate 185 (.map (some b)) (.string s) (.int .i64 i)).run Tryz.prog w = .ok () w'/\LmAt w' b (n+1) (updL L s i)/\w.grownBy w' (some b):=by
 obtain ⟨D,k1,k2⟩:=h;obtain ⟨w',r1,r2,r3⟩:=k1.update keyedStr Tryz.underlying185 hn (keyOf_string_mk Tryz.underlying9 hs) (plainElem_int (a:=i) Tryz.underlying3 hi);exact ⟨w',r1,⟨_,r2,k2.put k1.isMap s i⟩,r3⟩
def locL (l:List ByteArray):Lc:=l.zipIdx.foldl (fun f p=>updL f p.1 (p.2:Int)) (fun _=>none)
theorem locL_snoc (l:List ByteArray) (s:ByteArray):locL (l++[s])=updL (locL l) s l.length:=by
 unfold locL;rw [List.zipIdx_append,List.foldl_append];simp
end Go.Proofs.YtndkhgakfodldaaGreatDoor

namespace Go.Proofs.YtndkhgakfodldaaGreatDoor
set_option maxRecDepth 100000
set_option maxHeartbeats 3200000
open Go.RowKit Go.Maps Go.WideMaps
set_option linter.unusedSimpArgs false
set_option linter.unusedVariables false
def namesU (l:List Un):List ByteArray:=l.map Un.name
theorem namesU_take (l:List Un) (j:Nat) (h:j<l.length):namesU (l.take (j+1))=namesU (l.take j)++[l[j].name]:=by
 unfold namesU;rw [List.take_succ_eq_append_getElem h,List.map_append];rfl
def cntL (l:List ByteArray):Lc:=l.foldl (fun f s=>updL f s ((f s).getD 0+1)) (fun _=>none)
theorem cntL_snoc (l:List ByteArray) (s:ByteArray):cntL (l++[s])=updL (cntL l) s ((cntL l s).getD 0+1):=by unfold cntL;rw [List.foldl_append];rfl
theorem cntL_bd (s:ByteArray):∀ l:List ByteArray,0<=(cntL l s).getD 0/\(cntL l s).getD 0<=l.length:=by
 apply Fx.list_snoc_ind
 . exact ⟨Int.le_refl _,Int.le_refl _⟩
 . intro l a ih
   rw [cntL_snoc,List.length_append];unfold updL
   by_cases e:s=a
   . subst e
     rw [if_pos rfl];simp only [Option.getD_some,List.length_singleton];omega
   . rw [if_neg e,List.length_singleton]
     omega
theorem cntL_zero (s:ByteArray):∀ l:List ByteArray,((cntL l s).getD 0=0)↔s ∉ l:=by
 apply Fx.list_snoc_ind
 . exact ⟨fun _ h=>(by cases h),fun _=>rfl⟩
 . intro l a ih
   have hb:=cntL_bd s l;rw [cntL_snoc,List.mem_append,List.mem_singleton];unfold updL
   by_cases e:s=a
   . subst e
     rw [if_pos rfl];simp only [Option.getD_some];exact ⟨fun h=>by omega,fun h=>absurd (Or.inr (by trivial)) h⟩
   . rw [if_neg e,ih]
     exact ⟨fun h k=>k.elim h e,fun h k=>h (Or.inl k)⟩
theorem LmAt.look {w:World} {b n:Nat} {L:Lc} (h:LmAt w b n L) (s:ByteArray) (hs:s.size<=maxLen) :
 (Instr.lookup 185 (.map (some b)) (.string s) false).run Tryz.prog w = .ok (.int .i64 ((L s).getD 0)) w:=by
 obtain ⟨D,k1,k2⟩:=h;obtain ⟨c,hrun,hat,_⟩:=k1.lookup_int keyedStr Tryz.underlying185 Tryz.underlying3 (zeroInt w) (keyOf_string_mk Tryz.underlying9 hs);rw [(k2 s).2] at hat
 injection hat with hat
 injection hat with _ hat
 rw [hrun,hat]
def memB (l:List ByteArray) (s:ByteArray):Bool:=l.any fun x=>decide (x=s)
theorem memB_iff {l:List ByteArray} {s:ByteArray}:memB l s=true↔s ∈ l:=by
 unfold memB;rw [List.any_eq_true];exact ⟨fun ⟨x,hx,h⟩=>(of_decide_eq_true h) ▸ hx,fun h=>⟨s,h,decide_eq_true rfl⟩⟩
theorem memB_not {l:List ByteArray} {s:ByteArray} (h:s ∉ l):memB l s=false:=by
 cases hm:memB l s with
 | false=>rfl
 | true=>exact absurd (memB_iff.1 hm) h
def aheadTo (l:List Un):Nat->Bool
 | 0=>true
 | j+1=>aheadTo l j&&(match l[j]? with | some u=>u.uses.all (memB (namesU (l.take j))) | none=>true)
def aheadB (l:List Un):Bool:=aheadTo l l.length
theorem aheadTo_succ {l:List Un} {j:Nat} (h:j<l.length):aheadTo l (j+1)=(aheadTo l j&&l[j].uses.all (memB (namesU (l.take j)))):=by
 rw [aheadTo,List.getElem?_eq_getElem h]
theorem aheadTo_false {l:List Un} {j:Nat} (h:aheadTo l j=false):∀ k,j<=k->aheadTo l k=false
 | 0, hk => by obtain rfl:j=0:=by omega
               exact h
 | k + 1,hk=>by
   rcases Nat.lt_or_ge k j with h1 | h1
   . obtain rfl:j=k+1:=by omega
     exact h
   . rw [aheadTo,aheadTo_false h k h1];rfl
theorem heap_map_ne {w w':World} {b g:Nat} {x:Obj} (hg:w.grownBy w' (some g)) (hne:b≠g) (h:w.heap[b]? = some x):w'.heap[b]? = some x:=
 (hg.block b (lt_of_heap h) (by simpa using hne)).trans h
theorem usesAreAhead_any (l:List Un) (a:Option Addr) (cap:Nat) (w:World) (hD:DAt w Tt a l.length (unsD l)) (h4:l.length<=4) :
 Calls Tryz.prog 69 #[.slice a l.length cap] w fun e w'=>e = .returned (.bool (aheadB l))/\Below w.heap.size w w':=by
 have hmm:=@run_makeMap Tryz.prog;have HD:=hid hD;clear hD;go_enter Tryz.func69,Tryz.ntmps69;go_wp2_with fail
 go_loopw [11] (fun i wr=>∃ j:Nat,j<=l.length/\i = .int .i64 j/\aheadTo l j=true/\LmAt wr w.heap.size j (cntL (namesU (l.take j)))/\Below w.heap.size w wr) (fun i _=>l.length - (intOf i).toNat)
 case atStart=>exact ⟨0,Nat.zero_le _,rfl,rfl,LmAt.made _,al1 _ _⟩
 case round=>
  obtain ⟨j,hj,rfl,hall,hm,hb⟩:=hrel;have HM:=hid hm;have HB:=hid hb;have HL:=hid hall;have hzm:=hm.lt;clear hall hm hb
  by_cases hlt:j<l.length
  . obtain ⟨b,off,a1,k1,a2,k2,a3,k3,rfl,hx⟩:=(HD.out.later HB.out).un j hlt
    have HS:=hid (aheadTo_succ hlt);have HN:=hid (namesU_take l j hlt);obtain ⟨hbl,c0,c1,c2,c3,c4,hus,_,_,hnm,_⟩:=hx;have hub:=hus.bound;have HUs:=hid (hus.later (al1 wr (.cells #[.string l[j].name,.slice a1 l[j].uses.length k1,.int .i64 l[j].data,.slice a2 l[j].parts.length k2,.slice a3 l[j].main.length k3] 42)))
    have HLen:Hid ((namesU (l.take j)).length<=4):=by show _<=4;unfold namesU;rw [List.length_map,List.length_take];omega
    generalize namesU (l.take j)=ns at *;generalize l[j]=x at *;clear hus;have HM1:=hid (HM.out.later (al1 wr (.cells #[.string x.name,.slice a1 x.uses.length k1,.int .i64 x.data,.slice a2 x.parts.length k2,.slice a3 x.main.length k3] 42)));have HX1:Hid ((wr.alloc (.cells #[.string x.name,.slice a1 x.uses.length k1,.int .i64 x.data,.slice a2 x.parts.length k2,.slice a3 x.main.length k3] 42)).heap[wr.heap.size]? = some (.cells #[.string x.name,.slice a1 x.uses.length k1,.int .i64 x.data,.slice a2 x.parts.length k2,.slice a3 x.main.length k3] 42 (0,0))):=heap_newP _ _;have HB1:=hid (thenB HB.out (al1 wr (.cells #[.string x.name,.slice a1 x.uses.length k1,.int .i64 x.data,.slice a2 x.parts.length k2,.slice a3 x.main.length k3] 42)))
    have HZ:Hid ((wr.alloc (.cells #[.string x.name,.slice a1 x.uses.length k1,.int .i64 x.data,.slice a2 x.parts.length k2,.slice a3 x.main.length k3] 42)).heap.size=wr.heap.size+1):=by show _=_;simp
    go_wp2_with fail;generalize hW1:wr.alloc (.cells #[.string x.name,.slice a1 x.uses.length k1,.int .i64 x.data,.slice a2 x.parts.length k2,.slice a3 x.main.length k3] 42)=W1 at *;clear hW1;have hzz:=HZ.out;clear c0 c1 c2 c3 c4 hbl
    go_loopw [18] (fun i W=>∃ k:Nat,k<=x.uses.length/\i = .int .i64 k/\(x.uses.take k).all (memB ns)=true/\W=W1) (fun i _=>x.uses.length - (intOf i).toNat)
    case atStart=>exact ⟨0,Nat.zero_le _,rfl,rfl,rfl⟩
    case round=>
     obtain ⟨k,hk,rfl,hall,rfl⟩:=hrel;have HAll:=hid hall;clear hall
     by_cases hlt2:k<x.uses.length
     . obtain ⟨b2,off2,rfl,hb2,d0,hsz⟩:=HUs.out.str k hlt2
       have hlk:=HM1.out.look x.uses[k] hsz;have HZr:=hid (cntL_zero x.uses[k] ns);have HF:=hid (all_not x.uses (memB ns) k hlt2);have HT:=hid (all_snoc x.uses (memB ns) k hlt2);generalize x.uses[k]=s at *;generalize (cntL ns s).getD 0=cc at *
       by_cases t1:cc=0
       . have HR:Hid (aheadB l=false):=by
          show _=_;refine aheadTo_false (j:=j+1) ?_ l.length (by omega);rw [HS.out,HF.out (memB_not (HZr.out.1 t1)),Bool.and_false]
         subst t1;go_wp2_with fail;go_ret;exact ⟨ret_bool (by first | exact HR.out.symm | (rw [HR.out]<;>first | (simp;omega) | (simp [*];done))),HB1.out⟩
       . have HT':Hid ((x.uses.take (k+1)).all (memB ns)=true):=by
          show _=_
          rw [HT.out,HAll.out,memB_iff.2 (Classical.byContradiction fun h=>t1 (HZr.out.2 h))];rfl
         go_wp2_with fail;go_roundw
         case rel=>exact ⟨k+1,by omega,by go_num,HT'.out,trivial⟩
         case measure=>simp [intOf];omega
     . have HT:Hid (aheadTo l (j+1)=true):=by show _=_;rw [HS.out,HL.out,all_end HAll.out hlt2];rfl
       have hlk:=HM1.out.look x.name hnm;have HBd:=hid (cntL_bd x.name ns);have HC:=hid (cntL_snoc ns x.name)
       have hwr:IntKind.i64.wrap ((cntL ns x.name).getD 0+1)=(cntL ns x.name).getD 0+1:=by
        have:=HBd.out;have:=HLen.out
        simp only [IntKind.wrap,IntKind.bits,IntKind.signed];simp;omega
       obtain ⟨w2,hup,hm2,hg2⟩:=HM1.out.put (by unfold maxLen;omega) x.name hnm ((cntL ns x.name).getD 0+1) (by have:=HBd.out;have:=HLen.out;simp only [Lit.wf,Bool.and_eq_true,decide_eq_true_eq];exact ⟨by show (-9223372036854775808:Int)<=_;omega,by show _<=(9223372036854775807:Int);omega⟩);obtain ⟨e0,e1,e2,e3,e4,_⟩:=cellsOf5 HX1.out;have HM2:=hid hm2;have HB2:=hid (HB1.out.grown hg2 HB1.out.size (fun q hq=>by cases hq;exact Nat.le_refl _));clear hm2 hg2;generalize (cntL ns x.name).getD 0=cc at *;have hc1:0<=cc:=HBd.out.1
       have hc2:cc<=4:=by have:=HBd.out.2;have:=HLen.out;omega
       go_wp2_with fail;go_roundw
       case rel=>exact ⟨j+1,by omega,by go_num,HT.out,by rw [HN.out,HC.out];exact HM2.out,HB2.out⟩
       case measure=>simp [intOf];omega
  . obtain rfl:j=l.length:=by omega
    go_wp2_with fail;go_ret;exact ⟨ret_bool (by first | exact HL.out.symm | (rw [HL.out]<;>first | (simp;omega) | (simp [*];done))),HB.out⟩
theorem hasNameTwice_any (l:List Un) (a:Option Addr) (cap:Nat) (w:World) (hD:DAt w Tt a l.length (unsD l)) (h4:l.length<=4) :
 Calls Tryz.prog 70 #[.slice a l.length cap] w fun e w'=>e = .returned (.bool (Fx.dupB (Fx.lists (namesU l))))/\Below w.heap.size w w':=by
 have hmm:=@run_makeMap Tryz.prog;have HD:=hid hD;clear hD;go_enter Tryz.func70,Tryz.ntmps70;go_wp2_with fail
 go_loopw [9] (fun i wr=>∃ (k:Nat) (D:DataW Unit),k<=l.length/\i = .int .i64 k/\wr.ownsMap Tryz.prog 9 (plainElem Tryz.prog 3) w.heap.size k D/\Fx.MapInv D (Fx.lists (namesU (l.take k)))/\Below w.heap.size w wr) (fun i _=>l.length - (intOf i).toNat)
 case atStart=>exact ⟨0,.map [],Nat.zero_le _,rfl,World.ownsMap_made _ _ _ _,Fx.mapInv_nil,al1 _ _⟩
 case round=>
  obtain ⟨k,D,hk,rfl,hown,hinv,hb⟩:=hrel;have HI:=hid hinv;have HO:=hid hown;have HB:=hid hb;have hzm:=hown.lt;clear hown hb hinv
  by_cases hlt:k<l.length
  . obtain ⟨b,off,a1,k1,a2,k2,a3,k3,rfl,hx⟩:=(HD.out.later HB.out).un k hlt
    have HN:=hid (namesU_take l k hlt);obtain ⟨hbl,c0,c1,c2,c3,c4,_,_,_,hnm,_⟩:=hx
    have HK:Hid (Fx.lists (namesU (l.take k))++[l[k].name.data.toList]=Fx.lists (namesU (l.take (k+1)))):=by show _=_;rw [HN.out,Fx.lists_snoc]
    have HKey:=hid (keyOf_string_mk (P:=Tryz.prog) Tryz.underlying9 hnm);generalize l[k]=x at *;have HO1:=hid (HO.out.alloc (.cells #[.string x.name,.slice a1 x.uses.length k1,.int .i64 x.data,.slice a2 x.parts.length k2,.slice a3 x.main.length k3] 42));have HB1:=hid (thenB HB.out (al1 wr (.cells #[.string x.name,.slice a1 x.uses.length k1,.int .i64 x.data,.slice a2 x.parts.length k2,.slice a3 x.main.length k3] 42)));clear hnm
    go_wp2_with (first
     | (at_lookup;refine wpList_lookup_own_int _ rfl _ _ 185 rfl 9 3 .i64 Fx.law Tryz.underlying185 Tryz.underlying3 (Fx.zero3 _) w.heap.size k D rfl HO1.out _ _ rfl HKey.out ?_;intro c hat hwc;clear hat hwc)
     | (at_mapUpdate;refine wpList_mapUpdate_own _ rfl _ _ _ 185 rfl 9 3 Fx.law Tryz.underlying185 _ w.heap.size k D rfl HO1.out (by unfold maxLen;omega) _ _ _ rfl rfl HKey.out _ [] (plainElem_int Tryz.underlying3 (wrap64_wf _)) ?_;intro w1 hown1 hgrow1;have HO2:=hid hown1;have HG:=hid hgrow1;clear hown1 hgrow1))
    go_roundw
    case rel=>exact ⟨k+1,_,by omega,by go_num,HO2.out,by rw [← HK.out];exact HI.out.put (HO.out.tidy Fx.law) HO.out.isMap _ _,HB1.out.grown HG.out HB1.out.size (fun j hj=>by cases hj;exact Nat.le_refl _)⟩
    case measure=>simp [intOf];omega
  . have HE:Hid (Maps.size D=(Fx.uniqs (Fx.lists (namesU l))).length):=by
     have:=HI.out.size;rw [List.take_of_length_le (by omega)] at this;exact this
    have HLn:Hid ((Fx.lists (namesU l)).length=l.length):=by show _=_;simp [Fx.lists,namesU]
    go_wp2_with (at_len;refine wpList_len_own _ rfl _ _ rfl 9 3 Tryz.underlying185 _ w.heap.size k D rfl HO.out ?_)
    go_ret;exact ⟨ret_bool (by unfold Fx.dupB;rw [← HE.out,HLn.out]),HB.out⟩
def sumD (l:List Un):Int:=(l.map Un.data).sum
theorem sumD_take (l:List Un) (j:Nat) (h:j<l.length):sumD (l.take (j+1))=sumD (l.take j)+l[j].data:=by
 unfold sumD;rw [List.take_succ_eq_append_getElem h,List.map_append,List.sum_append];simp
theorem sumD_bd (l:List Un) (hb:∀ u ∈ l,0<=u.data/\u.data<=512):∀ j:Nat,0<=sumD (l.take j)/\sumD (l.take j)<=512*j
 | 0=>by simp [sumD]
 | j + 1=>by
   have ih:=sumD_bd l hb j
   rcases Nat.lt_or_ge j l.length with h | h
   . have:=hb l[j] (List.getElem_mem h)
     rw [sumD_take l j h];omega
   . rw [List.take_of_length_le (by omega)]
     rw [List.take_of_length_le (by omega)] at ih;omega
theorem dataHolds_any (l:List Un) (a:Option Addr) (cap:Nat) (w:World) (hD:DAt w Tt a l.length (unsD l)) (h4:l.length<=4) (hb:∀ u ∈ l,0<=u.data/\u.data<=512) :
 Calls Tryz.prog 72 #[.slice a l.length cap] w fun e w'=>e = .returned (.bool (decide (sumD l<=512)))/\Below w.heap.size w w':=by
 have HBd:=hid (sumD_bd l hb);have HE:=hid hb;have HD:=hid hD;clear hD hb;go_enter Tryz.func72,Tryz.ntmps72;go_wp2_with fail
 go_loopw [3,8] (fun v i wr=>∃ j:Nat,j<=l.length/\i = .int .i64 j/\v = .int .i64 (sumD (l.take j))/\Below w.heap.size w wr) (fun _ i _=>l.length - (intOf i).toNat)
 case atStart=>exact ⟨0,Nat.zero_le _,rfl,rfl,Below.refl _ _⟩
 case round=>
  obtain ⟨j,hj,rfl,rfl,hb⟩:=hrel;have HB:=hid hb;obtain ⟨g1,g2⟩:=HBd.out j;clear hb
  by_cases hlt:j<l.length
  . obtain ⟨b,off,a1,k1,a2,k2,a3,k3,rfl,hx⟩:=(HD.out.later HB.out).un j hlt
    have HS:=hid (sumD_take l j hlt);obtain ⟨g3,g4⟩:=HE.out l[j] (List.getElem_mem hlt);obtain ⟨hbl,c0,c1,c2,c3,c4,_,_,_,_,_⟩:=hx;generalize l[j]=x at *;generalize sumD (l.take j)=sm at *
    have hws:IntKind.i64.wrap (sm+x.data)=sm+x.data:=by simp only [IntKind.wrap,IntKind.bits,IntKind.signed];simp;omega
    go_wp2_with fail;go_roundw
    case rel=>exact ⟨j+1,by omega,by go_num,by rw [HS.out],thenB HB.out (al1 _ _)⟩
    case measure=>simp [intOf];omega
  . have HR:Hid (sumD (l.take j)=sumD l):=by show _=_;rw [List.take_of_length_le (by omega)]
    rw [HR.out] at g1 g2;rw [HR.out]
    by_cases t:sumD l<=512
    . have HT:Hid (decide (sumD l<=512)=true):=decide_eq_true t
      go_wp2_with fail;go_ret;exact ⟨ret_bool (by first | exact HT.out.symm | (rw [HT.out]<;>first | (simp;omega) | (simp [*];done))),HB.out⟩
    . have HT:Hid (decide (sumD l<=512)=false):=decide_eq_false t
      have t':512<sumD l:=by omega
      clear t;go_wp2_with fail;go_ret;exact ⟨ret_bool (by first | exact HT.out.symm | (rw [HT.out]<;>first | (simp;omega) | (simp [*];done))),HB.out⟩
end Go.Proofs.YtndkhgakfodldaaGreatDoor

namespace Go.Proofs.YtndkhgakfodldaaGreatDoor
set_option maxRecDepth 100000
set_option maxHeartbeats 6400000
open Go.RowKit Go.Maps Go.WideMaps
set_option linter.unusedSimpArgs false
set_option linter.unusedVariables false
theorem append_own {P:Program} {ops:Array Oper} {rest:List Oper} {o:Oper} {a:Act} {Q:Exit->Act->World->Prop} (hgd:o.guard=none) (s x:Operand) (t:TypeId)
 (ho:o.op = .call { callee:=.builtin .append,args:=#[s,x],argTypes:=#[t,t] }) (base:Nat) (e:TypeId) (z:Value) (size bytes:Nat) (ht:P.underlying t=some (.slice e))
 (hi:(P.info? e).map (fun i=>(i.zero,i.size,i.bytes))=some (some z,size,bytes)) (hzs:z.cells.size=size) (hsz:0<size) (w:World) (v:Value) (n:Nat) (xs:List Value) (hs:a.eval s=v) (hrow:w.ownsRow base e size v n xs)
 (cs:Array Value) (H:Nat) (hH:H=w.heap.size) (hx:a.eval x = .slice (some ⟨H,0,none⟩) 1 1) (hcs:cs.size=size) (h1:∀ u ∈ cs.toList,u.oneCell'=true)
 (hn:n<=2000000) (hby:bytes<=200) (hbase:base<=w.heap.size)
 (h:∀ g cap w',w'.ownsRow base e size (.slice (some ⟨g,0,none⟩) (n+1) cap) (n+1) (xs++cs.toList)->Below base w w'->w.heap.size<w'.heap.size->wpList P ops Q rest (a.put o.dst (.slice (some ⟨g,0,none⟩) (n+1) cap)) w') :
 wpList P ops Q (o :: rest) a (w.alloc (.cells cs e)):=by
 obtain ⟨i0,hi,hz0,hz1,hz2⟩:=info_parts hi
 have hsize:(w.alloc (.cells cs e)).heap.size=w.heap.size+1:=by simp
 refine wpList_append_lies (w.alloc (.cells cs e)) hgd s x t ho base e i0 z size bytes ht hi hz0 hz1 hz2 hzs hsz v n xs hs (hrow.alloc _) ⟨H,0,none⟩ 1 1 cs.toList hx (by simp [hcs]) ?_ h1 (by omega) (by unfold maxLen;omega) ?_ (by omega) _ rfl ?_
 . intro j u hj
   subst hH
   have:(⟨w.heap.size,0,none⟩:Addr).add j=⟨w.heap.size,j,none⟩:=by unfold Addr.add;split<;>simp_all
   rw [this,Lib.cell_of_heap (heap_newP w _)];simpa using hj
 . have:(n+1)*bytes<=2000001*200:=Nat.mul_le_mul (by omega) hby
   omega
 . intro g cap w' hown' hgrow hat hlt
   have hbel:Below base w w':=((Below.refl base w).alloc hbase _).grown hgrow (by omega) (fun k hk=>(hrow.lt k hk).1);have hgz:=hgrow.size;exact h g cap w' hown' hbel (by omega)
theorem Tryz.infoUnit:(Tryz.prog.info? 42).map (fun i=>(i.zero,i.size,i.bytes))=some (some (.agg #[.string ⟨#[]⟩,.slice none 0 0,.int .i64 0,.slice none 0 0,.slice none 0 0]),5,96):=by kernel_rfl
def un0:Un:=⟨⟨#[]⟩,[],0,[],[]⟩
def findU (l:List Un) (s:ByteArray):Un:=(l.find? (fun u=>decide (u.name=s))).getD un0
def usesU (l:List Un) (u:Un):List Un:=u.uses.map (findU l)
def oneU (l:List Un) (u:Un):Bool:=holdB u (numU (usesU l u)) (prtU (usesU l u))
def formB (l:List Un):Bool:=l.all (oneU l)
theorem oneU_data {l:List Un} {u:Un} (h:oneU l u=true):0<=u.data/\u.data<=512:=by
 unfold oneU holdB at h;simp only [Bool.and_eq_true] at h;exact headB_data h.1
def Apart (l:List Un):Prop:=∀ i j (hi:i<l.length) (hj:j<l.length),l[i].name=l[j].name->i=j
theorem nodup_of_dup:∀ l:List (List UInt8),Fx.dupB l=false->∀ i j (hi:i<l.length) (hj:j<l.length),l[i]=l[j]->i=j:=by
 apply Fx.list_snoc_ind
 . intro _ i j hi;simp at hi
 . intro l s ih h i j hi hj e
   rw [Fx.dup_snoc,Bool.or_eq_false_iff] at h;have hm:s ∉ l:=of_decide_eq_false h.2;rw [List.length_append,List.length_singleton] at hi hj
   rcases Nat.lt_or_ge i l.length with h1 | h1
   . rcases Nat.lt_or_ge j l.length with h2 | h2
     . rw [List.getElem_append_left h1,List.getElem_append_left h2] at e
       exact ih h.1 i j h1 h2 e
     . obtain rfl:j=l.length:=by omega
       rw [List.getElem_append_left h1,List.getElem_concat_length] at e;exact absurd (e ▸ List.getElem_mem h1) hm
       rfl
   . obtain rfl:i=l.length:=by omega
     rcases Nat.lt_or_ge j l.length with h2 | h2
     . rw [List.getElem_append_left h2,List.getElem_concat_length] at e
       exact absurd (e ▸ List.getElem_mem h2) hm
       rfl
     . omega
theorem apart_of {l:List Un} (h:Fx.dupB (Fx.lists (namesU l))=false):Apart l:=by
 intro i j hi hj e;refine nodup_of_dup _ h i j (by simpa [Fx.lists,namesU] using hi) (by simpa [Fx.lists,namesU] using hj) ?_;simp only [Fx.lists,namesU,List.getElem_map];rw [e]
theorem findU_at {l:List Un} (h:Apart l) (i:Nat) (hi:i<l.length):findU l l[i].name=l[i]:=by
 unfold findU
 have:l.find? (fun u=>decide (u.name=l[i].name))=some l[i]:=by
  rw [List.find?_eq_some_iff_getElem];refine ⟨decide_eq_true rfl,i,hi,rfl,fun j hj=>?_⟩
  have:¬ l[j].name=l[i].name:=fun e=>by have:=h j i (by omega) hi e;omega
  rw [decide_eq_false this];rfl
 rw [this];rfl
theorem locL_spec (s:ByteArray):∀ ns:List ByteArray,s ∈ ns->∃ i,∃ hi:i<ns.length,locL ns s=some (i:Int)/\ns[i]=s:=by
 apply Fx.list_snoc_ind
 . intro h;cases h
 . intro l a ih h
   rw [locL_snoc];unfold updL
   by_cases e:s=a
   . subst e
     exact ⟨l.length,by simp,if_pos rfl,by simp⟩
   . rw [if_neg e]
     obtain ⟨i,hi,h1,h2⟩:=ih ((List.mem_append.1 h).elim id (fun k=>absurd (List.mem_singleton.1 k) e));exact ⟨i,by rw [List.length_append];omega,h1,by rw [List.getElem_append_left hi];exact h2⟩
theorem aheadTo_at {l:List Un}:∀ (k:Nat),aheadTo l k=true->∀ j (hj:j<l.length),j<k->∀ s ∈ l[j].uses,s ∈ namesU (l.take j)
 | 0,_,j,_,hk=>by omega
 | k + 1,h,j,hj,hk=>by
   rw [aheadTo,Bool.and_eq_true] at h
   rcases Nat.lt_or_ge j k with h1 | h1
   . exact aheadTo_at k h.1 j hj h1
   . obtain rfl:j=k:=by omega
     rw [List.getElem?_eq_getElem hj] at h;intro s hs;exact memB_iff.1 (List.all_eq_true.1 h.2 s hs)
theorem use_at {l:List Un} (hA:aheadB l=true) (hN:Apart l) {j:Nat} (hj:j<l.length) {s:ByteArray} (hs:s ∈ l[j].uses) :
 ∃ i,∃ hi:i<l.length,i<j/\locL (namesU (l.take (j+1))) s=some (i:Int)/\findU l s=l[i]:=by
 have hm:=aheadTo_at l.length hA j hj hj s hs
 have hm':s ∈ namesU (l.take (j+1)):=by rw [namesU_take l j hj];exact List.mem_append_left _ hm
 obtain ⟨i,hi,h1,h2⟩:=locL_spec s _ hm'
 have hi':i<l.length:=by unfold namesU at hi;rw [List.length_map,List.length_take] at hi;omega
 have e:l[i].name=s:=by
  rw [← h2];simp only [namesU,List.getElem_map,List.getElem_take]
 obtain ⟨p,hp,e2⟩:=List.getElem_of_mem hm
 have hp':p<j/\p<l.length:=by unfold namesU at hp;rw [List.length_map,List.length_take] at hp;omega
 have e3:l[p].name=s:=by
  rw [← e2];simp only [namesU,List.getElem_map,List.getElem_take]
 have:=hN i p hi' hp'.2 (e.trans e3.symm);exact ⟨i,hi',by omega,h1,by rw [← e];exact findU_at hN i hi'⟩
theorem unsD_snoc (l:List Un) (u:Un):unsD (l++[u])=unsD l++u.ds:=by unfold unsD;simp
theorem dat_own {w0 W:World} {base:Nat} {v:Value} {us:List Un} {xs:List Value} (h:W.ownsRow base 42 5 v us.length xs) (hx:DVals w0 Tt (unsD us) xs) (hb:Below w0.heap.size w0 W) (hl:us.length<=2000000):∃ a cap,v = .slice a us.length cap/\DAt W Tt a us.length (unsD us):=by
 have hlen:(unsD us).length=us.length*5:=by
  have:∀ l:List Un,(unsD l).length=l.length*5:=by
   intro l;induction l with
   | nil=>rfl
   | cons a r ih=>unfold unsD at ih ⊢;rw [List.flatMap_cons,List.length_append,ih,List.length_cons];unfold Un.ds;simp;omega
  exact this us
 rcases h.2 with ⟨rfl,h0⟩ | ⟨g,cap,cur,rfl,_,hg,_⟩
 . exact ⟨none,0,by rw [h0],⟨by omega,by omega,Or.inl h0⟩⟩
 . refine ⟨some ⟨g,0,none⟩,cap,rfl,⟨by omega,by omega,Or.inr ⟨g,0,xs,rfl,trivial,lt_of_heap hg,fun j u hj=>?_,hx.moves (Moves.of_below hb Tt)⟩⟩⟩
   have:=h.cells (g:=g) rfl j u hj;rw [show (⟨g,0,none⟩:Addr).add j=⟨g,j,none⟩ from by unfold Addr.add;split<;>simp_all] at this
   rw [Nat.zero_add];exact this
theorem un_vals {w:World} {b o:Nat} {x:Un} {a1:Option Addr} {k1:Nat} {a2:Option Addr} {k2:Nat} {a3:Option Addr} {k3:Nat} (h:UnAt w Tt b o x a1 k1 a2 k2 a3 k3):DVals w Tt x.ds (#[.string x.name,.slice a1 x.uses.length k1,.int .i64 x.data,.slice a2 x.parts.length k2,.slice a3 x.main.length k3]:Array Value).toList:=by
 unfold Un.ds;exact .cons (dstr h.w0) (.cons h.uses'.val (.cons (dint h.w2) (.cons h.parts'.val (.cons h.main'.val .nil))))
theorem UnAt.uv {w:World} {b o:Nat} {x:Un} {a1:Option Addr} {k1:Nat} {a2:Option Addr} {k2:Nat} {a3:Option Addr} {k3:Nat} (h:UnAt w Tt b o x a1 k1 a2 k2 a3 k3):UvAt w x a1 k1 a2 k2 a3 k3:=⟨h.w0,h.uses',h.w2,h.parts',h.main'⟩
theorem formHolds_any (l:List Un) (a:Option Addr) (cap:Nat) (w:World) (hD:DAt w Tt a l.length (unsD l)) (h4:l.length<=4) (hA:aheadB l=true) (hN:Fx.dupB (Fx.lists (namesU l))=false) (hS:∀ u ∈ l,u.uses.length<=2000000) :
 Calls Tryz.prog 71 #[.slice a l.length cap] w fun e w'=>e = .returned (.bool (formB l))/\Below w.heap.size w w':=by
 have hmm:=@run_makeMap Tryz.prog;have HUse:=hid (fun (j:Nat) (hj:j<l.length) (s:ByteArray) (hs:s ∈ l[j].uses)=>use_at hA (apart_of hN) hj hs);have HD:=hid hD;clear hD hA hN;go_enter Tryz.func71,Tryz.ntmps71;go_wp2_with fail
 go_loopw [12] (fun i wr=>∃ j:Nat,j<=l.length/\i = .int .i64 j/\(l.take j).all (oneU l)=true/\LmAt wr w.heap.size j (locL (namesU (l.take j)))/\Below w.heap.size w wr) (fun i _=>l.length - (intOf i).toNat)
 case atStart=>exact ⟨0,Nat.zero_le _,rfl,rfl,LmAt.made _,al1 _ _⟩
 case round=>
  obtain ⟨j,hj,rfl,hall,hm,hb⟩:=hrel;have HM:=hid hm;have HB:=hid hb;have HL:=hid hall;have hzm:=hm.lt;clear hall hm hb
  by_cases hlt:j<l.length
  . obtain ⟨b,off,a1,k1,a2,k2,a3,k3,ha,hx⟩:=HD.out.un j hlt
    have hx':=hx;obtain ⟨hbl0,_⟩:=hx'
    have hxr:UnAt wr Tt b (off+j*5) l[j] a1 k1 a2 k2 a3 k3:=by
     obtain ⟨hbl,c0,c1,c2,c3,c4,h1,h2,h3,h5,h6⟩:=hx;exact ⟨Nat.lt_of_lt_of_le hbl HB.out.size,(HB.out.cell (p:=⟨b,_,none⟩) hbl).trans c0,(HB.out.cell (p:=⟨b,_,none⟩) hbl).trans c1,(HB.out.cell (p:=⟨b,_,none⟩) hbl).trans c2,(HB.out.cell (p:=⟨b,_,none⟩) hbl).trans c3,(HB.out.cell (p:=⟨b,_,none⟩) hbl).trans c4,h1.later HB.out,h2.later HB.out,h3.later HB.out,h5,h6⟩
    have HUv:=hid hx.uv;have husm:=hS l[j] (List.getElem_mem hlt);have HN:=hid (namesU_take l j hlt);have HUs:=hid (HUse.out j hlt);have HF:=hid (all_not l (oneU l) j hlt);have HT:=hid (all_snoc l (oneU l) j hlt)
    have HDat:Hid (∀ i (hi:i<l.length),i<j->0<=l[i].data/\l[i].data<=512):=fun i hi h=>oneU_data (List.all_eq_true.1 HL.out l[i] (by rw [List.mem_take_iff_getElem];exact ⟨i,by omega,rfl⟩))
    have HOne:Hid (oneU l l[j]=holdB l[j] (numU (usesU l l[j])) (prtU (usesU l l[j]))):=rfl;have HUl:Hid (usesU l l[j]=l[j].uses.map (findU l)):=rfl;obtain ⟨hbl,c0,c1,c2,c3,c4,_,_,_,hnm,_⟩:=hxr;have HLoc:=hid (locL_snoc (namesU (l.take j)) l[j].name)
    have HLen:Hid ((namesU (l.take j)).length=j):=by show _=_;unfold namesU;rw [List.length_map,List.length_take];omega
    generalize namesU (l.take j)=ns at *;generalize l[j]=x at *;subst ha
    obtain ⟨W1,hW1⟩:∃ W1,W1=wr.alloc (.cells #[.string x.name,.slice a1 x.uses.length k1,.int .i64 x.data,.slice a2 x.parts.length k2,.slice a3 x.main.length k3] 42):=⟨_,rfl⟩
    have HM1:Hid (LmAt W1 w.heap.size j (locL ns)):=by rw [hW1];exact HM.out.later (al1 _ _)
    have HX1:Hid (W1.heap[wr.heap.size]? = some (.cells #[.string x.name,.slice a1 x.uses.length k1,.int .i64 x.data,.slice a2 x.parts.length k2,.slice a3 x.main.length k3] 42 (0,0))):=by rw [hW1];exact heap_newP _ _
    have HB1:Hid (Below w.heap.size w W1):=by rw [hW1];exact thenB HB.out (al1 _ _)
    obtain ⟨w2,hup,hm2,hg2⟩:=HM1.out.put (by unfold maxLen;omega) x.name hnm (j:Int) (by simp only [Lit.wf,Bool.and_eq_true,decide_eq_true_eq];exact ⟨by show (-9223372036854775808:Int)<=_;omega,by show _<=(9223372036854775807:Int);omega⟩)
    have HM2:Hid (LmAt w2 w.heap.size (j+1) (locL (namesU (l.take (j+1))))):=by show LmAt _ _ _ _;rw [HN.out,HLoc.out,HLen.out];exact hm2
    have HX2:=hid (heap_map_ne hg2 (by omega) HX1.out);have HB2:=hid (HB1.out.grown hg2 HB1.out.size (fun q hq=>by cases hq;exact Nat.le_refl _));obtain ⟨f0,f1,f2,f3,f4,_⟩:=cellsOf5 HX1.out;have fz:=lt_of_heap HX1.out;clear hm2 hg2 HM1 HM;go_wp2_with fail;rw [← hW1];clear hW1;rw [hup];obtain ⟨e0,e1,e2,e3,e4,_⟩:=cellsOf5 HX2.out;have ez:=lt_of_heap HX2.out;clear f0 f1 f2 f3 f4 fz c0 c1 c2 c3 c4 hup HB1 HX1;have hub:=HUv.out.uses.bound;go_wp2_with fail
    go_loopw [6,24] (fun v i W=>∃ (k:Nat) (xs:List Value),k<=x.uses.length/\i = .int .i64 k/\W.ownsRow w2.heap.size 42 5 v k xs/\DVals w Tt (unsD ((x.uses.take k).map (findU l))) xs/\Below w2.heap.size w2 W) (fun _ i _=>x.uses.length - (intOf i).toNat)
    case atStart=>exact ⟨0,[],Nat.zero_le _,rfl,World.ownsRow_nil _ _ _ _,.nil,Below.refl _ _⟩
    case round=>
     obtain ⟨k,xs,hk,rfl,ho,hxs,hb3⟩:=hrel;have HO:=hid ho;have HXs:=hid hxs;have HB3:=hid hb3;have HX3:=hid ((hb3.block _ (lt_of_heap HX2.out)).trans HX2.out);have HM3:=hid (HM2.out.later hb3);clear e0 e1 e2 e3 e4 ez;obtain ⟨e0,e1,e2,e3,e4,_⟩:=cellsOf5 HX3.out;have ez:=lt_of_heap HX3.out;clear ho hxs hb3
     by_cases hlt2:k<x.uses.length
     . obtain ⟨b2,off2,rfl,hb2,d0,hsz⟩:=(HUv.out.uses.later (thenB HB2.out HB3.out)).str k hlt2
       obtain ⟨i,hi,hij,hloc,hfind⟩:=HUs.out x.uses[k] (List.getElem_mem hlt2);have hlk:=HM3.out.look x.uses[k] hsz;rw [hloc] at hlk;have HFd:=hid hfind
       have HTk:Hid ((x.uses.take (k+1)).map (findU l)=(x.uses.take k).map (findU l)++[l[i]]):=by show _=_;rw [List.take_succ_eq_append_getElem hlt2,List.map_append,List.map_singleton,hfind]
       obtain ⟨b5,off5,d1,m1,d2,m2,d3,m3,hbo,hy⟩:=HD.out.un i hi
       obtain ⟨rfl,rfl⟩:b5=b/\off5=off:=by
        injection hbo with hbo;injection hbo with h1 h2;exact ⟨h1.symm,h2.symm⟩
       have HVl:=hid (un_vals hy);obtain ⟨hbl5,g0,g1,g2,g3,g4,_,_,_,_,_⟩:=hy;have HBw:=hid (thenB HB2.out HB3.out);have j0:=(HBw.out.cell (p:=⟨b5,_,none⟩) hbl5).trans g0;have j1:=(HBw.out.cell (p:=⟨b5,_,none⟩) hbl5).trans g1;have j2:=(HBw.out.cell (p:=⟨b5,_,none⟩) hbl5).trans g2;have j3:=(HBw.out.cell (p:=⟨b5,_,none⟩) hbl5).trans g3;have j4:=(HBw.out.cell (p:=⟨b5,_,none⟩) hbl5).trans g4;have hbl6:=Nat.lt_of_lt_of_le hbl5 HBw.out.size
       have hil:(i:Int)<l.length:=by omega
       clear g0 g1 g2 g3 g4 hfind hloc hbo;generalize l[i]=y at *;generalize x.uses[k]=su at *;simp only [Option.getD_some] at hlk
       go_wp2_with (at_builtin;refine append_own rfl (.tmp 28) (.tmp 35) 199 rfl w2.heap.size 42 _ 5 96 Tryz.underlying199 Tryz.infoUnit rfl (by decide) _ _ k xs rfl HO.out #[.string y.name,.slice d1 y.uses.length m1,.int .i64 y.data,.slice d2 y.parts.length m2,.slice d3 y.main.length m3] _ rfl rfl rfl (DVals.one HVl.out) (by omega) (by decide) HB3.out.size ?_;intro g5 c5 w5 ho5 hb5 hz5;have HO5:=hid ho5;have HB5:=hid hb5;clear ho5 hb5)
       go_roundw
       case rel=>exact ⟨k+1,_,by omega,by go_num,HO5.out,by rw [HTk.out,unsD_snoc];exact HXs.out.append HVl.out,HB3.out.trans HB5.out⟩
       case measure=>simp [intOf];omega
     . obtain rfl:k=x.uses.length:=by omega
       have HXf:Hid (DVals w Tt (unsD (usesU l x)) xs):=by have:=HXs.out;rw [List.take_length] at this;rw [HUl.out];exact this
       have hul:(usesU l x).length=x.uses.length:=by rw [HUl.out,List.length_map]
       obtain ⟨av,cv,rfl,hdv⟩:=dat_own (us:=usesU l x) (by rw [hul];exact HO.out) HXf.out (thenB HB2.out HB3.out) (by rw [hul];omega);rw [hul] at hdv;have HDv:=hid hdv;clear hdv HO HXs
       have hbu:∀ u ∈ usesU l x,0<=u.data/\u.data<=512:=by
        intro u hu;rw [HUl.out] at hu;obtain ⟨s,hs,rfl⟩:=List.mem_map.1 hu;obtain ⟨i,hi,hij,_,hf⟩:=HUs.out s hs;rw [hf];exact HDat.out i hi hij
       have HCk:=hid (fun (hh:headB x=true) (lc:Int) (W:World) (hW:Below wr.heap.size wr W)=>ckK (ckOf x (numU (usesU l x)) (prtU (usesU l x)) lc) x.name a1 k1 a2 k2 a3 x.main.length k3 av x.uses.length cv W (headB_data hh).1 (headB_data hh).2 hub (HUv.out.later (thenB (thenB HB2.out HB3.out) hW)).parts (by have:=known_uses (us:=usesU l x) (cap:=cv) (by rw [hul];exact HDv.out.later hW) hbu x hul.symm lc;rw [hul] at this;exact this));have HHo:=hid (Hold_any x (numU (usesU l x)) (prtU (usesU l x)) a1 k1 a2 k2 a3 k3 199 (.slice av x.uses.length cv) wr (HUv.out.later (thenB HB2.out HB3.out)) HCk.out);rw [← HOne.out] at HHo;clear hbu HCk;go_wp2_with fail;refine HHo.out.mono ?_
       cases h1:oneU l x with
       | false=>
         rintro e w6 ⟨rfl,hb6⟩;have HB6:=hid (thenB (thenB HB2.out HB3.out) hb6);have HR:Hid (formB l=false):=HF.out h1;clear hb6;go_wp2_with fail;go_ret;exact ⟨ret_bool HR.out.symm,HB6.out⟩
       | true=>
         rintro e w6 ⟨rfl,hb6⟩;have HB6:=hid (thenB (thenB HB2.out HB3.out) hb6);have HM6:=hid (HM3.out.later hb6)
         have HT':Hid ((l.take (j+1)).all (oneU l)=true):=by show _=_;rw [HT.out,HL.out,h1];rfl
         clear hb6;go_wp2_with fail;go_roundw
         case rel=>exact ⟨j+1,by omega,by go_num,HT'.out,HM6.out,HB6.out⟩
         case measure=>simp [intOf];omega
  . obtain rfl:j=l.length:=by omega
    have HR:Hid (formB l=true):=all_end HL.out hlt;go_wp2_with fail;go_ret;exact ⟨ret_bool HR.out.symm,HB.out⟩
end Go.Proofs.YtndkhgakfodldaaGreatDoor

namespace Go.Proofs.YtndkhgakfodldaaGreatDoor
set_option maxRecDepth 100000
set_option maxHeartbeats 1600000
open Go.RowKit Go.Maps Go.WideMaps
set_option linter.unusedSimpArgs false
set_option linter.unusedVariables false
def semE (l:List Un):Int:=
 if l.length<1\/4<l.length then 2 else if aheadB l=false then 9 else if Fx.dupB (Fx.lists (namesU l))=true then 6 else if (formB l&&decide (sumD l<=512))=true then 0 else 1
theorem semCheck_any (l:List Un) (a:Option Addr) (cap:Nat) (w:World) (hD:DAt w Tt a l.length (unsD l)) (hS:∀ u ∈ l,u.uses.length<=2000000) :
 Calls Tryz.prog 24 #[.slice a l.length cap] w fun e w'=>e = .returned (.int .i64 (semE l))/\Below w.heap.size w w':=by
 have hbd:=hD.bound;have HS:=hid hS;have HD:=hid hD;clear hD hS
 by_cases t0:l.length<1
 . have HR:Hid (semE l=2):=if_pos (Or.inl t0)
   go_enter Tryz.func24,Tryz.ntmps24;go_wp2_with fail;go_ret;exact ⟨ret_int HR.out.symm,Below.refl _ _⟩
 have t0':1<=l.length:=by omega
 by_cases t4:4<l.length
 . have HR:Hid (semE l=2):=if_pos (Or.inr t4)
   clear t0;go_enter Tryz.func24,Tryz.ntmps24;go_wp2_with fail;go_ret;exact ⟨ret_int HR.out.symm,Below.refl _ _⟩
 have t4':l.length<=4:=by omega
 have HR0:Hid (semE l=if aheadB l=false then 9 else if Fx.dupB (Fx.lists (namesU l))=true then 6 else if (formB l&&decide (sumD l<=512))=true then 0 else 1):=if_neg (by omega);clear t0 t4;have HC:=hid (usesAreAhead_any l a cap w HD.out t4')
 cases hA:aheadB l with
 | false=>
   rw [hA] at HC;have HR:Hid (semE l=9):=HR0.out.trans (if_pos hA);go_enter Tryz.func24,Tryz.ntmps24;go_wp2_with fail;refine HC.out.mono ?_;rintro e w1 ⟨rfl,hb1⟩;have HB1:=hid hb1;clear hb1;go_wp2_with fail;go_ret;exact ⟨ret_int HR.out.symm,HB1.out⟩
 | true=>
   rw [hA] at HC;have HR1:Hid (semE l=if Fx.dupB (Fx.lists (namesU l))=true then 6 else if (formB l&&decide (sumD l<=512))=true then 0 else 1):=HR0.out.trans (if_neg (by rw [hA];decide));have HA:=hid hA;clear HR0 hA;go_enter Tryz.func24,Tryz.ntmps24;go_wp2_with fail;refine HC.out.mono ?_;rintro e w1 ⟨rfl,hb1⟩;have HB1:=hid hb1;have HC2:=hid (hasNameTwice_any l a cap w1 (HD.out.later hb1) t4');clear hb1;go_wp2_with fail;refine HC2.out.mono ?_
   cases hN:Fx.dupB (Fx.lists (namesU l)) with
   | true=>
     rintro e w2 ⟨rfl,hb2⟩;have HB2:=hid (thenB HB1.out hb2);have HR:Hid (semE l=6):=HR1.out.trans (if_pos hN);clear hb2;go_wp2_with fail;go_ret;exact ⟨ret_int HR.out.symm,HB2.out⟩
   | false=>
     rintro e w2 ⟨rfl,hb2⟩;have HB2:=hid (thenB HB1.out hb2);have HR2:Hid (semE l=if (formB l&&decide (sumD l<=512))=true then 0 else 1):=HR1.out.trans (if_neg (by rw [hN];decide));have HC3:=hid (formHolds_any l a cap w2 (HD.out.later HB2.out) t4' HA.out hN HS.out);clear hb2 hN;go_wp2_with fail;refine HC3.out.mono ?_
     cases hF:formB l with
     | false=>
       rintro e w3 ⟨rfl,hb3⟩;have HB3:=hid (thenB HB2.out hb3);have HR:Hid (semE l=1):=HR2.out.trans (if_neg (by rw [hF];simp));clear hb3;go_wp2_with fail;go_ret;exact ⟨ret_int HR.out.symm,HB3.out⟩
     | true=>
       rintro e w3 ⟨rfl,hb3⟩;have HB3:=hid (thenB HB2.out hb3);have HC4:=hid (dataHolds_any l a cap w3 (HD.out.later HB3.out) t4' (fun u hu=>oneU_data (List.all_eq_true.1 hF u hu)))
       have HR3:Hid (semE l=if decide (sumD l<=512)=true then 0 else 1):=by show _=_;rw [HR2.out,hF,Bool.true_and]
       clear hb3 hF;go_wp2_with fail;refine HC4.out.mono ?_
       cases hQ:decide (sumD l<=512) with
       | false=>
         rintro e w4 ⟨rfl,hb4⟩;have HB4:=hid (thenB HB3.out hb4);have HR:Hid (semE l=1):=HR3.out.trans (if_neg (by rw [hQ];decide));clear hb4 hQ;go_wp2_with fail;go_ret;exact ⟨ret_int HR.out.symm,HB4.out⟩
       | true=>
         rintro e w4 ⟨rfl,hb4⟩;have HB4:=hid (thenB HB3.out hb4);have HR:Hid (semE l=0):=HR3.out.trans (if_pos hQ);clear hb4 hQ;go_wp2_with fail;go_ret;exact ⟨ret_int HR.out.symm,HB4.out⟩
end Go.Proofs.YtndkhgakfodldaaGreatDoor
