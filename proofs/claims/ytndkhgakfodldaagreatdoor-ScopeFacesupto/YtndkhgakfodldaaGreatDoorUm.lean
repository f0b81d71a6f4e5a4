/-
  Package scope: the map of all that is declared; declare.
-/
import Derived.Test.YtndkhgakfodldaaGreatDoorUi
namespace Go.Proofs.YtndkhgakfodldaaGreatDoor
set_option maxRecDepth 100000
set_option maxHeartbeats 1600000
open Go.RowKit Go.Maps Go.WideMaps
set_option linter.unusedSimpArgs false
theorem laidOutS:laidOutB Tryz.prog=true:=by kernel_rfl
theorem keyTyRef:Tryz.prog.keyType 244=true:=by kernel_rfl
theorem keyedRef:Keyed Tryz.prog 244:=Keyed.of_law (deep_law_laid laidOutS (m:=3) (by decide) (of_decide_eq_true (by kernel_rfl)) (by kernel_rfl) (by kernel_rfl))
def refKey (mod name:ByteArray):Lit:=.string (keyBytes [.string mod.data.toList,.string name.data.toList])
theorem keyOf_ref (mod name:ByteArray) (h1:mod.size<=maxLen) (h2:name.size<=maxLen):keyOf Tryz.prog 244 (.agg #[.string mod,.string name])=some (refKey mod name):=by
 have hf:(Value.agg #[.string mod,.string name]).formed Tryz.prog 244=true:=by kernel_rfl
 have hl:Tryz.prog.keyLits (Tryz.prog.types.size+1) 244 (Value.agg #[.string mod,.string name]).cells.toList=some [.string mod.data.toList,.string name.data.toList]:=by
  have h0:0<Tryz.prog.types.size:=of_decide_eq_true (by kernel_rfl)
  obtain ⟨k,hk⟩:∃ k,Tryz.prog.types.size=k+1:=⟨Tryz.prog.types.size - 1,by omega⟩
  rw [hk]
  have hs:∀ s:ByteArray,s.size<=maxLen->Tryz.prog.keyLits (k+1) 9 [.string s]=some [.string s.data.toList]:=fun s h=>by
   unfold Program.keyLits;rw [Tryz.underlying9];exact if_pos h
  have e:(Value.agg #[.string mod,.string name]).cells.toList=[.string mod,.string name]:=rfl
  have c2:Tryz.prog.cellsOf 244=2:=by kernel_rfl
  have c9:Tryz.prog.cellsOf 9=1:=by kernel_rfl
  rw [e];unfold Program.keyLits;rw [Tryz.underlying244];simp [c2,c9,hs mod h1,hs name h2]
 unfold keyOf;rw [Tryz.underlying244];simp only [keyTyRef,hf,hl]
 rfl
theorem refKey_ne {a b c d:ByteArray} (h1:a.size<=maxLen) (h2:b.size<=maxLen) (h3:c.size<=maxLen) (h4:d.size<=maxLen) (h:¬ (a=c/\b=d)):refKey a b≠refKey c d:=fun e=>by
 have k1:=keyOf_ref a b h1 h2;have k2:=keyOf_ref c d h3 h4;rw [← e] at k2;have:=keyedRef.inj k1 k2
 injection this with this
 have:=congrArg Array.toList this;simp at this;exact h this
def updK (K:Kn) (mod name:ByteArray) (x:Mg):Kn:=fun a b=>if a=mod/\b=name then some x else K a b
def KFor (D:DataW Value) (K:Kn):Prop:=∀ a b:ByteArray,a.size<=maxLen->b.size<=maxLen->has D (refKey a b)=(K a b).isSome/\D.atKey (refKey a b) (.held mg0.val) = .held ((K a b).getD mg0).val
theorem KFor.put {D:DataW Value} {K:Kn} (h:KFor D K) (hD:IsMap D) (mod name:ByteArray) (h1:mod.size<=maxLen) (h2:name.size<=maxLen) (x:Mg):KFor (D.put (refKey mod name) (.held x.val)) (updK K mod name x):=by
 intro a b ha hb
 by_cases e:a=mod/\b=name
 . obtain ⟨rfl,rfl⟩:=e
   simp only [updK,and_self,if_true];exact ⟨has_put_same (k:=refKey a b) hD trivial _,atKey_put_same (k:=refKey a b) hD trivial _ _⟩
 . have hne:=refKey_ne ha hb h1 h2 e
   simp only [updK,if_neg e];rw [has_put_other hne,atKey_put_other hne];exact h a b ha hb
def KmAt (w:World) (b n:Nat) (K:Kn):Prop:=∃ D,w.ownsMap Tryz.prog 244 heldE b n D/\KFor D K
theorem KmAt.lt {w:World} {b n:Nat} {K:Kn} (h:KmAt w b n K):b<w.heap.size:=by obtain ⟨D,h1,_⟩:=h;exact h1.lt
theorem KmAt.block {w w':World} {b n:Nat} {K:Kn} (h:KmAt w b n K) (hb:w'.heap[b]? = w.heap[b]?):KmAt w' b n K:=by
 obtain ⟨D,h1,h2⟩:=h;obtain ⟨es,clock,hb',r⟩:=h1;exact ⟨D,⟨es,clock,hb.trans hb',r⟩,h2⟩
theorem KmAt.later {w w':World} {b n:Nat} {K:Kn} (h:KmAt w b n K) (hb:Below w.heap.size w w'):KmAt w' b n K:=h.block (hb.block b h.lt)
theorem KmAt.made (w:World):KmAt (w.alloc (.map #[] 0)) w.heap.size 0 (fun _ _=>none):=⟨.map [],World.ownsMap_made w _ _ _,fun _ _ _ _=>⟨rfl,rfl⟩⟩
theorem zeroMg (w:World):(zeroValue 242).run Tryz.prog w = .ok mg0.val w:=by kernel_rfl
theorem KmAt.known {w:World} {b n:Nat} {K:Kn} (h:KmAt w b n K):KnAt w (.map (some b)) K:=by
 intro w' hb mod name h1 h2;obtain ⟨D,k1,k2⟩:=h.later hb;obtain ⟨v,ps,hrun,hv⟩:=k1.look_ok keyedRef Tryz.underlying187 (zeroMg w') (zd:=.held mg0.val) (zp:=[]) rfl (keyOf_ref mod name h1 h2);rw [(k2 mod name h1 h2).2] at hv;simp only [heldE,Option.some.injEq,Prod.mk.injEq,DataW.held.injEq] at hv;rw [hrun,hv.1,(k2 mod name h1 h2).1]
theorem KmAt.put {w:World} {b n:Nat} {K:Kn} (h:KmAt w b n K) (hn:n<maxLen) (mod name:ByteArray) (h1:mod.size<=maxLen) (h2:name.size<=maxLen) (x:Mg) :
 ∃ w',(Instr.mapUpdate 187 (.map (some b)) (.agg #[.string mod,.string name]) x.val).run Tryz.prog w = .ok () w'/\KmAt w' b (n+1) (updK K mod name x)/\w.grownBy w' (some b):=by
 obtain ⟨D,k1,k2⟩:=h;obtain ⟨w',r1,r2,r3⟩:=k1.update keyedRef Tryz.underlying187 hn (keyOf_ref mod name h1 h2) (val:=x.val) (d:=.held x.val) (ps:=[]) rfl;exact ⟨w',r1,⟨_,r2,k2.put k1.isMap mod name h1 h2 x⟩,r3⟩
theorem Keeps.grown {R:Nat} {w w1 w2:World} (h:Keeps R w w1) (hg:w1.grownBy w2 (some R)):Keeps R w w2:=
 h.trans ⟨hg.os,hg.tape,hg.output,hg.size,fun k h1 h2=>hg.block k h1 (fun e=>h2 (Option.some.inj e))⟩
def itMg (m:Int) (i:It):Mg:=⟨i.kind,i.n,m,i.at_⟩
def declK (K:Kn) (mod:ByteArray) (m:Int) (l:List It):Kn:=l.foldl (fun K i=>updK K mod i.name (itMg m i)) K
theorem declK_snoc (K:Kn) (mod:ByteArray) (m:Int) (l:List It) (i:It):declK K mod m (l++[i])=updK (declK K mod m l) mod i.name (itMg m i):=by
 unfold declK;rw [List.foldl_append];rfl
theorem declare_any (K:Kn) (b n:Nat) (mod:ByteArray) (mm:Int) (l:List It) (a:Option Addr) (cap:Nat) (w:World) (hK:KmAt w b n K) (hm:mod.size<=maxLen) (hI:Fx.ItemsAt w a l) (hF:Fx.AllFit l) (hl:l.length<=1000) (hn:n<=1000) (hab:∀ b' off,l≠[]->a=some ⟨b',off,none⟩->b'≠b) :
 Calls Tryz.prog 119 #[.agg #[.map (some b)],.string mod,.int .i64 mm,.slice a l.length cap] w fun e w'=>e = .returned (.tuple #[])/\KmAt w' b (n+l.length) (declK K mod mm l)/\Keeps b w w':=by
 have HI:=hid hI;have HF:=hid hF;have HK:=hid hK;have HAB:=hid hab;have hbw:=hK.lt;clear hI hF hK hab;go_enter Tryz.func119,Tryz.ntmps119;go_wp2_with fail
 go_loopw [9,12] (fun _ i wr=>∃ j:Nat,j<=l.length/\i = .int .i64 j/\KmAt wr b (n+j) (declK K mod mm (l.take j))/\wr.heap[w.heap.size]? = some (.cells #[.map (some b)] 189)/\Keeps b w wr) (fun _ i _=>l.length - (intOf i).toNat)
 case atStart=>exact ⟨0,Nat.zero_le _,rfl,HK.out.later (al1 _ _),heap_newP _ _,(Keeps.refl _ _).alloc _⟩
 case round=>
  obtain ⟨j,hj,rfl,hk,hbx,hke⟩:=hrel;have HKj:=hid hk;have HX:=hid hbx;have HE:=hid hke;have hzr:=hke.size;have hxlt:=lt_of_heap hbx;clear hk hke
  by_cases hlt:j<l.length
  . obtain ⟨b2,off,rfl,hbl,c0,c1,c2,c3⟩:=HI.out.place hlt
    have hne:=HAB.out b2 off (fun h=>by rw [h] at hlt;simp at hlt) rfl;have d0:=(HE.out.cell (off:=off+j*4) hbl hne).trans c0;have d1:=(HE.out.cell (off:=off+j*4+1) hbl hne).trans c1;have d2:=(HE.out.cell (off:=off+j*4+2) hbl hne).trans c2;have d3:=(HE.out.cell (off:=off+j*4+3) hbl hne).trans c3;have hbl':b2<wr.heap.size:=Nat.lt_of_lt_of_le hbl hzr;have hnm:=HF.out l[j] (List.getElem_mem _)
    have HSn:Hid (updK (declK K mod mm (l.take j)) mod l[j].name (itMg mm l[j])=declK K mod mm (l.take (j+1))):=by
     show _=declK K mod mm (l.take (j+1));rw [List.take_succ_eq_append_getElem hlt,declK_snoc]
    generalize l[j]=x at *;obtain ⟨w2,hrun,hK2,hg2⟩:=(HKj.out.later (al1 _ (.cells #[.int .i64 x.kind,.int .i64 x.n,.int .i64 x.at_,.string x.name] 98))).put (by unfold maxLen;omega) mod x.name hm hnm (itMg mm x);simp only [Mg.val,itMg] at hrun;rw [HSn.out] at hK2;have HK2:=hid hK2;have HE2:=hid ((HE.out.alloc _).grown hg2);have HX2:Hid (w2.heap[w.heap.size]? = some (.cells #[.map (some b)] 189)):=(hg2.block _ (by simp;omega) (fun e=>by have:=Option.some.inj e;omega)).trans (heap_old HX.out)
    have k0:wr.cell? ⟨w.heap.size,0,none⟩=some (.map (some b)):=by rw [Lib.cell_of_heap HX.out];rfl
    clear c0 c1 c2 c3 hK2 hg2 hbx hnm;go_wp2_with fail;go_roundw
    case rel=>exact ⟨j+1,by omega,by go_num,by rw [← Nat.add_assoc];exact HK2.out,HX2.out,HE2.out⟩
    case measure=>simp [intOf];omega
  . obtain rfl:j=l.length:=by omega
    have HKl:Hid (KmAt wr b (n+l.length) (declK K mod mm l)):=by have:=HKj.out;rw [List.take_length] at this;exact this
    clear hbx;go_wp2_with fail;go_end0;exact ⟨rfl,HKl.out,HE.out⟩
end Go.Proofs.YtndkhgakfodldaaGreatDoor
