/-
  What Gen answers, as it lies in memory; numbers that are the same.
-/
import Derived.Test.YtndkhgakfodldaaGreatDoorNo
import Derived.Test.YtndkhgakfodldaaGreatDoorUr
import Derived.Deep.QuietTactic
import Derived.BigQuiet
import Derived.Test.YtndkhgakfodldaaGreatDoorYa
import Derived.Test.YtndkhgakfodldaaGreatDoorXc
import Derived.Deep.RegionHeld
import Derived.Deep.RegionHeldLaw
namespace Go.Proofs.YtndkhgakfodldaaGreatDoor
set_option maxRecDepth 100000
set_option maxHeartbeats 800000
open Go.RowKit Go.Maps Go.WideMaps
set_option linter.unusedSimpArgs false
set_option linter.unusedVariables false
theorem dat_row {W:World} {base:Nat} {t:TypeId} {sz:Nat} {a:Option Addr} {n cap:Nat} {xs:List Value} {ds:List D} (h:W.ownsRow base t sz (.slice a n cap) n xs) (hx:DVals W Tt ds xs) (h1:n<=ds.length) (h2:ds.length<=17592186044416):DAt W Tt a n ds:=by
 refine ⟨h1,h2,?_⟩
 rcases h.2 with ⟨e,h0⟩ | ⟨g,cap',cur,e,_,hg,_⟩
 . exact Or.inl h0
 . cases e
   refine Or.inr ⟨g,0,xs,rfl,trivial,lt_of_heap hg,fun j u hj=>?_,hx⟩;have:=h.cells (g:=g) rfl j u hj;rw [show (⟨g,0,none⟩:Addr).add j=⟨g,j,none⟩ from by unfold Addr.add;split<;>simp_all] at this
   rw [Nat.zero_add];exact this
def fit15 (n:Int):Prop:=-1000000000000000<=n/\n<=1000000000000000
theorem dint15 {W:World} {n:Int} (h:fit15 n):DVal W Tt (.int n) (.int .i64 n):=dint (wf_lit h.1 h.2)
theorem gis_vals {W:World}:∀ (l:List Gi),(∀ i ∈ l,fit15 i.op/\fit15 i.a/\fit15 i.b)->DVals W Tt (gisD l) (gisV l)
 | [],_=>DVals.nil
 | i :: r,h=>by
   have h1:=h i (List.mem_cons_self ..);simp only [gisD,gisV,List.flatMap_cons];exact DVals.append (.cons (dint15 h1.1) (.cons (dint15 h1.2.1) (.cons (dint15 h1.2.2) .nil))) (gis_vals r (fun j hj=>h j (List.mem_cons_of_mem _ hj)))
theorem gfs_vals {W:World}:∀ (l:List Gf),(∀ i ∈ l,fit15 i.at_/\fit15 i.kind/\fit15 i.m)->DVals W Tt (gfsD l) (gfsV l)
 | [],_=>DVals.nil
 | i :: r,h=>by
   have h1:=h i (List.mem_cons_self ..);simp only [gfsD,gfsV,List.flatMap_cons];exact DVals.append (.cons (dint15 h1.1) (.cons (dint15 h1.2.1) (.cons (dint15 h1.2.2) .nil))) (gfs_vals r (fun j hj=>h j (List.mem_cons_of_mem _ hj)))
theorem ints_vals {W:World}:∀ (l:List Int),(∀ i ∈ l,fit15 i)->DVals W Tt (intD l) (intV l)
 | [],_=>DVals.nil
 | i :: r,h=>.cons (dint15 (h i (List.mem_cons_self ..))) (ints_vals r (fun j hj=>h j (List.mem_cons_of_mem _ hj)))
theorem strs_vals {W:World}:∀ (l:List ByteArray),(∀ s ∈ l,s.size<=maxLen)->DVals W Tt (strsD l) (strV l)
 | [],_=>DVals.nil
 | i :: r,h=>.cons (dstr (h i (List.mem_cons_self ..))) (strs_vals r (fun j hj=>h j (List.mem_cons_of_mem _ hj)))
theorem gisD_len (l:List Gi):(gisD l).length=l.length*3:=by
 induction l with
 | nil=>rfl
 | cons x r ih=>simp only [gisD,List.flatMap_cons,List.length_append,List.length_cons] at ih ⊢;rw [ih];simp [Gi.ds];omega
theorem gfsD_len (l:List Gf):(gfsD l).length=l.length*3:=by
 induction l with
 | nil=>rfl
 | cons x r ih=>simp only [gfsD,List.flatMap_cons,List.length_append,List.length_cons] at ih ⊢;rw [ih];simp [Gf.ds];omega
theorem up_len (N:Int):∀ (e:List Gf) (lo:Int),lo<=N->e.Pairwise (fun f g=>f.at_<g.at_)->(∀ f ∈ e,lo<=f.at_/\f.at_<N)->(e.length:Int)<=N - lo
 | [],lo,h,_,_=>by simp;omega
 | f :: r,lo,h,hp,hb=>by
   rw [List.pairwise_cons] at hp;have h1:=hb f (List.mem_cons_self ..);have:=up_len N r (f.at_+1) (by omega) hp.2 (fun g hg=>⟨by have:=hp.1 g hg;omega,(hb g (List.mem_cons_of_mem _ hg)).2⟩);rw [List.length_cons];omega
theorem genM_ok {u:Un} {o:Ob} (h:genM u = .ok o):o=genOb u/\holdB u numS prtS=true/\Go.Lib.containsS u.uses u.name=false/\fullW (genS u)=false:=by
 unfold genM at h
 split at h
 . cases h
 . rename_i h1
   split at h
   . cases h
   . rename_i h2
     cases h;simp only [Bool.not_eq_true,Bool.or_eq_false_iff] at h1;exact ⟨rfl,by simpa using h1.2,h1.1,by simpa using h2⟩
theorem gen_small {u:Un} (h:holdB u numS prtS=true):(∀ i ∈ (genS u).code,fit15 i.op/\fit15 i.a/\fit15 i.b)/\(∀ f ∈ (genS u).fixes,fit15 f.at_/\fit15 f.kind/\fit15 f.m)/\(∀ x ∈ entsW u.parts,fit15 x)/\fit15 ((partsW u.parts).code.length:Int)/\(genS u).fixes.length<=33000:=by
 obtain ⟨ha,_,hl,hs⟩:=gen_grow h;have hb:=genS_le h;have h3:=headB_uses (holdB_parts h).2.2;obtain ⟨e,he,hp,hr⟩:=ha.fx
 have he':(genS u).fixes=e:=by rw [he];rfl
 subst he';refine ⟨fun i hi=>?_,fun f hf=>?_,fun x hx=>?_,by unfold fit15;omega,?_⟩
 . obtain ⟨k,hk,rfl⟩:=List.getElem_of_mem hi
   have:=ha.ins k _ (Nat.zero_le _) (List.getElem?_eq_getElem hk);unfold inR at this;unfold fit15;omega
 . obtain ⟨k,i,hi,hk,_,hx⟩:=hr f hf
   have:=lt_some hi;unfold fit15
   rcases hx with ⟨h1,h2,_⟩ | ⟨h1,_,_,h4⟩<;>omega
 . rw [ents_starts,List.mem_map] at hx
   obtain ⟨b,hb',e⟩:=hx;have:=hs b hb';unfold fit15;omega
 . have:=up_len ((genS u).code.length:Int) (genS u).fixes 0 (by omega) hp (fun f hf=>by
    obtain ⟨k,i,hi,hk,_,_⟩:=hr f hf;have:=lt_some hi
    omega)
   omega
theorem own_cap {W:World} {base:Nat} {t:TypeId} {sz:Nat} {a:Option Addr} {n cap:Nat} {xs:List Value} (h:W.ownsRow base t sz (.slice a n cap) n xs):n<=cap:=by
 obtain ⟨_,_,e,h1,_⟩:=ownsRow_form h
 cases e
 exact h1
theorem gen_at {u:Un} {o:Ob} (hg:genM u = .ok o) {x1:Option Addr} {y1:Nat} {x2:Option Addr} {y2:Nat} {x3:Option Addr} {y3:Nat} {w:World} (hU:UvAt w u x1 y1 x2 y2 x3 y3) :
 Calls Tryz.prog 31 #[.agg #[.string u.name,.slice x1 u.uses.length y1,.int .i64 u.data,.slice x2 u.parts.length y2,.slice x3 u.main.length y3]] w fun e w'=>∃ x1 y1 x3 y3 x4 y4 x5 y5,e = .returned (.tuple #[.agg #[.string o.name,.slice x1 o.uses.length y1,.int .i64 o.data,.slice x3 o.code.length y3,.slice x4 o.fixes.length y4,.slice x5 o.entries.length y5,.int .i64 o.main],.int .i64 0])/\OvAt w' o x1 x3 x4 x5/\o.uses.length<=y1/\Below w.heap.size w w':=
 (Gen_any u x1 y1 x2 y2 x3 y3 w hU).mono fun e w' ⟨h,hb⟩=>by
   obtain ⟨rfl,hh,hc,hf⟩:=genM_ok hg;unfold GenEnd at h;rw [hg] at h;obtain ⟨ua,uc,ca,cc,fa,fc,ea,ec,he,h1,h2,h3,h4⟩:=h;obtain ⟨s1,s2,s3,s4,s5⟩:=gen_small hh;have hd:=headB_data (holdB_parts hh).2.2;have hu:=headB_uses (holdB_parts hh).2.2;have h6:=headB_six (holdB_parts hh).2.2;have hel:(genOb u).entries.length=u.parts.length:=entsTo_len ..;have hcl:=genS_le hh;refine ⟨ua,uc,ca,cc,fa,fc,ea,ec,he,⟨hU.wn,?_,wf_lit (by show _<=u.data;omega) (by show u.data<=_;omega),?_,?_,?_,wf_lit s4.1 s4.2⟩,own_cap h1,hb⟩
   . exact dat_row h1 (strs_vals _ (strs_at hU.uses).2) (by simp [strsD]) (by show (strsD u.uses).length<=_;simp [strsD];omega)
   . exact dat_row h2 (gis_vals _ s1) (by rw [gisD_len];omega) (by rw [gisD_len];show (genS u).code.length*3<=_;omega)
   . exact dat_row h3 (gfs_vals _ s2) (by rw [gfsD_len];omega) (by rw [gfsD_len];show (genS u).fixes.length*3<=_;omega)
   . exact dat_row h4 (ints_vals _ s3) (by simp [intD]) (by rw [show (intD (genOb u).entries).length=(genOb u).entries.length from by simp [intD],hel];omega)
theorem DAt.drw {A:Nat->Prop} {w:World} {n:Nat} {a:Option Addr} {ds:List D} (h:DAt w A a n ds) (k:Nat):DAt (w.drewN k) A a n ds:=h.moves ⟨by simp,fun b _ hb=>⟨hb,by simp⟩⟩
theorem SameInts_same (a b:Option Addr) (c1 c2:Nat) (l:List Int) (w:World) (ha:DAt w Tt a l.length (intD l)) (hb:DAt w Tt b l.length (intD l)) :
 Calls Tryz.prog 28 #[.slice a l.length c1,.slice b l.length c2] w fun e w'=>e = .returned (.bool true)/\∃ m,w'=w.drewN m:=by
 have hbd:=ha.bound;have HA:=hid ha;have HB:=hid hb;clear ha hb;go_enter Tryz.func28,Tryz.ntmps28;go_wp2_with fail
 go_loopw [5] (fun i wr=>∃ k m:Nat,k<=l.length/\i = .int .i64 k/\wr=w.drewN m) (fun i _=>l.length - (intOf i).toNat)
 case atStart=>exact ⟨0,0,Nat.zero_le _,rfl,rfl⟩
 case round=>
  obtain ⟨k,m,hk,rfl,rfl⟩:=hrel
  by_cases hlt:k<l.length
  . obtain ⟨b1,o1,rfl,hl1,hc0,_⟩:=(DAt.num (l:=l) (HA.out.drw m)) k hlt
    obtain ⟨b2,o2,rfl,hl2,hd0,_⟩:=(DAt.num (l:=l) (HB.out.drw m)) k hlt;have hc:=hid hc0;generalize l[k]=lk at *;generalize hW:w.drewN m=W at *;have HW:=hid hW;clear hW;go_wp2_with fail
    go_quiet ((fail))
    go_wp2_with fail;go_roundw
    case rel=>exact ⟨k+1,m+nq,by omega,by go_num,by rw [← HW.out,World.drewN_drewN]⟩
    case measure=>simp [intOf];omega
  . go_wp2_with fail
    go_ret;exact ⟨rfl,m,rfl⟩
end Go.Proofs.YtndkhgakfodldaaGreatDoor

namespace Go.Proofs.YtndkhgakfodldaaGreatDoor
set_option maxRecDepth 100000
set_option maxHeartbeats 6400000
open Go.RowKit Go.Shelf
set_option linter.unusedSimpArgs false
set_option linter.unusedVariables false
def instrB (i:Gi):List UInt8:=Fx.byteOf i.op :: (Fx.numB i.a++Fx.numB i.b)
def fixBy (f:Gf):List UInt8:=Fx.numB f.at_++Fx.byteOf f.kind :: Fx.numB f.m
section
variable {P:Program} {ops:Array Oper} {o:Oper} {a:Act} {w:World} {K:Act->World->Prop} {Q:Exit->Act->World->Prop} {E:Prop}
end
theorem u8_mod (n:Int):IntKind.u8.wrap n=n % 256:=by
 have h1:IntKind.u8.signed=false:=rfl;have h2:IntKind.u8.bits=8:=rfl;simp [IntKind.wrap,h1,h2]
theorem later_bk {w w':World} {b:Nat} {x:Obj} (h:w.heap[b]? = some x) (hb:Below w.heap.size w w'):w'.heap[b]? = some x:=(hb.block _ (lt_of_heap h)).trans h
theorem step_oneB {ops:Array Oper} {o:Oper} {a:Act} {K:Act->World->Prop} {Q:Exit->Act->World->Prop} {E:Prop} {W:World} (hgd:o.guard=none) (s x:Operand)
 (ho:o.op = .call { callee:=.builtin .append,args:=#[s,x],argTypes:=#[140,140] }) (B:Nat) (v:Value) (l:List UInt8) (hs:a.eval s=v) (hrow:Fx.Row B W v l) (n:Int) (H:Nat) (hx:a.eval x = .slice (some ⟨H,0,none⟩) 1 1) (hc:W.cell? ⟨H,0,none⟩=some (.int .u8 (IntKind.u8.wrap n))) (hl:l.length<=1000000) (hB:B<=W.heap.size)
 (h:∀ v' w',Fx.Row B w' v' (l++[Fx.byteOf n])->W.grownBy w' v.ownBlock->(∀ k,v'.ownBlock=some k->k<W.heap.size->v.ownBlock=some k)->K (a.put o.dst v') w') :
 if Region.wanted o (yielded ops a.tmps)=true then Oper.wp Tryz.prog o a W K Q else E:=by
 obtain ⟨i0,hi,hz0,hz1,hz2⟩:=info_parts Fx.info5;refine step_append_lies W hgd s x 140 ho B 5 i0 _ 1 1 Tryz.underlying140 hi hz0 hz1 hz2 rfl (by omega) v l.length (Fx.bytesV l) hs hrow ⟨H,0,none⟩ 1 1 [Fx.byteV (Fx.byteOf n)] hx rfl (fun j u hj=>?_) (by simp;rfl) (by omega) (by unfold maxLen;omega) (by omega) hB _ rfl ?_
 . have hj0:j=0:=by
    rcases Nat.lt_or_ge j 1 with h' | h'
    . omega
    . rw [List.getElem?_eq_none (by simpa using h')] at hj;cases hj
   subst hj0;cases hj;rw [show (⟨H,0,none⟩:Addr).add 0=⟨H,0,none⟩ from by unfold Addr.add;split<;>simp_all,hc,Fx.byteV_of,u8_mod]
 . intro g cap w' hown hg hat hlt
   refine h _ w' ?_ hg (fun k e hk=>?_)
   . unfold Fx.Row
     rw [← Fx.snocB,Fx.len_snoc];exact hown
   . simp only [Value.ownBlock,Option.some.injEq] at e
     subst e
     rcases hat with h1 | h1
     . exact h1
     . omega
theorem row_below {B:Nat} {w w':World} {v:Value} {l:List UInt8} (h:Fx.Row B w v l) (hg:w.grownBy w' v.ownBlock) (hB:B<=w.heap.size):Below B w w':=(Below.refl B w).grown hg hB (fun k hk=>(h.lt k hk).1)
theorem num_ret {B:Nat} {v:Value} {l:List UInt8} (n:Int) {w:World} (h:Fx.Row B w v l) (hB:B<=w.heap.size) (hl:l.length<=1000000) :
 Calls Tryz.prog 88 #[v,.int .i64 n] w fun e w'=>∃ u,e = .returned u/\(Fx.Row B w' u (l++Fx.numB n)/\Below B w w'/\w.grownBy w' v.ownBlock):=(Fx.AppendNumber_any B v l n w h hB hl).mono fun e w' ⟨u,h1,h2,h3⟩=>⟨u,h1,h2,row_below h h3 hB,h3⟩
theorem text_ret {B:Nat} {v:Value} {l:List UInt8} (s:ByteArray) {w:World} (h:Fx.Row B w v l) (hB:B<=w.heap.size) (hl:l.length<=1000000) (hs:s.size<=1000000) :
 Calls Tryz.prog 86 #[v,.string s] w fun e w'=>∃ u,e = .returned u/\(Fx.Row B w' u (l++Fx.textB s)/\Below B w w'):=(Fx.AppendText_any B v l s w h hB hl hs).mono fun e w' ⟨u,h1,h2,h3⟩=>⟨u,h1,h2,row_below h h3 hB⟩
theorem appendInstr_any (B:Nat) (v:Value) (l:List UInt8) (i:Gi) (w:World) (h:Fx.Row B w v l) (hB:B<=w.heap.size) (hl:l.length<=900000) :
 Calls Tryz.prog 90 #[v,.agg #[.int .i64 i.op,.int .i64 i.a,.int .i64 i.b]] w fun e w'=>∃ v',e = .returned v'/\(Fx.Row B w' v' (l++instrB i)/\Below B w w'):=by
 have hbox:=heap_newP w (.cells #[.int .i64 i.op,.int .i64 i.a,.int .i64 i.b] 69);generalize hW:w.alloc (.cells #[.int .i64 i.op,.int .i64 i.a,.int .i64 i.b] 69)=w1 at *
 have hb1:Below w.heap.size w w1:=by rw [← hW];exact al1 _ _
 have H1:=hid (h.later hb1);have HX:=hid hbox;have HB1:=hid (hb1.mono hB);have hz1:=hb1.size
 have HK:Hid (∀ {W W':World} {u:Value} {k:List UInt8},Fx.Row B W u k->W.grownBy W' u.ownBlock->W.heap[w.heap.size]? = some (.cells #[.int .i64 i.op,.int .i64 i.a,.int .i64 i.b] 69)->W'.heap[w.heap.size]? = some (.cells #[.int .i64 i.op,.int .i64 i.a,.int .i64 i.b] 69)):=fun hr hg hx=>hr.keep hg (by decide) hx
 have HC:Hid (∀ {W:World},W.heap[w.heap.size]? = some (.cells #[.int .i64 i.op,.int .i64 i.a,.int .i64 i.b] 69)->W.cell? ⟨w.heap.size,0,none⟩=some (.int .i64 i.op)/\W.cell? ⟨w.heap.size,1,none⟩=some (.int .i64 i.a)/\W.cell? ⟨w.heap.size,2,none⟩=some (.int .i64 i.b)):=fun hx=>⟨(cellsOf3 hx).1,(cellsOf3 hx).2.1,(cellsOf3 hx).2.2.1⟩
 have hB1:B<=w1.heap.size:=by omega
 clear h hbox hb1;go_enter Tryz.func90,Tryz.ntmps90;go_upto_region 1 with fail
 try rw [hW]
 clear hW
 go_region_held_law (fun W=>W.cell? ⟨w.heap.size,0,none⟩=some (.int .i64 i.op)/\W.cell? ⟨w.heap.size,1,none⟩=some (.int .i64 i.a)/\W.cell? ⟨w.heap.size,2,none⟩=some (.int .i64 i.b))
  (first | with_reducible exact HC.out HX4.out | with_reducible exact HC.out HX3.out | with_reducible exact HC.out HX2.out | with_reducible exact HC.out (later_bk HX.out (bdrew _)) | with_reducible exact HC.out (later_bk HX.out (bAdrew _ _)) | with_reducible exact HC.out (later_bk HX.out (thenB (bdrew _) (al1 _ _))))
  (first
  | (go_at_call 88;refine (num_ret i.b K3.out (by omega) (by rw [L3.out];omega)).mono ?_;rintro e w4 ⟨u4,rfl,h4,b4,g4⟩;have K4:=hid h4;have B4:=hid (B3.out.trans b4);have HX4:=hid (HK.out K3.out g4 HX3.out);clear h4 g4 b4)
  | (go_at_call 88;refine (num_ret i.a K2.out (by omega) (by rw [L2.out];omega)).mono ?_;rintro e w3 ⟨u3,rfl,h3,b3,g3⟩;have K3:=hid h3;have B3:=hid (B2.out.trans b3);have HX3:=hid (HK.out K2.out g3 HX2.out);have L3:Hid ((l++[Fx.byteOf i.op]++Fx.numB i.a).length=l.length+9):=(by show _=_;simp [Fx.numB]);have hz3:=g3.size;clear h3 g3 b3)
  | (refine step_oneB rfl (.tmp 5) (.tmp 9) rfl B v l rfl (H1.out.later (bAdrew _ _)) i.op w1.heap.size rfl (by simp) (by omega) (by simp;omega) ?_;intro u2 w2 h2 g2 k2;have K2:=hid h2;have B2:=hid (HB1.out.trans (((bAdrew w1 _).mono hB1).trans (row_below (H1.out.later (bAdrew _ _)) g2 (by simp;omega))));have HX2:=hid (HK.out (H1.out.later (bAdrew _ _)) g2 (later_bk HX.out (bAdrew _ _)));have L2:Hid ((l++[Fx.byteOf i.op]).length=l.length+1):=(by show _=_;simp);have hz2:=g2.size;simp at hz2;clear h2 g2 k2))
 all_goals
  go_wp2_with fail
  go_returns
  exact ⟨u4,rfl,by have:=K4.out;simp only [List.append_assoc,List.singleton_append] at this;exact this,B4.out⟩
theorem appendFix_any (B:Nat) (v:Value) (l:List UInt8) (i:Gf) (w:World) (h:Fx.Row B w v l) (hB:B<=w.heap.size) (hl:l.length<=900000) :
 Calls Tryz.prog 92 #[v,.agg #[.int .i64 i.at_,.int .i64 i.kind,.int .i64 i.m]] w fun e w'=>∃ v',e = .returned v'/\(Fx.Row B w' v' (l++fixBy i)/\Below B w w'):=by
 have hbox:=heap_newP w (.cells #[.int .i64 i.at_,.int .i64 i.kind,.int .i64 i.m] 67);generalize hW:w.alloc (.cells #[.int .i64 i.at_,.int .i64 i.kind,.int .i64 i.m] 67)=w1 at *
 have hb1:Below w.heap.size w w1:=by rw [← hW];exact al1 _ _
 have H1:=hid (h.later hb1);have HX:=hid hbox;have HB1:=hid (hb1.mono hB);have hz1:=hb1.size
 have HK:Hid (∀ {W W':World} {u:Value} {k:List UInt8},Fx.Row B W u k->W.grownBy W' u.ownBlock->W.heap[w.heap.size]? = some (.cells #[.int .i64 i.at_,.int .i64 i.kind,.int .i64 i.m] 67)->W'.heap[w.heap.size]? = some (.cells #[.int .i64 i.at_,.int .i64 i.kind,.int .i64 i.m] 67)):=fun hr hg hx=>hr.keep hg (by decide) hx
 have HC:Hid (∀ {W:World},W.heap[w.heap.size]? = some (.cells #[.int .i64 i.at_,.int .i64 i.kind,.int .i64 i.m] 67)->W.cell? ⟨w.heap.size,0,none⟩=some (.int .i64 i.at_)/\W.cell? ⟨w.heap.size,1,none⟩=some (.int .i64 i.kind)/\W.cell? ⟨w.heap.size,2,none⟩=some (.int .i64 i.m)):=fun hx=>⟨(cellsOf3 hx).1,(cellsOf3 hx).2.1,(cellsOf3 hx).2.2.1⟩
 have hB1:B<=w1.heap.size:=by omega
 clear h hbox hb1;go_enter Tryz.func92,Tryz.ntmps92;go_upto_region 1 with fail
 try rw [hW]
 clear hW;have HXd:=hid (later_bk HX.out (bdrew w1));have H1d:=hid (H1.out.later (bdrew w1))
 go_region_held_law (fun W=>W.cell? ⟨w.heap.size,0,none⟩=some (.int .i64 i.at_)/\W.cell? ⟨w.heap.size,1,none⟩=some (.int .i64 i.kind)/\W.cell? ⟨w.heap.size,2,none⟩=some (.int .i64 i.m))
  (first | with_reducible exact HC.out HX4.out | with_reducible exact HC.out HX3.out | with_reducible exact HC.out HX2.out | with_reducible exact HC.out (heap_old HX2.out) | with_reducible exact HC.out HXd.out | with_reducible exact HC.out (later_bk HX.out (bAdrew _ _)) | with_reducible exact HC.out (heap_old HXd.out))
  (first
  | (go_at_call 88;refine (num_ret i.m K3.out (by omega) (by rw [L3.out];omega)).mono ?_;rintro e w4 ⟨u4,rfl,h4,b4,g4⟩;have K4:=hid h4;have B4:=hid (B3.out.trans b4);have HX4:=hid (HK.out K3.out g4 HX3.out);clear h4 g4 b4)
  | (go_at_call 88;refine (num_ret i.at_ H1d.out (by simp;omega) (by omega)).mono ?_;rintro e w2 ⟨u2,rfl,h2,b2,g2⟩;have K2:=hid h2;have B2:=hid (HB1.out.trans (((bdrew w1).mono hB1).trans b2));have HX2:=hid (HK.out H1d.out g2 HXd.out);have L2:Hid ((l++Fx.numB i.at_).length=l.length+8):=(by show _=_;simp [Fx.numB]);have hz2:=g2.size;simp at hz2;clear h2 g2 b2)
  | (go_at_call 88;refine (num_ret i.at_ (H1.out.later (bAdrew _ _)) (by simp;omega) (by omega)).mono ?_;rintro e w2 ⟨u2,rfl,h2,b2,g2⟩;have K2:=hid h2;have B2:=hid (HB1.out.trans (((bAdrew w1 _).mono hB1).trans b2));have HX2:=hid (HK.out (H1.out.later (bAdrew _ _)) g2 (later_bk HX.out (bAdrew _ _)));have HO2:=hid ((g2.block w1.heap.size (by simp) (fun e=>absurd (H1.out.lies _ e.symm).2 (Nat.lt_irrefl _))).trans (heap_newP w1 _));have L2:Hid ((l++Fx.numB i.at_).length=l.length+8):=(by show _=_;simp [Fx.numB]);have hz2:=g2.size;simp at hz2;clear h2 g2 b2)
  | (refine step_oneB rfl (.tmp 8) (.tmp 12) rfl B u2 (l++Fx.numB i.at_) rfl (K2.out.later (al1 _ _)) i.kind w2.heap.size rfl (by simp) (by rw [L2.out];omega) (by simp;omega) ?_;intro u3 w3 h3 g3 k3;have K3:=hid h3;have B3:=hid (B2.out.trans (((al1 w2 _).mono (by omega)).trans (row_below (K2.out.later (al1 _ _)) g3 (by simp;omega))));have HX3:=hid (HK.out (K2.out.later (al1 _ _)) g3 (heap_old HX2.out));have L3:Hid ((l++Fx.numB i.at_++[Fx.byteOf i.kind]).length=l.length+9):=(by show _=_;simp [Fx.numB]);have hz3:=g3.size;simp at hz3;clear h3 g3 k3)
  | (refine step_oneB rfl (.tmp 8) (.tmp 12) rfl B u2 (l++Fx.numB i.at_) rfl K2.out i.kind w1.heap.size rfl (by exact (Lib.cell_of_heap HO2.out 0).trans rfl) (by rw [L2.out];omega) (by omega) ?_;intro u3 w3 h3 g3 k3;have K3:=hid h3;have B3:=hid (B2.out.trans (row_below K2.out g3 (by omega)));have HX3:=hid (HK.out K2.out g3 HX2.out);have L3:Hid ((l++Fx.numB i.at_++[Fx.byteOf i.kind]).length=l.length+9):=(by show _=_;simp [Fx.numB]);have hz3:=g3.size;clear h3 g3 k3))
 all_goals
  go_wp2_with fail
  go_returns
  exact ⟨u4,rfl,by have:=K4.out;simp only [List.append_assoc,List.singleton_append] at this;exact this,B4.out⟩
end Go.Proofs.YtndkhgakfodldaaGreatDoor

namespace Go.Proofs.YtndkhgakfodldaaGreatDoor
set_option maxRecDepth 100000
set_option maxHeartbeats 1600000
open Go.RowKit Go.Shelf
set_option linter.unusedSimpArgs false
set_option linter.unusedVariables false
def listB {α:Type} (g:α->List UInt8) (l:List α):List UInt8:=Fx.numB l.length++l.flatMap g
theorem moves_below {B:Nat} {w w':World} (h:Below B w w') (hB:B<=w.heap.size):Moves w (·<B) w' (·<B):=⟨h.size,fun b _ hb=>⟨hb,h.block b hb⟩⟩
theorem flat_take {α:Type} (g:α->List UInt8) (l:List α) (j:Nat) (h:j<l.length):(l.take (j+1)).flatMap g=(l.take j).flatMap g++g l[j]:=by
 rw [List.take_succ_eq_append_getElem h,List.flatMap_append];simp
theorem flat_le {α:Type} (g:α->List UInt8) (c:Nat):∀ (l:List α),(∀ x ∈ l,(g x).length<=c)->(l.flatMap g).length<=c*l.length
 | [],_=>by simp
 | x :: r,h=>by
   have h1:=h x (List.mem_cons_self ..);have h2:=flat_le g c r (fun y hy=>h y (List.mem_cons_of_mem _ hy));rw [List.flatMap_cons,List.length_append,List.length_cons,Nat.mul_succ];omega
theorem numB_eight (n:Int):(Fx.numB n).length=8:=rfl
theorem textB_le {s:ByteArray} (h:s.size<=255):(Fx.textB s).length<=256:=by
 unfold Fx.textB;rw [List.length_cons,Lx.len_toList];omega
theorem textB_len (s:ByteArray):(Fx.textB s).length=s.size+1:=by unfold Fx.textB;rw [List.length_cons,Lx.len_toList]
theorem listB_le {α:Type} (g:α->List UInt8) (c:Nat) (l:List α) (h:∀ x ∈ l,(g x).length<=c):(listB g l).length<=8+c*l.length:=by
 unfold listB;rw [List.length_append,numB_eight];have:=flat_le g c l h;omega
theorem instrB_len (i:Gi):(instrB i).length=17:=rfl
theorem fixBy_len (i:Gf):(fixBy i).length=17:=rfl
theorem appendTexts_any (B:Nat) (v:Value) (l:List UInt8) (xs:List ByteArray) (a:Option Addr) (cap:Nat) (w:World) (h:Fx.Row B w v l) (hB:B<=w.heap.size) (hD:DAt w (·<B) a xs.length (strsD xs)) (hl:l.length+8+256*xs.length<=800000) (hs:∀ s ∈ xs,s.size<=255) :
 Calls Tryz.prog 87 #[v,.slice a xs.length cap,.func (.func 86) #[] #[]] w fun e w'=>∃ v',e = .returned v'/\(Fx.Row B w' v' (l++listB Fx.textB xs)/\Below B w w'):=by
 have hbd:=hD.bound;have HD:=hid hD
 have HG:Hid (∀ j,((xs.take j).flatMap Fx.textB).length<=256*xs.length):=fun j=>Nat.le_trans (flat_le Fx.textB 256 (xs.take j) (fun x hx=>textB_le (hs x (List.mem_of_mem_take hx)))) (Nat.mul_le_mul_left _ (by rw [List.length_take];omega))
 have HN:=hid (num_ret (xs.length:Int) h hB (by omega));clear h hD;go_enter Tryz.func87,Tryz.ntmps87;go_wp2_with fail;refine HN.out.mono ?_;rintro e w1 ⟨u1,rfl,h1,b1,_⟩;have H1:=hid h1;have B1:=hid b1;have hz1:=b1.size;clear h1 b1;go_wp2_with fail
 go_loopw [0,15] (fun u i wr=>∃ j:Nat,j<=xs.length/\i = .int .i64 j/\Fx.Row B wr u (l++(Fx.numB xs.length++(xs.take j).flatMap Fx.textB))/\Below B w wr) (fun _ i _=>xs.length - (intOf i).toNat)
 case atStart=>exact ⟨0,Nat.zero_le _,rfl,by rw [List.take_zero,List.flatMap_nil,List.append_nil];exact H1.out,B1.out⟩
 case round=>
  obtain ⟨j,hj,rfl,hr,hb⟩:=hrel;have HR:=hid hr;have HB:=hid hb;have hzr:=hb.size
  have HL:Hid ((l++(Fx.numB xs.length++(xs.take j).flatMap Fx.textB)).length<=800000):=by
   have:=HG.out j;show _<=_;rw [List.length_append,List.length_append,numB_eight];omega
  clear hr hb
  by_cases hlt:j<xs.length
  . obtain ⟨b,off,rfl,hbl,c0,hsz⟩:=(HD.out.moves (moves_below HB.out hB)).str j hlt
    have HS:Hid (l++(Fx.numB xs.length++(xs.take (j+1)).flatMap Fx.textB)=(l++(Fx.numB xs.length++(xs.take j).flatMap Fx.textB))++Fx.textB xs[j]):=by show _=_;rw [flat_take Fx.textB xs j hlt];simp only [List.append_assoc]
    have hx255:=hs xs[j] (List.getElem_mem hlt);generalize (l++(Fx.numB xs.length++(xs.take j).flatMap Fx.textB))=lj at *;generalize xs[j]=x at *;go_wp2_with fail;refine (text_ret x HR.out (by omega) (by have:=HL.out;omega) (by omega)).mono ?_;rintro e w2 ⟨u2,rfl,h2,b2⟩;have H2:=hid h2;have B2:=hid (HB.out.trans b2);clear h2 b2;go_wp2_with fail;go_roundw
    case rel=>exact ⟨j+1,by omega,by go_num,by rw [HS.out];exact H2.out,B2.out⟩
    case measure=>simp [intOf];omega
  . obtain rfl:j=xs.length:=by omega
    go_wp2_with fail
    go_returns
    refine ⟨_,rfl,?_,HB.out⟩;have:=HR.out;rw [List.take_length] at this;exact this
theorem appendInstrs_any (B:Nat) (v:Value) (l:List UInt8) (xs:List Gi) (a:Option Addr) (cap:Nat) (w:World) (h:Fx.Row B w v l) (hB:B<=w.heap.size) (hD:DAt w (·<B) a xs.length (gisD xs)) (hl:l.length+8+17*xs.length<=800000) :
 Calls Tryz.prog 89 #[v,.slice a xs.length cap,.func (.func 90) #[] #[]] w fun e w'=>∃ v',e = .returned v'/\(Fx.Row B w' v' (l++listB instrB xs)/\Below B w w'):=by
 have hbd:=hD.bound;have HD:=hid hD
 have HG:Hid (∀ j,((xs.take j).flatMap instrB).length<=17*xs.length):=fun j=>Nat.le_trans (flat_le instrB 17 (xs.take j) (fun x hx=>Nat.le_of_eq (instrB_len x))) (Nat.mul_le_mul_left _ (by rw [List.length_take];omega))
 have HN:=hid (num_ret (xs.length:Int) h hB (by omega));clear h hD;go_enter Tryz.func89,Tryz.ntmps89;go_wp2_with fail;refine HN.out.mono ?_;rintro e w1 ⟨u1,rfl,h1,b1,_⟩;have H1:=hid h1;have B1:=hid b1;have hz1:=b1.size;clear h1 b1;go_wp2_with fail
 go_loopw [0,15] (fun u i wr=>∃ j:Nat,j<=xs.length/\i = .int .i64 j/\Fx.Row B wr u (l++(Fx.numB xs.length++(xs.take j).flatMap instrB))/\Below B w wr) (fun _ i _=>xs.length - (intOf i).toNat)
 case atStart=>exact ⟨0,Nat.zero_le _,rfl,by rw [List.take_zero,List.flatMap_nil,List.append_nil];exact H1.out,B1.out⟩
 case round=>
  obtain ⟨j,hj,rfl,hr,hb⟩:=hrel;have HR:=hid hr;have HB:=hid hb;have hzr:=hb.size
  have HL:Hid ((l++(Fx.numB xs.length++(xs.take j).flatMap instrB)).length<=800000):=by
   have:=HG.out j;show _<=_;rw [List.length_append,List.length_append,numB_eight];omega
  clear hr hb
  by_cases hlt:j<xs.length
  . obtain ⟨b,off,rfl,hbl,c0,c1,c2,_,_,_⟩:=(HD.out.moves (moves_below HB.out hB)).gi j hlt
    have HS:Hid (l++(Fx.numB xs.length++(xs.take (j+1)).flatMap instrB)=(l++(Fx.numB xs.length++(xs.take j).flatMap instrB))++instrB xs[j]):=by show _=_;rw [flat_take instrB xs j hlt];simp only [List.append_assoc]
    skip
    generalize (l++(Fx.numB xs.length++(xs.take j).flatMap instrB))=lj at *;generalize xs[j]=x at *;go_wp2_with fail;refine (appendInstr_any B _ _ x _ (HR.out.later (al1 _ _)) (by simp;omega) (by have:=HL.out;omega)).mono ?_;rintro e w2 ⟨u2,rfl,h2,b2⟩;have H2:=hid h2;have B2:=hid (HB.out.trans (((al1 _ _).mono (by omega)).trans b2));clear h2 b2;go_wp2_with fail;go_roundw
    case rel=>exact ⟨j+1,by omega,by go_num,by rw [HS.out];exact H2.out,B2.out⟩
    case measure=>simp [intOf];omega
  . obtain rfl:j=xs.length:=by omega
    go_wp2_with fail
    go_returns
    refine ⟨_,rfl,?_,HB.out⟩;have:=HR.out;rw [List.take_length] at this;exact this
theorem appendFixes_any (B:Nat) (v:Value) (l:List UInt8) (xs:List Gf) (a:Option Addr) (cap:Nat) (w:World) (h:Fx.Row B w v l) (hB:B<=w.heap.size) (hD:DAt w (·<B) a xs.length (gfsD xs)) (hl:l.length+8+17*xs.length<=800000) :
 Calls Tryz.prog 91 #[v,.slice a xs.length cap,.func (.func 92) #[] #[]] w fun e w'=>∃ v',e = .returned v'/\(Fx.Row B w' v' (l++listB fixBy xs)/\Below B w w'):=by
 have hbd:=hD.bound;have HD:=hid hD
 have HG:Hid (∀ j,((xs.take j).flatMap fixBy).length<=17*xs.length):=fun j=>Nat.le_trans (flat_le fixBy 17 (xs.take j) (fun x hx=>Nat.le_of_eq (fixBy_len x))) (Nat.mul_le_mul_left _ (by rw [List.length_take];omega))
 have HN:=hid (num_ret (xs.length:Int) h hB (by omega));clear h hD;go_enter Tryz.func91,Tryz.ntmps91;go_wp2_with fail;refine HN.out.mono ?_;rintro e w1 ⟨u1,rfl,h1,b1,_⟩;have H1:=hid h1;have B1:=hid b1;have hz1:=b1.size;clear h1 b1;go_wp2_with fail
 go_loopw [0,15] (fun u i wr=>∃ j:Nat,j<=xs.length/\i = .int .i64 j/\Fx.Row B wr u (l++(Fx.numB xs.length++(xs.take j).flatMap fixBy))/\Below B w wr) (fun _ i _=>xs.length - (intOf i).toNat)
 case atStart=>exact ⟨0,Nat.zero_le _,rfl,by rw [List.take_zero,List.flatMap_nil,List.append_nil];exact H1.out,B1.out⟩
 case round=>
  obtain ⟨j,hj,rfl,hr,hb⟩:=hrel;have HR:=hid hr;have HB:=hid hb;have hzr:=hb.size
  have HL:Hid ((l++(Fx.numB xs.length++(xs.take j).flatMap fixBy)).length<=800000):=by
   have:=HG.out j;show _<=_;rw [List.length_append,List.length_append,numB_eight];omega
  clear hr hb
  by_cases hlt:j<xs.length
  . obtain ⟨b,off,rfl,hbl,c0,c1,c2,_,_,_⟩:=(HD.out.moves (moves_below HB.out hB)).gf j hlt
    have HS:Hid (l++(Fx.numB xs.length++(xs.take (j+1)).flatMap fixBy)=(l++(Fx.numB xs.length++(xs.take j).flatMap fixBy))++fixBy xs[j]):=by show _=_;rw [flat_take fixBy xs j hlt];simp only [List.append_assoc]
    skip
    generalize (l++(Fx.numB xs.length++(xs.take j).flatMap fixBy))=lj at *;generalize xs[j]=x at *;go_wp2_with fail;refine (appendFix_any B _ _ x _ (HR.out.later (al1 _ _)) (by simp;omega) (by have:=HL.out;omega)).mono ?_;rintro e w2 ⟨u2,rfl,h2,b2⟩;have H2:=hid h2;have B2:=hid (HB.out.trans (((al1 _ _).mono (by omega)).trans b2));clear h2 b2;go_wp2_with fail;go_roundw
    case rel=>exact ⟨j+1,by omega,by go_num,by rw [HS.out];exact H2.out,B2.out⟩
    case measure=>simp [intOf];omega
  . obtain rfl:j=xs.length:=by omega
    go_wp2_with fail
    go_returns
    refine ⟨_,rfl,?_,HB.out⟩;have:=HR.out;rw [List.take_length] at this;exact this
theorem appendNums_any (B:Nat) (v:Value) (l:List UInt8) (xs:List Int) (a:Option Addr) (cap:Nat) (w:World) (h:Fx.Row B w v l) (hB:B<=w.heap.size) (hD:DAt w (·<B) a xs.length (intD xs)) (hl:l.length+8+8*xs.length<=800000) :
 Calls Tryz.prog 93 #[v,.slice a xs.length cap,.func (.func 88) #[] #[]] w fun e w'=>∃ v',e = .returned v'/\(Fx.Row B w' v' (l++listB Fx.numB xs)/\Below B w w'):=by
 have hbd:=hD.bound;have HD:=hid hD
 have HG:Hid (∀ j,((xs.take j).flatMap Fx.numB).length<=8*xs.length):=fun j=>Nat.le_trans (flat_le Fx.numB 8 (xs.take j) (fun x hx=>Nat.le_of_eq (numB_eight x))) (Nat.mul_le_mul_left _ (by rw [List.length_take];omega))
 have HN:=hid (num_ret (xs.length:Int) h hB (by omega));clear h hD;go_enter Tryz.func93,Tryz.ntmps93;go_wp2_with fail;refine HN.out.mono ?_;rintro e w1 ⟨u1,rfl,h1,b1,_⟩;have H1:=hid h1;have B1:=hid b1;have hz1:=b1.size;clear h1 b1;go_wp2_with fail
 go_loopw [0,15] (fun u i wr=>∃ j:Nat,j<=xs.length/\i = .int .i64 j/\Fx.Row B wr u (l++(Fx.numB xs.length++(xs.take j).flatMap Fx.numB))/\Below B w wr) (fun _ i _=>xs.length - (intOf i).toNat)
 case atStart=>exact ⟨0,Nat.zero_le _,rfl,by rw [List.take_zero,List.flatMap_nil,List.append_nil];exact H1.out,B1.out⟩
 case round=>
  obtain ⟨j,hj,rfl,hr,hb⟩:=hrel;have HR:=hid hr;have HB:=hid hb;have hzr:=hb.size
  have HL:Hid ((l++(Fx.numB xs.length++(xs.take j).flatMap Fx.numB)).length<=800000):=by
   have:=HG.out j;show _<=_;rw [List.length_append,List.length_append,numB_eight];omega
  clear hr hb
  by_cases hlt:j<xs.length
  . obtain ⟨b,off,rfl,hbl,c0,_⟩:=(HD.out.moves (moves_below HB.out hB)).num j hlt
    have HS:Hid (l++(Fx.numB xs.length++(xs.take (j+1)).flatMap Fx.numB)=(l++(Fx.numB xs.length++(xs.take j).flatMap Fx.numB))++Fx.numB xs[j]):=by show _=_;rw [flat_take Fx.numB xs j hlt];simp only [List.append_assoc]
    skip
    generalize (l++(Fx.numB xs.length++(xs.take j).flatMap Fx.numB))=lj at *;generalize xs[j]=x at *;go_wp2_with fail;refine (num_ret x HR.out (by omega) (by have:=HL.out;omega)).mono ?_;rintro e w2 ⟨u2,rfl,h2,b2,_⟩;have H2:=hid h2;have B2:=hid (HB.out.trans b2);clear h2 b2;go_wp2_with fail;go_roundw
    case rel=>exact ⟨j+1,by omega,by go_num,by rw [HS.out];exact H2.out,B2.out⟩
    case measure=>simp [intOf];omega
  . obtain rfl:j=xs.length:=by omega
    go_wp2_with fail
    go_returns
    refine ⟨_,rfl,?_,HB.out⟩;have:=HR.out;rw [List.take_length] at this;exact this
end Go.Proofs.YtndkhgakfodldaaGreatDoor

namespace Go.Proofs.YtndkhgakfodldaaGreatDoor
set_option maxRecDepth 100000
set_option maxHeartbeats 3200000
open Go.RowKit Go.Maps Go.WideMaps
set_option linter.unusedSimpArgs false
set_option linter.unusedVariables false
theorem namesB_eq (o:Ob):namesB o=(Lx.nameB o.name.data.toList&&allTo o.uses.length (useAt o)):=rfl
theorem DVals.take {w:World} {lo:Nat->Prop}:∀ {l:List D} {cs:List Value},DVals w lo l cs->∀ j,DVals w lo (l.take j) (cs.take j)
 | [],cs,h,j=>by unfold DVals at h;subst h;simp only [List.take_nil];exact DVals.nil
 | d :: ds,cs,h,0=>by simp only [List.take_zero];exact DVals.nil
 | d :: ds,cs,h,j+1=>by
   unfold DVals at h;obtain ⟨v,r,rfl,h1,h2⟩:=h;exact DVals.cons h1 (DVals.take h2 j)
theorem strs_take {w:World} {A:Nat->Prop} {a:Option Addr} {l:List ByteArray} (h:DAt w A a l.length (strsD l)) (j:Nat):DAt w A a (l.take j).length (strsD (l.take j)):=by
 obtain ⟨h1,h2,h3⟩:=h
 have e:strsD (l.take j)=(strsD l).take j:=by simp [strsD,List.map_take]
 have hn:(strsD l).length=l.length:=by simp [strsD]
 refine ⟨by rw [e,List.length_take,List.length_take,hn];exact Nat.le_refl _,by rw [e,List.length_take];omega,?_⟩
 rcases h3 with h4 | ⟨b,off,cs,ha,hl,hb,hc,hx⟩
 . exact Or.inl (by rw [List.length_take];omega)
 . exact Or.inr ⟨b,off,cs.take j,ha,hl,hb,fun k u hk=>hc k u (by rw [List.getElem?_take] at hk;split at hk;exact hk;cases hk),by rw [e];exact hx.take j⟩
theorem namesHold_any (o:Ob) (x1:Option Addr) (y1:Nat) (x3:Option Addr) (y3:Nat) (x4:Option Addr) (y4:Nat) (x5:Option Addr) (y5:Nat) (w:World) (hO:OvAt w o x1 x3 x4 x5) (h3:o.uses.length<=3) (hcp:o.uses.length<=y1) :
 Calls Tryz.prog 82 #[.agg #[.string o.name,.slice x1 o.uses.length y1,.int .i64 o.data,.slice x3 o.code.length y3,.slice x4 o.fixes.length y4,.slice x5 o.entries.length y5,.int .i64 o.main]] w fun e w'=>e = .returned (.bool (namesB o))/\Below w.heap.size w w':=by
 have HO:=hid hO;have HN:=hid (oName_any o.name (w.alloc (.cells #[.string o.name,.slice x1 o.uses.length y1,.int .i64 o.data,.slice x3 o.code.length y3,.slice x4 o.fixes.length y4,.slice x5 o.entries.length y5,.int .i64 o.main] 62)) hO.wn);clear hO;go_enter Tryz.func82,Tryz.ntmps82;go_wp2_with fail;refine HN.out.mono ?_;rintro e w1 ⟨rfl,hb1⟩;have HB1:=hid (thenB (al1 w _) hb1);have HX1:=hid ((hb1.block _ (by simp)).trans (heap_newP w (.cells #[.string o.name,.slice x1 o.uses.length y1,.int .i64 o.data,.slice x3 o.code.length y3,.slice x4 o.fixes.length y4,.slice x5 o.entries.length y5,.int .i64 o.main] 62)));clear hb1
 cases hn:Lx.nameB o.name.data.toList with
 | false=>
   have HR:Hid (namesB o=false):=by show _=_;rw [namesB_eq,hn];rfl
   go_wp2_with fail;go_ret;exact ⟨ret_bool (by first | exact HR.out.symm | (rw [HR.out]<;>first | (simp;omega) | (simp [*];done))),HB1.out⟩
 | true=>
 have HC:Hid (namesB o=allTo o.uses.length (useAt o)):=by show _=_;rw [namesB_eq,hn];rfl
 clear hn;obtain ⟨q0,q1,q2,q3,q4,q5,q6,_⟩:=cells7 HX1.out;have qz:=lt_of_heap HX1.out;go_wp2_with fail
 go_loopw [12] (fun i wr=>∃ j:Nat,j<=o.uses.length/\i = .int .i64 j/\(∀ k,k<j->useAt o k=true)/\Below w.heap.size w wr/\wr.heap[w.heap.size]? = some (.cells #[.string o.name,.slice x1 o.uses.length y1,.int .i64 o.data,.slice x3 o.code.length y3,.slice x4 o.fixes.length y4,.slice x5 o.entries.length y5,.int .i64 o.main] 62)) (fun i _=>o.uses.length - (intOf i).toNat)
 case atStart=>exact ⟨0,Nat.zero_le _,rfl,fun k hk=>absurd hk (Nat.not_lt_zero k),HB1.out,HX1.out⟩
 case round=>
  clear q0 q1 q2 q3 q4 q5 q6 qz;obtain ⟨j,hj,rfl,hall,hb,hB⟩:=hrel;obtain ⟨q0,q1,q2,q3,q4,q5,q6,_⟩:=cells7 hB;have qz:=lt_of_heap hB;have HB:=hid hb;have HX:=hid hB;have HL:=hid hall;clear hall hB hb
  by_cases hlt:j<o.uses.length
  . obtain ⟨b,off,rfl,hbl,p0,hw⟩:=(HO.out.later HB.out).uses.str j hlt
    have HE:Hid (useAt o j=(Lx.nameB o.uses[j].data.toList&&(!decide (o.uses[j]=o.name) && !Go.Lib.containsS (o.uses.take j) o.uses[j]))):=by show _=_;unfold useAt;rw [List.getElem?_eq_getElem hlt]
    have HF:=hid (fun (h:useAt o j=false)=>(by rw [HC.out,allTo_false hlt h]:namesB o=false));have HT:=hid (fun (h:useAt o j=true)=>upto_succ HL.out (h));have HU:=hid (fun (W:World) (hW:Below wr.heap.size wr W) (y:Nat)=>(by have h:=containsU_any (o.uses.take j) o.uses[j] (some ⟨b,off,none⟩) y W (strs_take ((HO.out.later HB.out).later hW).uses j);rw [List.length_take,Nat.min_eq_left hj] at h;exact h:Calls Tryz.prog 76 #[.slice (some ⟨b,off,none⟩) j y,.string o.uses[j]] W fun e w'=>e = .returned (.bool (Go.Lib.containsS (o.uses.take j) o.uses[j]))/\w'=W))
    have hjc:j<=y1:=by omega
    generalize o.uses[j]=x at *;go_wp2_with fail;refine (oName_any x _ hw).mono ?_;rintro e w1 ⟨rfl,hb1⟩;have HB1:=hid (thenB HB.out hb1);have HX1:=hid ((hb1.block _ qz).trans HX.out);have HV:=hid (HU.out w1 hb1);clear q0 q1 q2 q3 q4 q5 q6 qz hb1 p0 hbl;obtain ⟨q0,q1,q2,q3,q4,q5,q6,_⟩:=cells7 HX1.out;have qz:=lt_of_heap HX1.out
    cases hn:Lx.nameB x.data.toList with
    | false=>
      have HR:=hid (HF.out (by rw [HE.out,hn];rfl));go_wp2_with fail;go_ret;exact ⟨ret_bool (by first | exact HR.out.symm | (rw [HR.out]<;>first | (simp;omega) | (simp [*];done))),HB1.out⟩
    | true=>
      by_cases hx:x=o.name
      . have HR:=hid (HF.out (by rw [HE.out,hn,decide_eq_true hx];rfl))
        have hx':(x.toList == o.name.toList)=true:=(str_beq _ _).trans (decide_eq_true hx);clear hx;go_wp2_with fail;go_ret;exact ⟨ret_bool (by first | exact HR.out.symm | (rw [HR.out]<;>first | (simp;omega) | (simp [*];done))),HB1.out⟩
      . have hx':(x.toList == o.name.toList)=false:=(str_beq _ _).trans (decide_eq_false hx)
        have HE':Hid (useAt o j = !Go.Lib.containsS (o.uses.take j) x):=by show _=_;rw [HE.out,hn,decide_eq_false hx];simp
        clear hx;go_wp2_with fail;refine (HV.out _).mono ?_;rintro e w2 ⟨rfl,rfl⟩
        cases hc:Go.Lib.containsS (o.uses.take j) x with
        | true=>
          have HR:=hid (HF.out (by rw [HE'.out,hc];rfl));go_wp2_with fail;go_ret;exact ⟨ret_bool (by first | exact HR.out.symm | (rw [HR.out]<;>first | (simp;omega) | (simp [*];done))),HB1.out⟩
        | false=>
          have HT':=hid (HT.out (by rw [HE'.out,hc];rfl));go_wp2_with fail;go_roundw
          case rel=>exact ⟨j+1,by omega,by go_num,HT'.out,HB1.out,HX1.out⟩
          case measure=>simp [intOf];omega
  . obtain rfl:j=o.uses.length:=by omega
    have HR:Hid (namesB o=true):=by show _=_;rw [HC.out,allTo_true.2 HL.out]
    go_wp2_with fail;go_ret;exact ⟨ret_bool (by first | exact HR.out.symm | (rw [HR.out]<;>first | (simp;omega) | (simp [*];done))),HB.out⟩
end Go.Proofs.YtndkhgakfodldaaGreatDoor

namespace Go.Proofs.YtndkhgakfodldaaGreatDoor
set_option maxRecDepth 100000
set_option maxHeartbeats 3200000
open Go.RowKit Go.Maps Go.WideMaps
set_option linter.unusedSimpArgs false
set_option linter.unusedVariables false
theorem fixH1 (o:Ob) (x1:Option Addr) (y1:Nat) (x3:Option Addr) (y3:Nat) (x4:Option Addr) (y4:Nat) (x5:Option Addr) (y5:Nat) (j:Nat) (m:Int) (w:World) (hj:j<o.code.length) (hC:DAt w Tt x3 o.code.length (gisD o.code)) (hu:o.uses.length<=17592186044416) :
 Calls Tryz.prog 133 #[.agg #[.string o.name,.slice x1 o.uses.length y1,.int .i64 o.data,.slice x3 o.code.length y3,.slice x4 o.fixes.length y4,.slice x5 o.entries.length y5,.int .i64 o.main],.agg #[.int .i64 (j:Int),.int .i64 1,.int .i64 m]] w fun e w'=>e = .returned (.bool (okF o.code[j].a (o.code.length:Int) m 0))/\Below w.heap.size w w':=by
 have hbd:=hC.bound;obtain ⟨b,off,rfl,hx⟩:=hC.gi j hj;obtain ⟨hbl,_,z1,_,_,_,_⟩:=hx;generalize o.code[j].a=a at *;clear hC
 by_cases t0:0<=a
 case neg=>
  have HR:Hid (okF a (o.code.length:Int) m 0=false):=by show _=_;simp [okF,t0]
  have n0:a<0:=by omega
  clear t0;go_enter Tryz.func133,Tryz.ntmps133;go_wp2_with fail
  go_region
  go_wp2_with fail;go_ret;exact ⟨ret_bool (by first | exact HR.out.symm | (rw [HR.out]<;>first | (simp;omega) | (simp [*];done))),(by first | exact bl2 _ _ _ | exact (bl2 _ _ _).drew | exact thenB (bAdrew _ _) (al1 _ _) | exact thenB (al1 _ _) (bAdrew _ _))⟩
 by_cases t1:a<=(o.code.length:Int)
 case neg=>
  have HR:Hid (okF a (o.code.length:Int) m 0=false):=by show _=_;simp [okF,t1]
  have n1:(o.code.length:Int)<a:=by omega
  clear t1;go_enter Tryz.func133,Tryz.ntmps133;go_wp2_with fail
  go_region
  go_wp2_with fail;go_ret;exact ⟨ret_bool (by first | exact HR.out.symm | (rw [HR.out]<;>first | (simp;omega) | (simp [*];done))),(by first | exact bl2 _ _ _ | exact (bl2 _ _ _).drew | exact thenB (bAdrew _ _) (al1 _ _) | exact thenB (al1 _ _) (bAdrew _ _))⟩
 by_cases t2:0<=m
 case neg=>
  have HR:Hid (okF a (o.code.length:Int) m 0=false):=by show _=_;simp [okF,t2]
  have n2:m<0:=by omega
  clear t2;go_enter Tryz.func133,Tryz.ntmps133;go_wp2_with fail
  go_region
  go_wp2_with fail;go_ret;exact ⟨ret_bool (by first | exact HR.out.symm | (rw [HR.out]<;>first | (simp;omega) | (simp [*];done))),(by first | exact bl2 _ _ _ | exact (bl2 _ _ _).drew | exact thenB (bAdrew _ _) (al1 _ _) | exact thenB (al1 _ _) (bAdrew _ _))⟩
 have HR:Hid (okF a (o.code.length:Int) m 0=decide (m<=0)):=by show _=_;simp [okF,t0,t1,t2]
 go_enter Tryz.func133,Tryz.ntmps133;go_wp2_with fail
 go_region
 go_wp2_with fail;go_ret;exact ⟨ret_bool (by first | exact HR.out.symm | (rw [HR.out]<;>first | (simp;omega) | (simp [*];done))),(by first | exact bl2 _ _ _ | exact (bl2 _ _ _).drew | exact thenB (bAdrew _ _) (al1 _ _) | exact thenB (al1 _ _) (bAdrew _ _))⟩
theorem fixH2 (o:Ob) (x1:Option Addr) (y1:Nat) (x3:Option Addr) (y3:Nat) (x4:Option Addr) (y4:Nat) (x5:Option Addr) (y5:Nat) (j:Nat) (m:Int) (w:World) (hj:j<o.code.length) (hC:DAt w Tt x3 o.code.length (gisD o.code)) (hu:o.uses.length<=17592186044416) :
 Calls Tryz.prog 133 #[.agg #[.string o.name,.slice x1 o.uses.length y1,.int .i64 o.data,.slice x3 o.code.length y3,.slice x4 o.fixes.length y4,.slice x5 o.entries.length y5,.int .i64 o.main],.agg #[.int .i64 (j:Int),.int .i64 2,.int .i64 m]] w fun e w'=>e = .returned (.bool (okF o.code[j].a 2048 m (o.uses.length:Int)))/\Below w.heap.size w w':=by
 have hbd:=hC.bound;obtain ⟨b,off,rfl,hx⟩:=hC.gi j hj;obtain ⟨hbl,_,z1,_,_,_,_⟩:=hx;generalize o.code[j].a=a at *;clear hC
 by_cases t0:0<=a
 case neg=>
  have HR:Hid (okF a 2048 m (o.uses.length:Int)=false):=by show _=_;simp [okF,t0]
  have n0:a<0:=by omega
  clear t0;go_enter Tryz.func133,Tryz.ntmps133;go_wp2_with fail
  go_region
  go_wp2_with fail;go_ret;exact ⟨ret_bool (by first | exact HR.out.symm | (rw [HR.out]<;>first | (simp;omega) | (simp [*];done))),(by first | exact bl2 _ _ _ | exact (bl2 _ _ _).drew | exact thenB (bAdrew _ _) (al1 _ _) | exact thenB (al1 _ _) (bAdrew _ _))⟩
 by_cases t1:a<=2048
 case neg=>
  have HR:Hid (okF a 2048 m (o.uses.length:Int)=false):=by show _=_;simp [okF,t1]
  have n1:2048<a:=by omega
  clear t1;go_enter Tryz.func133,Tryz.ntmps133;go_wp2_with fail
  go_region
  go_wp2_with fail;go_ret;exact ⟨ret_bool (by first | exact HR.out.symm | (rw [HR.out]<;>first | (simp;omega) | (simp [*];done))),(by first | exact bl2 _ _ _ | exact (bl2 _ _ _).drew | exact thenB (bAdrew _ _) (al1 _ _) | exact thenB (al1 _ _) (bAdrew _ _))⟩
 by_cases t2:0<=m
 case neg=>
  have HR:Hid (okF a 2048 m (o.uses.length:Int)=false):=by show _=_;simp [okF,t2]
  have n2:m<0:=by omega
  clear t2;go_enter Tryz.func133,Tryz.ntmps133;go_wp2_with fail
  go_region
  go_wp2_with fail;go_ret;exact ⟨ret_bool (by first | exact HR.out.symm | (rw [HR.out]<;>first | (simp;omega) | (simp [*];done))),(by first | exact bl2 _ _ _ | exact (bl2 _ _ _).drew | exact thenB (bAdrew _ _) (al1 _ _) | exact thenB (al1 _ _) (bAdrew _ _))⟩
 have HR:Hid (okF a 2048 m (o.uses.length:Int)=decide (m<=(o.uses.length:Int))):=by show _=_;simp [okF,t0,t1,t2]
 go_enter Tryz.func133,Tryz.ntmps133;go_wp2_with fail
 go_region
 go_wp2_with fail;go_ret;exact ⟨ret_bool (by first | exact HR.out.symm | (rw [HR.out]<;>first | (simp;omega) | (simp [*];done))),(by first | exact bl2 _ _ _ | exact (bl2 _ _ _).drew | exact thenB (bAdrew _ _) (al1 _ _) | exact thenB (al1 _ _) (bAdrew _ _))⟩
theorem fixH3 (o:Ob) (x1:Option Addr) (y1:Nat) (x3:Option Addr) (y3:Nat) (x4:Option Addr) (y4:Nat) (x5:Option Addr) (y5:Nat) (j:Nat) (m:Int) (w:World) (hj:j<o.code.length) (hC:DAt w Tt x3 o.code.length (gisD o.code)) (hu:o.uses.length<=17592186044416) :
 Calls Tryz.prog 133 #[.agg #[.string o.name,.slice x1 o.uses.length y1,.int .i64 o.data,.slice x3 o.code.length y3,.slice x4 o.fixes.length y4,.slice x5 o.entries.length y5,.int .i64 o.main],.agg #[.int .i64 (j:Int),.int .i64 3,.int .i64 m]] w fun e w'=>e = .returned (.bool (okF o.code[j].a 2048 m (o.uses.length:Int)))/\Below w.heap.size w w':=by
 have hbd:=hC.bound;obtain ⟨b,off,rfl,hx⟩:=hC.gi j hj;obtain ⟨hbl,_,z1,_,_,_,_⟩:=hx;generalize o.code[j].a=a at *;clear hC
 by_cases t0:0<=a
 case neg=>
  have HR:Hid (okF a 2048 m (o.uses.length:Int)=false):=by show _=_;simp [okF,t0]
  have n0:a<0:=by omega
  clear t0;go_enter Tryz.func133,Tryz.ntmps133;go_wp2_with fail
  go_region
  go_wp2_with fail;go_ret;exact ⟨ret_bool (by first | exact HR.out.symm | (rw [HR.out]<;>first | (simp;omega) | (simp [*];done))),(by first | exact bl2 _ _ _ | exact (bl2 _ _ _).drew | exact thenB (bAdrew _ _) (al1 _ _) | exact thenB (al1 _ _) (bAdrew _ _))⟩
 by_cases t1:a<=2048
 case neg=>
  have HR:Hid (okF a 2048 m (o.uses.length:Int)=false):=by show _=_;simp [okF,t1]
  have n1:2048<a:=by omega
  clear t1;go_enter Tryz.func133,Tryz.ntmps133;go_wp2_with fail
  go_region
  go_wp2_with fail;go_ret;exact ⟨ret_bool (by first | exact HR.out.symm | (rw [HR.out]<;>first | (simp;omega) | (simp [*];done))),(by first | exact bl2 _ _ _ | exact (bl2 _ _ _).drew | exact thenB (bAdrew _ _) (al1 _ _) | exact thenB (al1 _ _) (bAdrew _ _))⟩
 by_cases t2:0<=m
 case neg=>
  have HR:Hid (okF a 2048 m (o.uses.length:Int)=false):=by show _=_;simp [okF,t2]
  have n2:m<0:=by omega
  clear t2;go_enter Tryz.func133,Tryz.ntmps133;go_wp2_with fail
  go_region
  go_wp2_with fail;go_ret;exact ⟨ret_bool (by first | exact HR.out.symm | (rw [HR.out]<;>first | (simp;omega) | (simp [*];done))),(by first | exact bl2 _ _ _ | exact (bl2 _ _ _).drew | exact thenB (bAdrew _ _) (al1 _ _) | exact thenB (al1 _ _) (bAdrew _ _))⟩
 have HR:Hid (okF a 2048 m (o.uses.length:Int)=decide (m<=(o.uses.length:Int))):=by show _=_;simp [okF,t0,t1,t2]
 go_enter Tryz.func133,Tryz.ntmps133;go_wp2_with fail
 go_region
 go_wp2_with fail;go_ret;exact ⟨ret_bool (by first | exact HR.out.symm | (rw [HR.out]<;>first | (simp;omega) | (simp [*];done))),(by first | exact bl2 _ _ _ | exact (bl2 _ _ _).drew | exact thenB (bAdrew _ _) (al1 _ _) | exact thenB (al1 _ _) (bAdrew _ _))⟩
theorem fixH0 (o:Ob) (x1:Option Addr) (y1:Nat) (x3:Option Addr) (y3:Nat) (x4:Option Addr) (y4:Nat) (x5:Option Addr) (y5:Nat) (at_ kind m:Int) (w:World) (h1:kind≠1) (h2:kind≠2) (h3:kind≠3) (hu:o.uses.length<=17592186044416) :
 Calls Tryz.prog 133 #[.agg #[.string o.name,.slice x1 o.uses.length y1,.int .i64 o.data,.slice x3 o.code.length y3,.slice x4 o.fixes.length y4,.slice x5 o.entries.length y5,.int .i64 o.main],.agg #[.int .i64 at_,.int .i64 kind,.int .i64 m]] w fun e w'=>e = .returned (.bool false)/\Below w.heap.size w w':=by
 go_enter Tryz.func133,Tryz.ntmps133;go_wp2_with fail
 go_region
 go_wp2_with fail;go_ret;exact ⟨rfl,(by first | exact bl2 _ _ _ | exact (bl2 _ _ _).drew | exact thenB (bAdrew _ _) (al1 _ _) | exact thenB (al1 _ _) (bAdrew _ _))⟩
theorem fixHolds_any (o:Ob) (x1:Option Addr) (y1:Nat) (x3:Option Addr) (y3:Nat) (x4:Option Addr) (y4:Nat) (x5:Option Addr) (y5:Nat) (f:Gf) (w:World) (hp:placeB o f.at_=true) (hC:DAt w Tt x3 o.code.length (gisD o.code)) (hu:o.uses.length<=17592186044416) :
 Calls Tryz.prog 133 #[.agg #[.string o.name,.slice x1 o.uses.length y1,.int .i64 o.data,.slice x3 o.code.length y3,.slice x4 o.fixes.length y4,.slice x5 o.entries.length y5,.int .i64 o.main],.agg #[.int .i64 f.at_,.int .i64 f.kind,.int .i64 f.m]] w fun e w'=>e = .returned (.bool (fixB o f))/\Below w.heap.size w w':=by
 obtain ⟨at_,kind,m⟩:=f;have hp':=of_decide_eq_true hp;simp only at hp'
 obtain ⟨j,rfl⟩:∃ j:Nat,at_=j:=⟨at_.toNat,by omega⟩
 have hj:j<o.code.length:=by omega
 have ha:aAt o (j:Int)=o.code[j].a:=by unfold aAt;rw [Int.toNat_natCast,List.getElem?_eq_getElem hj]
 unfold fixB;simp only [ha]
 by_cases e1:kind=1
 . subst e1;exact fixH1 o x1 y1 x3 y3 x4 y4 x5 y5 j m w hj hC hu
 by_cases e2:kind=2
 . subst e2;exact fixH2 o x1 y1 x3 y3 x4 y4 x5 y5 j m w hj hC hu
 by_cases e3:kind=3
 . subst e3;exact fixH3 o x1 y1 x3 y3 x4 y4 x5 y5 j m w hj hC hu
 . rw [if_neg e1,if_neg (by omega)]
   exact fixH0 o x1 y1 x3 y3 x4 y4 x5 y5 j kind m w e1 e2 e3 hu
end Go.Proofs.YtndkhgakfodldaaGreatDoor

namespace Go.Proofs.YtndkhgakfodldaaGreatDoor
set_option maxRecDepth 100000
set_option maxHeartbeats 3200000
open Go.RowKit Go.Maps Go.WideMaps
set_option linter.unusedSimpArgs false
set_option linter.unusedVariables false
theorem fixesB_eq (o:Ob):fixesB o=allTo o.fixes.length (fixAt o):=rfl
theorem fixesHold_any (o:Ob) (x1:Option Addr) (y1:Nat) (x3:Option Addr) (y3:Nat) (x4:Option Addr) (y4:Nat) (x5:Option Addr) (y5:Nat) (w:World) (hO:OvAt w o x1 x3 x4 x5) :
 Calls Tryz.prog 84 #[.agg #[.string o.name,.slice x1 o.uses.length y1,.int .i64 o.data,.slice x3 o.code.length y3,.slice x4 o.fixes.length y4,.slice x5 o.entries.length y5,.int .i64 o.main]] w fun e w'=>e = .returned (.bool (fixesB o))/\Below w.heap.size w w':=by
 have hb4:=hO.fixes.bound;have HO:=hid hO;have HP:=hid (fun (x:Int) (W:World)=>oPlace_any o o.name x1 o.uses.length y1 o.data x3 y3 x4 o.fixes.length y4 x5 o.entries.length y5 o.main x W hO.code.bound);have HH:=hid (fun (f:Gf) (W:World) (hW:Below w.heap.size w W) (hp:placeB o f.at_=true)=>fixHolds_any o x1 y1 x3 y3 x4 y4 x5 y5 f W hp (hO.code.later hW) hO.uses.bound);clear hO;go_enter Tryz.func84,Tryz.ntmps84;go_wp2_with fail
 go_loopw [3,9] (fun v i wr=>∃ j:Nat,j<=o.fixes.length/\i = .int .i64 j/\v = .int .i64 (lastAt o j)/\(∀ k,k<j->fixAt o k=true)/\Below w.heap.size w wr/\wr.heap[w.heap.size]? = some (.cells #[.string o.name,.slice x1 o.uses.length y1,.int .i64 o.data,.slice x3 o.code.length y3,.slice x4 o.fixes.length y4,.slice x5 o.entries.length y5,.int .i64 o.main] 62)) (fun _ i _=>o.fixes.length - (intOf i).toNat)
 case atStart=>exact ⟨0,Nat.zero_le _,rfl,rfl,fun k hk=>absurd hk (Nat.not_lt_zero k),al1 _ _,heap_newP w (.cells #[.string o.name,.slice x1 o.uses.length y1,.int .i64 o.data,.slice x3 o.code.length y3,.slice x4 o.fixes.length y4,.slice x5 o.entries.length y5,.int .i64 o.main] 62)⟩
 case round=>
  obtain ⟨j,hj,rfl,rfl,hall,hb,hB⟩:=hrel;obtain ⟨q0,q1,q2,q3,q4,q5,q6,_⟩:=cells7 hB;have qz:=lt_of_heap hB;have HB:=hid hb;have HX:=hid hB;have HL:=hid hall;clear hall hB hb
  by_cases hlt:j<o.fixes.length
  . obtain ⟨b,off,rfl,hx⟩:=(HO.out.later HB.out).fixes.gf j hlt
    have HE:Hid (fixAt o j=(decide (lastAt o j<o.fixes[j].at_)&&(placeB o o.fixes[j].at_&&fixB o o.fixes[j]))):=by show _=_;unfold fixAt;rw [List.getElem?_eq_getElem hlt]
    have HS:Hid (lastAt o (j+1)=o.fixes[j].at_):=by show (match o.fixes[j]? with | some f=>f.at_ | none=>-1)=_;rw [List.getElem?_eq_getElem hlt]
    have HF:=hid (fun (h:fixAt o j=false)=>(by rw [fixesB_eq,allTo_false hlt h]:fixesB o=false));have HT:=hid (fun (h:fixAt o j=true)=>upto_succ HL.out (h));obtain ⟨hbl,p0,p1,p2,_,_,_⟩:=hx;generalize o.fixes[j]=f at *;generalize lastAt o j=la at *
    by_cases t1:la<f.at_
    . have HX2:=hid (heap_old (o:=.cells #[.int .i64 f.at_,.int .i64 f.kind,.int .i64 f.m] 67) HX.out)
      have HY2:=hid (heap_newP wr (.cells #[.int .i64 f.at_,.int .i64 f.kind,.int .i64 f.m] 67));have HB2:=hid (thenB HB.out (al1 wr (.cells #[.int .i64 f.at_,.int .i64 f.kind,.int .i64 f.m] 67)))
      have hz2:wr.heap.size<(wr.alloc (.cells #[.int .i64 f.at_,.int .i64 f.kind,.int .i64 f.m] 67)).heap.size:=by simp
      have hz1:w.heap.size<(wr.alloc (.cells #[.int .i64 f.at_,.int .i64 f.kind,.int .i64 f.m] 67)).heap.size:=by simp;omega
      have HZ1:=hid hz1;have HZ2:=hid hz2;clear hz1 hz2;go_wp2_with fail;refine (HP.out f.at_ _).mono ?_;rintro e w1 ⟨rfl,hb1⟩;have HB1:=hid (thenB HB2.out hb1);have HX1:=hid ((hb1.block _ HZ1.out).trans HX2.out);have HY1:=hid ((hb1.block _ HZ2.out).trans HY2.out);clear q0 q1 q2 q3 q4 q5 q6 qz hb1 p0 p1 p2 hbl;obtain ⟨q0,q1,q2,q3,q4,q5,q6,_⟩:=cells7 HX1.out;have qz:=lt_of_heap HX1.out;obtain ⟨p0,p1,p2,_⟩:=cellsOf3 HY1.out;have pz:=lt_of_heap HY1.out
      cases hp:placeB o f.at_ with
      | false=>
        have HR:=hid (HF.out (by rw [HE.out,hp];simp));go_wp2_with fail;go_ret;exact ⟨ret_bool (by first | exact HR.out.symm | (rw [HR.out]<;>first | (simp;omega) | (simp [*];done))),HB1.out⟩
      | true=>
        have HC:=hid (HH.out f w1 HB1.out hp);go_wp2_with fail;refine HC.out.mono ?_;rintro e w2 ⟨rfl,hb2⟩;have HB3:=hid (thenB HB1.out hb2);have HX3:=hid ((hb2.block _ qz).trans HX1.out);have HY3:=hid ((hb2.block _ pz).trans HY1.out);clear q0 q1 q2 q3 q4 q5 q6 qz p0 p1 p2 pz hb2;obtain ⟨p0,p1,p2,_⟩:=cellsOf3 HY3.out;have pz:=lt_of_heap HY3.out
        cases hf:fixB o f with
        | false=>
          have HR:=hid (HF.out (by rw [HE.out,hf];simp));go_wp2_with fail;go_ret;exact ⟨ret_bool (by first | exact HR.out.symm | (rw [HR.out]<;>first | (simp;omega) | (simp [*];done))),HB3.out⟩
        | true=>
          have HT':=hid (HT.out (by rw [HE.out,hf,hp,decide_eq_true t1];rfl));go_wp2_with fail;go_roundw
          case rel=>exact ⟨j+1,by omega,by go_num,by rw [HS.out],HT'.out,HB3.out,HX3.out⟩
          case measure=>simp [intOf];omega
    . have HR:=hid (HF.out (by rw [HE.out,decide_eq_false t1];rfl))
      have t1':f.at_<=la:=by omega
      clear t1;go_wp2_with fail;go_ret;exact ⟨ret_bool (by first | exact HR.out.symm | (rw [HR.out]<;>first | (simp;omega) | (simp [*];done))),thenB HB.out (al1 _ _)⟩
  . obtain rfl:j=o.fixes.length:=by omega
    have HR:Hid (fixesB o=true):=by show _=_;rw [fixesB_eq,allTo_true.2 HL.out]
    go_wp2_with fail;go_ret;exact ⟨ret_bool (by first | exact HR.out.symm | (rw [HR.out]<;>first | (simp;omega) | (simp [*];done))),HB.out⟩
end Go.Proofs.YtndkhgakfodldaaGreatDoor

namespace Go.Proofs.YtndkhgakfodldaaGreatDoor
set_option maxRecDepth 100000
set_option maxHeartbeats 1600000
open Go.RowKit Go.Maps Go.WideMaps
set_option linter.unusedSimpArgs false
set_option linter.unusedVariables false
theorem objCheck_any (o:Ob) (x1:Option Addr) (y1:Nat) (x3:Option Addr) (y3:Nat) (x4:Option Addr) (y4:Nat) (x5:Option Addr) (y5:Nat) (w:World) (hO:OvAt w o x1 x3 x4 x5) (hcp:o.uses.length<=y1) :
 Calls Tryz.prog 32 #[.agg #[.string o.name,.slice x1 o.uses.length y1,.int .i64 o.data,.slice x3 o.code.length y3,.slice x4 o.fixes.length y4,.slice x5 o.entries.length y5,.int .i64 o.main]] w fun e w'=>e = .returned (.int .i64 (oChk o))/\Below w.heap.size w w':=by
 have HQ:Hid (oChk o=if oMany o=true then 2 else if (namesB o&&(codeB o&&fixesB o))=true then 0 else 1):=rfl;have HM:=hid (oMany_any o o.name x1 y1 o.data x3 y3 x4 o.fixes.length y4 x5 y5 o.main (w.alloc (.cells #[.string o.name,.slice x1 o.uses.length y1,.int .i64 o.data,.slice x3 o.code.length y3,.slice x4 o.fixes.length y4,.slice x5 o.entries.length y5,.int .i64 o.main] 62)) hO.uses.bound hO.code.bound hO.entries.bound);have HN:=hid (fun (W:World) (hW:Below w.heap.size w W) (h3:o.uses.length<=3)=>namesHold_any o x1 y1 x3 y3 x4 y4 x5 y5 W (hO.later hW) h3 hcp);have HC:=hid (fun (W:World) (hW:Below w.heap.size w W)=>codeHolds_any o x1 y1 x3 y3 x4 y4 x5 y5 W (hO.later hW));have HF:=hid (fun (W:World) (hW:Below w.heap.size w W)=>fixesHold_any o x1 y1 x3 y3 x4 y4 x5 y5 W (hO.later hW));clear hO;go_enter Tryz.func32,Tryz.ntmps32;go_wp2_with fail
 refine HM.out.mono ?_;rintro e w1 ⟨rfl,hb1⟩;have HB1:=hid (thenB (al1 w _) hb1);have HX1:=hid ((hb1.block _ (by simp)).trans (heap_newP w (.cells #[.string o.name,.slice x1 o.uses.length y1,.int .i64 o.data,.slice x3 o.code.length y3,.slice x4 o.fixes.length y4,.slice x5 o.entries.length y5,.int .i64 o.main] 62)));clear hb1;obtain ⟨q0,q1,q2,q3,q4,q5,q6,_⟩:=cells7 HX1.out;have qz:=lt_of_heap HX1.out
 cases hm:oMany o with
 | true=>
   have HR:Hid (oChk o=2):=by show _=_;rw [HQ.out,hm];rfl
   go_wp2_with fail;go_ret;exact ⟨by rw [HR.out];first | done | rfl,HB1.out⟩
 | false=>
 have h3:o.uses.length<=3:=by
  unfold oMany at hm;simp only [Bool.or_eq_false_iff,decide_eq_false_iff_not] at hm;omega
 have HR:Hid (oChk o=if (namesB o&&(codeB o&&fixesB o))=true then 0 else 1):=by show _=_;rw [HQ.out,hm];rfl
 have HN':=hid (HN.out w1 HB1.out h3);clear hm h3 HQ;go_wp2_with fail;refine HN'.out.mono ?_;rintro e w2 ⟨rfl,hb2⟩;have HB2:=hid (thenB HB1.out hb2);have HX2:=hid ((hb2.block _ qz).trans HX1.out);have HC':=hid (HC.out w2 HB2.out);clear hb2 q0 q1 q2 q3 q4 q5 q6 qz;obtain ⟨q0,q1,q2,q3,q4,q5,q6,_⟩:=cells7 HX2.out;have qz:=lt_of_heap HX2.out
 cases hn:namesB o with
 | false=>
   have HR':Hid (oChk o=1):=by show _=_;rw [HR.out,hn];rfl
   go_wp2_with fail;go_ret;exact ⟨by rw [HR'.out];first | done | rfl,HB2.out⟩
 | true=>
 have HR2:Hid (oChk o=if (codeB o&&fixesB o)=true then 0 else 1):=by show _=_;rw [HR.out,hn];rfl
 go_wp2_with fail;refine HC'.out.mono ?_;rintro e w3 ⟨rfl,hb3⟩;have HB3:=hid (thenB HB2.out hb3);have HX3:=hid ((hb3.block _ qz).trans HX2.out);have HF':=hid (HF.out w3 HB3.out);clear hb3 q0 q1 q2 q3 q4 q5 q6 qz;obtain ⟨q0,q1,q2,q3,q4,q5,q6,_⟩:=cells7 HX3.out;have qz:=lt_of_heap HX3.out
 cases hc:codeB o with
 | false=>
   have HR':Hid (oChk o=1):=by show _=_;rw [HR2.out,hc];rfl
   go_wp2_with fail;go_ret;exact ⟨by rw [HR'.out];first | done | rfl,HB3.out⟩
 | true=>
 go_wp2_with fail;refine HF'.out.mono ?_;rintro e w4 ⟨rfl,hb4⟩;have HB4:=hid (thenB HB3.out hb4);clear hb4 q0 q1 q2 q3 q4 q5 q6 qz
 cases hf:fixesB o with
 | false=>
   have HR':Hid (oChk o=1):=by show _=_;rw [HR2.out,hc,hf];rfl
   go_wp2_with fail;go_ret;exact ⟨by rw [HR'.out];first | done | rfl,HB4.out⟩
 | true=>
   have HR':Hid (oChk o=0):=by show _=_;rw [HR2.out,hc,hf];rfl
   go_wp2_with fail;go_ret;exact ⟨by rw [HR'.out];first | done | rfl,HB4.out⟩
end Go.Proofs.YtndkhgakfodldaaGreatDoor
