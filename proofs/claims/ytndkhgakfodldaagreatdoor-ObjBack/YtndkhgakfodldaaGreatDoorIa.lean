/-
  Package obj: an instruction, a fix as bytes.
-/
import Derived.Test.YtndkhgakfodldaaGreatDoorYa
import Derived.Test.YtndkhgakfodldaaGreatDoorXc
import Derived.Deep.RegionHeld
import Derived.Deep.RegionHeldLaw
import Derived.Test.YtndkhgakfodldaaGreatDoorBb
import Derived.Test.YtndkhgakfodldaaGreatDoorBc
import Derived.Test.YtndkhgakfodldaaGreatDoorUn
namespace Go.Proofs.YtndkhgakfodldaaGreatDoor
set_option maxRecDepth 100000
set_option maxHeartbeats 6400000
open Go.RowKit Go.Shelf
set_option linter.unusedSimpArgs false
set_option linter.unusedVariables false
def instrB (i:Gi):List UInt8:=Fx.byteOf i.op :: (Fx.numB i.a++Fx.numB i.b)
def fixBy (f:Gf):List UInt8:=Fx.numB f.at_++Fx.byteOf f.kind :: Fx.numB f.m
section
variable {P:Program} {ops:Array Oper} {o:Oper} {a:Act} {w:World} {K:Act->World->Prop} {Q:Exit->Act->World->Prop} {E:Prop}
end
theorem u8_mod (n:Int):IntKind.u8.wrap n=n % 256:=by
 have h1:IntKind.u8.signed=false:=rfl;have h2:IntKind.u8.bits=8:=rfl;simp [IntKind.wrap,h1,h2]
theorem later_blk {w w':World} {b:Nat} {x:Obj} (h:w.heap[b]? = some x) (hb:Below w.heap.size w w'):w'.heap[b]? = some x:=(hb.block _ (lt_of_heap h)).trans h
theorem step_oneB {ops:Array Oper} {o:Oper} {a:Act} {K:Act->World->Prop} {Q:Exit->Act->World->Prop} {E:Prop} {W:World} (hgd:o.guard=none) (s x:Operand)
 (ho:o.op = .call { callee:=.builtin .append,args:=#[s,x],argTypes:=#[140,140] }) (B:Nat) (v:Value) (l:List UInt8) (hs:a.eval s=v) (hrow:Fx.Row B W v l) (n:Int) (H:Nat) (hx:a.eval x = .slice (some ⟨H,0,none⟩) 1 1) (hc:W.cell? ⟨H,0,none⟩=some (.int .u8 (IntKind.u8.wrap n))) (hl:l.length<=1000000) (hB:B<=W.heap.size)
 (h:∀ v' w',Fx.Row B w' v' (l++[Fx.byteOf n])->W.grownBy w' v.ownBlock->(∀ k,v'.ownBlock=some k->k<W.heap.size->v.ownBlock=some k)->K (a.put o.dst v') w') :
 if Region.wanted o (yielded ops a.tmps)=true then Oper.wp Tryz.prog o a W K Q else E:=by
 obtain ⟨i0,hi,hz0,hz1,hz2⟩:=info_parts Fx.info5;refine step_append_lies W hgd s x 140 ho B 5 i0 _ 1 1 Tryz.underlying140 hi hz0 hz1 hz2 rfl (by omega) v l.length (Fx.bytesV l) hs hrow ⟨H,0,none⟩ 1 1 [Fx.byteV (Fx.byteOf n)] hx rfl (fun j u hj=>?_) (by simp;rfl) (by omega) (by unfold maxLen;omega) (by omega) hB _ rfl ?_
 . have hj0:j=0:=by
    rcases Nat.lt_or_ge j 1 with h' | h'
    . omega
    . rw [List.getElem?_eq_none (by simpa using h')] at hj;cases hj
   subst hj0;cases hj;rw [show (⟨H,0,none⟩:Addr).add 0=⟨H,0,none⟩ from by unfold Addr.add;split<;>simp_all,hc,Fx.byteV_of,u8_mod]
 . intro g cap w' hown hg hat hlt
   refine h _ w' ?_ hg (fun k e hk=>?_)
   . unfold Fx.Row
     rw [← Fx.snocB,Fx.len_snoc];exact hown
   . simp only [Value.ownBlock,Option.some.injEq] at e
     subst e
     rcases hat with h1 | h1
     . exact h1
     . omega
theorem row_below {B:Nat} {w w':World} {v:Value} {l:List UInt8} (h:Fx.Row B w v l) (hg:w.grownBy w' v.ownBlock) (hB:B<=w.heap.size):Below B w w':=(Below.refl B w).grown hg hB (fun k hk=>(h.lt k hk).1)
theorem num_ret {B:Nat} {v:Value} {l:List UInt8} (n:Int) {w:World} (h:Fx.Row B w v l) (hB:B<=w.heap.size) (hl:l.length<=1000000) :
 Calls Tryz.prog 88 #[v,.int .i64 n] w fun e w'=>∃ u,e = .returned u/\(Fx.Row B w' u (l++Fx.numB n)/\Below B w w'/\w.grownBy w' v.ownBlock):=(Fx.AppendNumber_any B v l n w h hB hl).mono fun e w' ⟨u,h1,h2,h3⟩=>⟨u,h1,h2,row_below h h3 hB,h3⟩
theorem text_ret {B:Nat} {v:Value} {l:List UInt8} (s:ByteArray) {w:World} (h:Fx.Row B w v l) (hB:B<=w.heap.size) (hl:l.length<=1000000) (hs:s.size<=1000000) :
 Calls Tryz.prog 86 #[v,.string s] w fun e w'=>∃ u,e = .returned u/\(Fx.Row B w' u (l++Fx.textB s)/\Below B w w'):=(Fx.AppendText_any B v l s w h hB hl hs).mono fun e w' ⟨u,h1,h2,h3⟩=>⟨u,h1,h2,row_below h h3 hB⟩
theorem appendInstr_any (B:Nat) (v:Value) (l:List UInt8) (i:Gi) (w:World) (h:Fx.Row B w v l) (hB:B<=w.heap.size) (hl:l.length<=900000) :
 Calls Tryz.prog 90 #[v,.agg #[.int .i64 i.op,.int .i64 i.a,.int .i64 i.b]] w fun e w'=>∃ v',e = .returned v'/\(Fx.Row B w' v' (l++instrB i)/\Below B w w'):=by
 have hbox:=heap_newP w (.cells #[.int .i64 i.op,.int .i64 i.a,.int .i64 i.b] 69);generalize hW:w.alloc (.cells #[.int .i64 i.op,.int .i64 i.a,.int .i64 i.b] 69)=w1 at *
 have hb1:Below w.heap.size w w1:=by rw [← hW];exact al1 _ _
 have H1:=hid (h.later hb1);have HX:=hid hbox;have HB1:=hid (hb1.mono hB);have hz1:=hb1.size
 have HK:Hid (∀ {W W':World} {u:Value} {k:List UInt8},Fx.Row B W u k->W.grownBy W' u.ownBlock->W.heap[w.heap.size]? = some (.cells #[.int .i64 i.op,.int .i64 i.a,.int .i64 i.b] 69)->W'.heap[w.heap.size]? = some (.cells #[.int .i64 i.op,.int .i64 i.a,.int .i64 i.b] 69)):=fun hr hg hx=>hr.keep hg (by decide) hx
 have HC:Hid (∀ {W:World},W.heap[w.heap.size]? = some (.cells #[.int .i64 i.op,.int .i64 i.a,.int .i64 i.b] 69)->W.cell? ⟨w.heap.size,0,none⟩=some (.int .i64 i.op)/\W.cell? ⟨w.heap.size,1,none⟩=some (.int .i64 i.a)/\W.cell? ⟨w.heap.size,2,none⟩=some (.int .i64 i.b)):=fun hx=>⟨(cellsOf3 hx).1,(cellsOf3 hx).2.1,(cellsOf3 hx).2.2.1⟩
 have hB1:B<=w1.heap.size:=by omega
 clear h hbox hb1;go_enter Tryz.func90,Tryz.ntmps90;go_upto_region 1 with fail
 try rw [hW]
 clear hW
 go_region_held_law (fun W=>W.cell? ⟨w.heap.size,0,none⟩=some (.int .i64 i.op)/\W.cell? ⟨w.heap.size,1,none⟩=some (.int .i64 i.a)/\W.cell? ⟨w.heap.size,2,none⟩=some (.int .i64 i.b))
  (first | with_reducible exact HC.out HX4.out | with_reducible exact HC.out HX3.out | with_reducible exact HC.out HX2.out | with_reducible exact HC.out (later_blk HX.out (bdrew _)) | with_reducible exact HC.out (later_blk HX.out (bAdrew _ _)) | with_reducible exact HC.out (later_blk HX.out (thenB (bdrew _) (al1 _ _))))
  (first
  | (go_at_call 88;refine (num_ret i.b K3.out (by omega) (by rw [L3.out];omega)).mono ?_;rintro e w4 ⟨u4,rfl,h4,b4,g4⟩;have K4:=hid h4;have B4:=hid (B3.out.trans b4);have HX4:=hid (HK.out K3.out g4 HX3.out);clear h4 g4 b4)
  | (go_at_call 88;refine (num_ret i.a K2.out (by omega) (by rw [L2.out];omega)).mono ?_;rintro e w3 ⟨u3,rfl,h3,b3,g3⟩;have K3:=hid h3;have B3:=hid (B2.out.trans b3);have HX3:=hid (HK.out K2.out g3 HX2.out);have L3:Hid ((l++[Fx.byteOf i.op]++Fx.numB i.a).length=l.length+9):=(by show _=_;simp [Fx.numB]);have hz3:=g3.size;clear h3 g3 b3)
  | (refine step_oneB rfl (.tmp 5) (.tmp 9) rfl B v l rfl (H1.out.later (bAdrew _ _)) i.op w1.heap.size rfl (by simp) (by omega) (by simp;omega) ?_;intro u2 w2 h2 g2 k2;have K2:=hid h2;have B2:=hid (HB1.out.trans (((bAdrew w1 _).mono hB1).trans (row_below (H1.out.later (bAdrew _ _)) g2 (by simp;omega))));have HX2:=hid (HK.out (H1.out.later (bAdrew _ _)) g2 (later_blk HX.out (bAdrew _ _)));have L2:Hid ((l++[Fx.byteOf i.op]).length=l.length+1):=(by show _=_;simp);have hz2:=g2.size;simp at hz2;clear h2 g2 k2))
 all_goals
  go_wp2_with fail
  go_returns
  exact ⟨u4,rfl,by have:=K4.out;simp only [List.append_assoc,List.singleton_append] at this;exact this,B4.out⟩
theorem appendFix_any (B:Nat) (v:Value) (l:List UInt8) (i:Gf) (w:World) (h:Fx.Row B w v l) (hB:B<=w.heap.size) (hl:l.length<=900000) :
 Calls Tryz.prog 92 #[v,.agg #[.int .i64 i.at_,.int .i64 i.kind,.int .i64 i.m]] w fun e w'=>∃ v',e = .returned v'/\(Fx.Row B w' v' (l++fixBy i)/\Below B w w'):=by
 have hbox:=heap_newP w (.cells #[.int .i64 i.at_,.int .i64 i.kind,.int .i64 i.m] 67);generalize hW:w.alloc (.cells #[.int .i64 i.at_,.int .i64 i.kind,.int .i64 i.m] 67)=w1 at *
 have hb1:Below w.heap.size w w1:=by rw [← hW];exact al1 _ _
 have H1:=hid (h.later hb1);have HX:=hid hbox;have HB1:=hid (hb1.mono hB);have hz1:=hb1.size
 have HK:Hid (∀ {W W':World} {u:Value} {k:List UInt8},Fx.Row B W u k->W.grownBy W' u.ownBlock->W.heap[w.heap.size]? = some (.cells #[.int .i64 i.at_,.int .i64 i.kind,.int .i64 i.m] 67)->W'.heap[w.heap.size]? = some (.cells #[.int .i64 i.at_,.int .i64 i.kind,.int .i64 i.m] 67)):=fun hr hg hx=>hr.keep hg (by decide) hx
 have HC:Hid (∀ {W:World},W.heap[w.heap.size]? = some (.cells #[.int .i64 i.at_,.int .i64 i.kind,.int .i64 i.m] 67)->W.cell? ⟨w.heap.size,0,none⟩=some (.int .i64 i.at_)/\W.cell? ⟨w.heap.size,1,none⟩=some (.int .i64 i.kind)/\W.cell? ⟨w.heap.size,2,none⟩=some (.int .i64 i.m)):=fun hx=>⟨(cellsOf3 hx).1,(cellsOf3 hx).2.1,(cellsOf3 hx).2.2.1⟩
 have hB1:B<=w1.heap.size:=by omega
 clear h hbox hb1;go_enter Tryz.func92,Tryz.ntmps92;go_upto_region 1 with fail
 try rw [hW]
 clear hW;have HXd:=hid (later_blk HX.out (bdrew w1));have H1d:=hid (H1.out.later (bdrew w1))
 go_region_held_law (fun W=>W.cell? ⟨w.heap.size,0,none⟩=some (.int .i64 i.at_)/\W.cell? ⟨w.heap.size,1,none⟩=some (.int .i64 i.kind)/\W.cell? ⟨w.heap.size,2,none⟩=some (.int .i64 i.m))
  (first | with_reducible exact HC.out HX4.out | with_reducible exact HC.out HX3.out | with_reducible exact HC.out HX2.out | with_reducible exact HC.out (heap_old HX2.out) | with_reducible exact HC.out HXd.out | with_reducible exact HC.out (later_blk HX.out (bAdrew _ _)) | with_reducible exact HC.out (heap_old HXd.out))
  (first
  | (go_at_call 88;refine (num_ret i.m K3.out (by omega) (by rw [L3.out];omega)).mono ?_;rintro e w4 ⟨u4,rfl,h4,b4,g4⟩;have K4:=hid h4;have B4:=hid (B3.out.trans b4);have HX4:=hid (HK.out K3.out g4 HX3.out);clear h4 g4 b4)
  | (go_at_call 88;refine (num_ret i.at_ H1d.out (by simp;omega) (by omega)).mono ?_;rintro e w2 ⟨u2,rfl,h2,b2,g2⟩;have K2:=hid h2;have B2:=hid (HB1.out.trans (((bdrew w1).mono hB1).trans b2));have HX2:=hid (HK.out H1d.out g2 HXd.out);have L2:Hid ((l++Fx.numB i.at_).length=l.length+8):=(by show _=_;simp [Fx.numB]);have hz2:=g2.size;simp at hz2;clear h2 g2 b2)
  | (go_at_call 88;refine (num_ret i.at_ (H1.out.later (bAdrew _ _)) (by simp;omega) (by omega)).mono ?_;rintro e w2 ⟨u2,rfl,h2,b2,g2⟩;have K2:=hid h2;have B2:=hid (HB1.out.trans (((bAdrew w1 _).mono hB1).trans b2));have HX2:=hid (HK.out (H1.out.later (bAdrew _ _)) g2 (later_blk HX.out (bAdrew _ _)));have HO2:=hid ((g2.block w1.heap.size (by simp) (fun e=>absurd (H1.out.lies _ e.symm).2 (Nat.lt_irrefl _))).trans (heap_newP w1 _));have L2:Hid ((l++Fx.numB i.at_).length=l.length+8):=(by show _=_;simp [Fx.numB]);have hz2:=g2.size;simp at hz2;clear h2 g2 b2)
  | (refine step_oneB rfl (.tmp 8) (.tmp 12) rfl B u2 (l++Fx.numB i.at_) rfl (K2.out.later (al1 _ _)) i.kind w2.heap.size rfl (by simp) (by rw [L2.out];omega) (by simp;omega) ?_;intro u3 w3 h3 g3 k3;have K3:=hid h3;have B3:=hid (B2.out.trans (((al1 w2 _).mono (by omega)).trans (row_below (K2.out.later (al1 _ _)) g3 (by simp;omega))));have HX3:=hid (HK.out (K2.out.later (al1 _ _)) g3 (heap_old HX2.out));have L3:Hid ((l++Fx.numB i.at_++[Fx.byteOf i.kind]).length=l.length+9):=(by show _=_;simp [Fx.numB]);have hz3:=g3.size;simp at hz3;clear h3 g3 k3)
  | (refine step_oneB rfl (.tmp 8) (.tmp 12) rfl B u2 (l++Fx.numB i.at_) rfl K2.out i.kind w1.heap.size rfl (by exact (Lib.cell_of_heap HO2.out 0).trans rfl) (by rw [L2.out];omega) (by omega) ?_;intro u3 w3 h3 g3 k3;have K3:=hid h3;have B3:=hid (B2.out.trans (row_below K2.out g3 (by omega)));have HX3:=hid (HK.out K2.out g3 HX2.out);have L3:Hid ((l++Fx.numB i.at_++[Fx.byteOf i.kind]).length=l.length+9):=(by show _=_;simp [Fx.numB]);have hz3:=g3.size;clear h3 g3 k3))
 all_goals
  go_wp2_with fail
  go_returns
  exact ⟨u4,rfl,by have:=K4.out;simp only [List.append_assoc,List.singleton_append] at this;exact this,B4.out⟩
end Go.Proofs.YtndkhgakfodldaaGreatDoor

namespace Go.Proofs.YtndkhgakfodldaaGreatDoor
set_option maxRecDepth 100000
set_option maxHeartbeats 1600000
open Go.RowKit Go.Shelf
set_option linter.unusedSimpArgs false
set_option linter.unusedVariables false
def negP:List PanicEntry:=[{ v:=.iface 9 (.string ⟨#[102,101,119,101,114,32,116,104,97,110,32,110,111,110,101]⟩),recovered:=false }]
def Thrown (c:List PanicEntry):Prop:=c=Fx.shortP\/c=negP
def Rdd {α:Type} (rb:Nat) (w:World) (r:Option (α × List UInt8)) (rep:World->α->Value->Prop) (e:Ending) (w':World):Prop:=
 w.grownBy w' (some rb)/\((r=none/\∃ c,Thrown c/\e = .panicked c)\/∃ x l v,r=some (x,l)/\e = .returned v/\rep w' x v/\Fx.Rdr w' rb l)
def isI (_:World) (n:Int) (v:Value):Prop:=v = .int .i64 n
def isS (_:World) (s:ByteArray) (v:Value):Prop:=v = .string s
theorem rd_of {α β:Type} {rb:Nat} {w w':World} {r:Option (α × List UInt8)} {rep:α->Value} {e:Ending} (f:α->β) {rep':World->β->Value->Prop} (hr:∀ x W,rep' W (f x) (rep x)) (h:Fx.REnd rb w r rep e w'):Rdd rb w (r.map fun q=>(f q.1,q.2)) rep' e w':=by
 obtain ⟨hg,h⟩:=h;refine ⟨hg,?_⟩
 rcases h with ⟨h1,h2⟩ | ⟨x,l,h1,h2,h3⟩
 . exact Or.inl ⟨by rw [h1];rfl,_,Or.inl rfl,h2⟩
 . exact Or.inr ⟨f x,l,_,by rw [h1];rfl,h2,hr x w',h3⟩
def pTx (l:List UInt8):Option (ByteArray × List UInt8):=(Fx.pText l).map fun q=>(Fx.strOf q.1,q.2)
theorem map_same {α β:Type} (r:Option (α × β)):(r.map fun q=>(id q.1,q.2))=r:=by cases r<;>rfl
theorem rdNum (rb:Nat) (l:List UInt8) (w:World) (h:Fx.Rdr w rb l) (hl:l.length<=1000000):Calls Tryz.prog 139 #[.pointer (some ⟨rb,0,none⟩)] w fun e w'=>Rdd rb w (Fx.pNum l) isI e w':=
 (Fx.Number_any rb l w h (by omega)).mono fun e w' h=>by have:=rd_of id (rep':=isI) (fun _ _=>rfl) h;rwa [map_same] at this
theorem rdByte (rb:Nat) (l:List UInt8) (w:World) (h:Fx.Rdr w rb l) (hl:l.length<=1000000):Calls Tryz.prog 142 #[.pointer (some ⟨rb,0,none⟩)] w fun e w'=>Rdd rb w (Fx.pByte l) isI e w':=
 (Fx.Byte_any rb l w h (by omega)).mono fun e w' h=>by have:=rd_of id (rep':=isI) (fun _ _=>rfl) h;rwa [map_same] at this
theorem rdText (rb:Nat) (l:List UInt8) (w:World) (h:Fx.Rdr w rb l) (hl:l.length<=1000000):Calls Tryz.prog 137 #[.pointer (some ⟨rb,0,none⟩)] w fun e w'=>Rdd rb w (pTx l) isS e w':=
 (Fx.Text_any Fx.cloneOk rb l w h (by omega)).mono fun e w' h=>rd_of Fx.strOf (rep':=isS) (fun _ _=>rfl) h
theorem num_left {l r:List UInt8} {n:Int} (h:Fx.pNum l=some (n,r)):r.length+8=l.length:=by
 rw [Fx.pNum_back h,List.length_append];show _=8+_;omega
theorem byte_left {l r:List UInt8} {n:Int} (h:Fx.pByte l=some (n,r)):r.length+1=l.length:=by
 rw [Fx.pByte_back h,List.length_cons]
theorem tx_left {l r:List UInt8} {n:ByteArray} (h:pTx l=some (n,r)):r.length+1<=l.length:=by
 unfold pTx at h
 cases hq:Fx.pText l with
 | none=>rw [hq] at h;cases h
 | some q=>
   rw [hq] at h;cases h;have:=Fx.pText_back (x:=q.1) (r:=q.2) hq;rw [this,List.length_append,Fx.textB,List.length_cons];omega
def pCnt (l:List UInt8):Option (Nat × List UInt8):=(Fx.pNum l).bind fun q=>if q.1<0 then none else some (q.1.toNat,q.2)
def isN (_:World) (n:Nat) (v:Value):Prop:=v = .int .i64 n
theorem numL_fit {l r:List UInt8} {n:Int} (h:Fx.pNum l=some (n,r)) : -9223372036854775808<=n/\n<=9223372036854775807:=by
 unfold Fx.pNum at h
 cases hq:Fx.pTake 8 l with
 | none=>rw [hq] at h;cases h
 | some q=>
   rw [hq] at h;cases h;obtain ⟨a,b,c,d,e,f,g,i,hx⟩:=Fx.eight (Fx.pTake_len (x:=q.1) (r:=q.2) hq).1;show -9223372036854775808<=Fx.valL q.1/\Fx.valL q.1<=9223372036854775807;rw [hx,Fx.valL_eight];generalize Fx.horn _ _ _ _ _ _ _ _=z;unfold wrap64;omega
theorem rdCount (rb:Nat) (l:List UInt8) (w:World) (h:Fx.Rdr w rb l) (hl:l.length<=1000000):Calls Tryz.prog 176 #[.pointer (some ⟨rb,0,none⟩)] w fun e w'=>Rdd rb w (pCnt l) isN e w':=by
 have HN:=hid (rdNum rb l w h hl);have HP:Hid (pCnt l=(Fx.pNum l).bind fun q=>if q.1<0 then none else some (q.1.toNat,q.2)):=rfl;clear h;go_enter Tryz.func176,Tryz.ntmps176;go_wp2_with fail;refine HN.out.mono ?_;rintro e w1 ⟨hg,⟨hp,c,hc,rfl⟩ | ⟨n,r,v,hp,rfl,hv,hr⟩⟩
 . exact ⟨rfl,hg,Or.inl ⟨by rw [HP.out,hp];rfl,c,hc,rfl⟩⟩
 . obtain rfl:v = .int .i64 n:=hv
   have HG:=hid hg;have HR:=hid hr
   by_cases t:n<0
   . have HE:Hid (pCnt l=none):=by show _=_;rw [HP.out,hp];exact if_pos t
     clear hp hg hr;go_wp2_with fail;exact ⟨rfl,HG.out,Or.inl ⟨HE.out,_,Or.inr rfl,rfl⟩⟩
   . have HE:Hid (pCnt l=some (n.toNat,r)):=by show _=_;rw [HP.out,hp];exact if_neg t
     clear hp hg hr;go_wp2_with fail
     go_returns
     exact ⟨HG.out,Or.inr ⟨n.toNat,r,_,HE.out,rfl,by unfold isN;rw [Int.toNat_of_nonneg (by omega)];rfl,HR.out⟩⟩
theorem grown_after {w W w':World} {r:Option Nat} (hb:Below w.heap.size w W) (hg:W.grownBy w' r):w.grownBy w' r:=
 ⟨hg.os.trans hb.os,hg.tape.trans hb.tape,hg.output.trans hb.output,Nat.le_trans hb.size hg.size,fun k hk hne=>(hg.block k (Nat.lt_of_lt_of_le hk hb.size) hne).trans (hb.block k hk)⟩
theorem grown_put {w w':World} {r:Option Nat} (h:w.grownBy w' r) {a:Addr} {u:Value} (ha:w.heap.size<=a.block):w.grownBy (w'.setCell a u) r:=
 ⟨h.os,h.tape,h.output,by simpa using h.size,fun k hk hne=>(Below.heap_setCell w' a u k (by omega)).trans (h.block k hk hne)⟩
theorem rdr_alloc {w:World} {rb:Nat} {l:List UInt8} (h:Fx.Rdr w rb l) (o:Obj):Fx.Rdr (w.alloc o) rb l:=h.below (al1 w o)
theorem rdr_put {w:World} {rb:Nat} {l:List UInt8} (h:Fx.Rdr w rb l) {a:Addr} {u:Value} (ha:a.block≠rb):Fx.Rdr (w.setCell a u) rb l:=
 h.kept (r:=some a.block) ⟨rfl,rfl,rfl,by simp,fun k _ hne=>Below.heap_setCell w a u k (fun e=>hne (by rw [e]))⟩ (fun e=>ha (by cases e;rfl))
theorem gk {w w':World} {rb b:Nat} {x:Obj} (hg:w.grownBy w' (some rb)) (h:w.heap[b]? = some x) (hn:b≠rb):w'.heap[b]? = some x:=(hg.block b (lt_of_heap h) (fun e=>hn (by cases e;rfl))).trans h
def pInstr (l:List UInt8):Option (Gi × List UInt8):=(Fx.pByte l).bind fun a=>(Fx.pNum a.2).bind fun b=>(Fx.pNum b.2).map fun c=>(⟨a.1,b.1,c.1⟩,c.2)
def pFixy (l:List UInt8):Option (Gf × List UInt8):=(Fx.pNum l).bind fun a=>(Fx.pByte a.2).bind fun b=>(Fx.pNum b.2).map fun c=>(⟨a.1,b.1,c.1⟩,c.2)
def isGi (_:World) (i:Gi) (v:Value):Prop:=v = .agg #[.int .i64 i.op,.int .i64 i.a,.int .i64 i.b]
def isGf (_:World) (i:Gf) (v:Value):Prop:=v = .agg #[.int .i64 i.at_,.int .i64 i.kind,.int .i64 i.m]
theorem rdInstr (rb:Nat) (l:List UInt8) (w:World) (h:Fx.Rdr w rb l) (hl:l.length<=1000000):Calls Tryz.prog 141 #[.pointer (some ⟨rb,0,none⟩)] w fun e w'=>Rdd rb w (pInstr l) isGi e w':=by
 have hlt:=h.lt
 have hn0:w.heap.size≠rb:=by omega
 have HR:=hid h;have HP:Hid (pInstr l=(Fx.pByte l).bind fun a=>(Fx.pNum a.2).bind fun b=>(Fx.pNum b.2).map fun c=>(⟨a.1,b.1,c.1⟩,c.2)):=rfl;clear h;go_enter Tryz.func141,Tryz.ntmps141;go_wp2_with fail;refine (rdByte rb l _ (rdr_alloc HR.out _) hl).mono ?_;rintro e w1 ⟨hg,⟨hp,c,hc,rfl⟩ | ⟨k,l1,v,hp,rfl,hv,hr⟩⟩
 . exact ⟨rfl,grown_after (al1 _ _) hg,Or.inl ⟨by rw [HP.out,hp];rfl,c,hc,rfl⟩⟩
 obtain rfl:v = .int .i64 k:=hv
 have HP1:Hid (pInstr l=(Fx.pNum l1).bind fun b=>(Fx.pNum b.2).map fun c=>(⟨k,b.1,c.1⟩,c.2)):=by show _=_;rw [HP.out,hp];rfl
 have HX1:=hid (gk hg (heap_newP w (.cells #[.int .i64 0,.int .i64 0,.int .i64 0] 69)) hn0);have HG1:=hid (grown_after (al1 w _) hg);have HR1:=hid hr;have hl1:=byte_left hp;have hz1:=lt_of_heap HX1.out
 have hn1:w1.heap.size≠rb:=by have:=hr.lt;omega
 have hn01:w.heap.size≠w1.heap.size:=by omega
 clear hg hr hp HP;go_wp2_with fail;refine (rdNum rb l1 _ (rdr_alloc HR1.out _) (by omega)).mono ?_;rintro e w2 ⟨hg,⟨hp,c,hc,rfl⟩ | ⟨k2,l2,v,hp,rfl,hv,hr⟩⟩
 . exact ⟨rfl,Fx.grown_trans HG1.out (grown_after (al1 _ _) hg),Or.inl ⟨by rw [HP1.out,hp];rfl,c,hc,rfl⟩⟩
 obtain rfl:v = .int .i64 k2:=hv
 have HP2:Hid (pInstr l=(Fx.pNum l2).map fun c=>(⟨k,k2,c.1⟩,c.2)):=by show _=_;rw [HP1.out,hp];rfl
 have HX2:=hid (gk hg (heap_old HX1.out) hn0);have HI2:=hid (gk hg (heap_newP w1 (.cells #[.int .i64 k,.int .i64 0,.int .i64 0] 69)) hn1);have HG2:=hid (Fx.grown_trans HG1.out (grown_after (al1 w1 _) hg));have HR2:=hid hr;have hl2:=num_left hp;clear hg hr hp HP1 HX1 HR1;obtain ⟨i0,i1,i2,i3⟩:=cellsOf3 HI2.out;have iz:=lt_of_heap HI2.out;go_wp2_with fail;refine (rdNum rb l2 _ (rdr_put HR2.out (by simpa using hn1)) (by omega)).mono ?_;have HGs:=hid (grown_put (a:=⟨w1.heap.size,1,none⟩) (u:=.int .i64 k2) HG2.out (by show w.heap.size<=w1.heap.size;omega));rintro e w3 ⟨hg,⟨hp,c,hc,rfl⟩ | ⟨k3,l3,v,hp,rfl,hv,hr⟩⟩
 . exact ⟨rfl,Fx.grown_trans HGs.out hg,Or.inl ⟨by rw [HP2.out,hp];rfl,c,hc,rfl⟩⟩
 obtain rfl:v = .int .i64 k3:=hv
 have HP3:Hid (pInstr l=some (⟨k,k2,k3⟩,l3)):=by show _=_;rw [HP2.out,hp];rfl
 have HX3:=hid (gk hg ((heap_set_ne (p:=⟨w1.heap.size,1,none⟩) hn01 _).trans HX2.out) hn0);have HI3:Hid (w3.heap[w1.heap.size]? = some (.cells #[.int .i64 k,.int .i64 k2,.int .i64 0] 69)):=gk hg (heap_set HI2.out _) hn1;have HG3:=hid (Fx.grown_trans HGs.out hg);have HR3:=hid hr;clear hg hr hp HP2 i0 i1 i2 i3 iz HX2 HI2 HGs HG2 HR2;obtain ⟨i0,i1,i2,i3⟩:=cellsOf3 HI3.out;have iz:=lt_of_heap HI3.out;obtain ⟨j0,j1,j2,j3⟩:=cellsOf3 HX3.out;have jz:=lt_of_heap HX3.out;go_wp2_with fail;refine bodyPost_ret (v:=.agg #[.int .i64 k,.int .i64 k2,.int .i64 k3]) (by simp [results,Tryz.results141,go_sem,j0,j1,j2,i0,i1,i2,hn01,hn01.symm,jz,iz]) rfl ⟨?_,Or.inr ⟨_,l3,_,HP3.out,rfl,rfl,?_⟩⟩
 . exact grown_put (grown_put (grown_put (grown_put HG3.out (by show w.heap.size<=w1.heap.size;omega)) (Nat.le_refl _)) (Nat.le_refl _)) (Nat.le_refl _)
 . exact rdr_put (rdr_put (rdr_put (rdr_put HR3.out hn1) hn0) hn0) hn0
theorem rdFix (rb:Nat) (l:List UInt8) (w:World) (h:Fx.Rdr w rb l) (hl:l.length<=1000000):Calls Tryz.prog 144 #[.pointer (some ⟨rb,0,none⟩)] w fun e w'=>Rdd rb w (pFixy l) isGf e w':=by
 have hlt:=h.lt
 have hn0:w.heap.size≠rb:=by omega
 have HR:=hid h;have HP:Hid (pFixy l=(Fx.pNum l).bind fun a=>(Fx.pByte a.2).bind fun b=>(Fx.pNum b.2).map fun c=>(⟨a.1,b.1,c.1⟩,c.2)):=rfl;clear h;go_enter Tryz.func144,Tryz.ntmps144;go_wp2_with fail;refine (rdNum rb l _ (rdr_alloc HR.out _) hl).mono ?_;rintro e w1 ⟨hg,⟨hp,c,hc,rfl⟩ | ⟨k,l1,v,hp,rfl,hv,hr⟩⟩
 . exact ⟨rfl,grown_after (al1 _ _) hg,Or.inl ⟨by rw [HP.out,hp];rfl,c,hc,rfl⟩⟩
 obtain rfl:v = .int .i64 k:=hv
 have HP1:Hid (pFixy l=(Fx.pByte l1).bind fun b=>(Fx.pNum b.2).map fun c=>(⟨k,b.1,c.1⟩,c.2)):=by show _=_;rw [HP.out,hp];rfl
 have HX1:=hid (gk hg (heap_newP w (.cells #[.int .i64 0,.int .i64 0,.int .i64 0] 67)) hn0);have HG1:=hid (grown_after (al1 w _) hg);have HR1:=hid hr;have hl1:=num_left hp;have hz1:=lt_of_heap HX1.out
 have hn1:w1.heap.size≠rb:=by have:=hr.lt;omega
 have hn01:w.heap.size≠w1.heap.size:=by omega
 clear hg hr hp HP;go_wp2_with fail;refine (rdByte rb l1 _ (rdr_alloc HR1.out _) (by omega)).mono ?_;rintro e w2 ⟨hg,⟨hp,c,hc,rfl⟩ | ⟨k2,l2,v,hp,rfl,hv,hr⟩⟩
 . exact ⟨rfl,Fx.grown_trans HG1.out (grown_after (al1 _ _) hg),Or.inl ⟨by rw [HP1.out,hp];rfl,c,hc,rfl⟩⟩
 obtain rfl:v = .int .i64 k2:=hv
 have HP2:Hid (pFixy l=(Fx.pNum l2).map fun c=>(⟨k,k2,c.1⟩,c.2)):=by show _=_;rw [HP1.out,hp];rfl
 have HX2:=hid (gk hg (heap_old HX1.out) hn0);have HI2:=hid (gk hg (heap_newP w1 (.cells #[.int .i64 k,.int .i64 0,.int .i64 0] 67)) hn1);have HG2:=hid (Fx.grown_trans HG1.out (grown_after (al1 w1 _) hg));have HR2:=hid hr;have hl2:=byte_left hp;clear hg hr hp HP1 HX1 HR1;obtain ⟨i0,i1,i2,i3⟩:=cellsOf3 HI2.out;have iz:=lt_of_heap HI2.out;go_wp2_with fail;refine (rdNum rb l2 _ (rdr_put HR2.out (by simpa using hn1)) (by omega)).mono ?_;have HGs:=hid (grown_put (a:=⟨w1.heap.size,1,none⟩) (u:=.int .i64 k2) HG2.out (by show w.heap.size<=w1.heap.size;omega));rintro e w3 ⟨hg,⟨hp,c,hc,rfl⟩ | ⟨k3,l3,v,hp,rfl,hv,hr⟩⟩
 . exact ⟨rfl,Fx.grown_trans HGs.out hg,Or.inl ⟨by rw [HP2.out,hp];rfl,c,hc,rfl⟩⟩
 obtain rfl:v = .int .i64 k3:=hv
 have HP3:Hid (pFixy l=some (⟨k,k2,k3⟩,l3)):=by show _=_;rw [HP2.out,hp];rfl
 have HX3:=hid (gk hg ((heap_set_ne (p:=⟨w1.heap.size,1,none⟩) hn01 _).trans HX2.out) hn0);have HI3:Hid (w3.heap[w1.heap.size]? = some (.cells #[.int .i64 k,.int .i64 k2,.int .i64 0] 67)):=gk hg (heap_set HI2.out _) hn1;have HG3:=hid (Fx.grown_trans HGs.out hg);have HR3:=hid hr;clear hg hr hp HP2 i0 i1 i2 i3 iz HX2 HI2 HGs HG2 HR2;obtain ⟨i0,i1,i2,i3⟩:=cellsOf3 HI3.out;have iz:=lt_of_heap HI3.out;obtain ⟨j0,j1,j2,j3⟩:=cellsOf3 HX3.out;have jz:=lt_of_heap HX3.out;go_wp2_with fail;refine bodyPost_ret (v:=.agg #[.int .i64 k,.int .i64 k2,.int .i64 k3]) (by simp [results,Tryz.results144,go_sem,j0,j1,j2,i0,i1,i2,hn01,hn01.symm,jz,iz]) rfl ⟨?_,Or.inr ⟨_,l3,_,HP3.out,rfl,rfl,?_⟩⟩
 . exact grown_put (grown_put (grown_put (grown_put HG3.out (by show w.heap.size<=w1.heap.size;omega)) (Nat.le_refl _)) (Nat.le_refl _)) (Nat.le_refl _)
 . exact rdr_put (rdr_put (rdr_put (rdr_put HR3.out hn1) hn0) hn0) hn0
end Go.Proofs.YtndkhgakfodldaaGreatDoor

namespace Go.Proofs.YtndkhgakfodldaaGreatDoor
set_option maxRecDepth 100000
open Go.RowKit Go.Maps Go.WideMaps
set_option linter.unusedSimpArgs false
set_option linter.unusedVariables false
structure Onto (w w':World) (B:Nat) (e:TypeId) (size:Nat) (v:Value) (n:Nat) (g cap:Nat) (xs:List Value):Prop where
 own:w'.ownsRow B e size (.slice (some ⟨g,0,none⟩) (n+1) cap) (n+1) xs
 below:Below B w w'
 size:w.heap.size<w'.heap.size
 old:∀ (b:Nat) (x:Obj),w.heap[b]? = some x->v.ownBlock≠some b->w'.heap[b]? = some x
 at_:v.ownBlock=some g\/w.heap.size<g
theorem append_w {P:Program} {ops:Array Oper} {rest:List Oper} {o:Oper} {a:Act} {Q:Exit->Act->World->Prop} (hgd:o.guard=none) (s x:Operand) (t:TypeId)
 (ho:o.op = .call { callee:=.builtin .append,args:=#[s,x],argTypes:=#[t,t] }) (base:Nat) (e:TypeId) (z:Value) (size bytes:Nat) (ht:P.underlying t=some (.slice e))
 (hi:(P.info? e).map (fun i=>(i.zero,i.size,i.bytes))=some (some z,size,bytes)) (hzs:z.cells.size=size) (hsz:0<size) (w:World) (v:Value) (n:Nat) (xs:List Value) (hs:a.eval s=v) (hrow:w.ownsRow base e size v n xs)
 (cs:Array Value) (H:Nat) (hH:H=w.heap.size) (hx:a.eval x = .slice (some ⟨H,0,none⟩) 1 1) (hcs:cs.size=size) (h1:∀ u ∈ cs.toList,u.oneCell'=true)
 (hn:n<=2000000) (hby:bytes<=200) (hbase:base<=w.heap.size) (W:World) (hW:W=w.alloc (.cells cs e))
 (h:∀ g cap w',Onto w w' base e size v n g cap (xs++cs.toList)->wpList P ops Q rest (a.put o.dst (.slice (some ⟨g,0,none⟩) (n+1) cap)) w') :
 wpList P ops Q (o :: rest) a W:=by
 subst hW;obtain ⟨i0,hi,hz0,hz1,hz2⟩:=info_parts hi
 have hsize:(w.alloc (.cells cs e)).heap.size=w.heap.size+1:=by simp
 refine wpList_append_lies (w.alloc (.cells cs e)) hgd s x t ho base e i0 z size bytes ht hi hz0 hz1 hz2 hzs hsz v n xs hs (hrow.alloc _) ⟨H,0,none⟩ 1 1 cs.toList hx (by simp [hcs]) ?_ h1 (by omega) (by unfold maxLen;omega) ?_ (by omega) _ rfl ?_
 . intro j u hj
   subst hH
   have:(⟨w.heap.size,0,none⟩:Addr).add j=⟨w.heap.size,j,none⟩:=by unfold Addr.add;split<;>simp_all
   rw [this,Lib.cell_of_heap (heap_newP w _)];simpa using hj
 . have:(n+1)*bytes<=2000001*200:=Nat.mul_le_mul (by omega) hby
   omega
 . intro g cap w' hown' hgrow hat hlt
   have hgz:=hgrow.size;refine h g cap w' ⟨hown',((Below.refl base w).alloc hbase _).grown hgrow (by omega) (fun k hk=>(hrow.lt k hk).1),by omega,fun b x hb hne=>?_,hat.imp id (fun e=>by omega)⟩;have hb':(w.alloc (.cells cs e)).heap[b]? = some x:=heap_old hb;exact (hgrow.block b (lt_of_heap hb') (fun e=>hne e.symm)).trans hb'
theorem step_append_w {P:Program} {ops:Array Oper} {o:Oper} {a:Act} {K:Act->World->Prop} {Q:Exit->Act->World->Prop} {E:Prop} (hgd:o.guard=none) (s x:Operand) (t:TypeId)
 (ho:o.op = .call { callee:=.builtin .append,args:=#[s,x],argTypes:=#[t,t] }) (base:Nat) (e:TypeId) (z:Value) (size bytes:Nat) (ht:P.underlying t=some (.slice e))
 (hi:(P.info? e).map (fun i=>(i.zero,i.size,i.bytes))=some (some z,size,bytes)) (hzs:z.cells.size=size) (hsz:0<size) (w:World) (v:Value) (n:Nat) (xs:List Value) (hs:a.eval s=v) (hrow:w.ownsRow base e size v n xs)
 (cs:Array Value) (H:Nat) (hH:H=w.heap.size) (hx:a.eval x = .slice (some ⟨H,0,none⟩) 1 1) (hcs:cs.size=size) (h1:∀ u ∈ cs.toList,u.oneCell'=true)
 (hn:n<=2000000) (hby:bytes<=200) (hbase:base<=w.heap.size) (W:World) (hW:W=w.alloc (.cells cs e))
 (h:∀ g cap w',Onto w w' base e size v n g cap (xs++cs.toList)->K (a.put o.dst (.slice (some ⟨g,0,none⟩) (n+1) cap)) w') :
 if Region.wanted o (yielded ops a.tmps)=true then Oper.wp P o a W K Q else E:=by
 subst hW;obtain ⟨i0,hi,hz0,hz1,hz2⟩:=info_parts hi
 have hsize:(w.alloc (.cells cs e)).heap.size=w.heap.size+1:=by simp
 refine step_append_lies (w.alloc (.cells cs e)) hgd s x t ho base e i0 z size bytes ht hi hz0 hz1 hz2 hzs hsz v n xs hs (hrow.alloc _) ⟨H,0,none⟩ 1 1 cs.toList hx (by simp [hcs]) ?_ h1 (by omega) (by unfold maxLen;omega) ?_ (by omega) _ rfl ?_
 . intro j u hj
   subst hH
   have:(⟨w.heap.size,0,none⟩:Addr).add j=⟨w.heap.size,j,none⟩:=by unfold Addr.add;split<;>simp_all
   rw [this,Lib.cell_of_heap (heap_newP w _)];simpa using hj
 . have:(n+1)*bytes<=2000001*200:=Nat.mul_le_mul (by omega) hby
   omega
 . intro g cap w' hown' hgrow hat hlt
   have hgz:=hgrow.size;refine h g cap w' ⟨hown',((Below.refl base w).alloc hbase _).grown hgrow (by omega) (fun k hk=>(hrow.lt k hk).1),by omega,fun b x hb hne=>?_,hat.imp id (fun e=>by omega)⟩;have hb':(w.alloc (.cells cs e)).heap[b]? = some x:=heap_old hb;exact (hgrow.block b (lt_of_heap hb') (fun e=>hne e.symm)).trans hb'
theorem ownsRow_keep {w w':World} {B:Nat} {e:TypeId} {sz:Nat} {v:Value} {n:Nat} {xs:List Value} (h:w.ownsRow B e sz v n xs) (hk:∀ k,v.ownBlock=some k->w'.heap[k]? = w.heap[k]?):w'.ownsRow B e sz v n xs:=by
 refine ⟨h.1,?_⟩
 rcases h.2 with h1 | ⟨g,cap,cur,hv,hb,hg,hr⟩
 . exact Or.inl h1
 . exact Or.inr ⟨g,cap,cur,hv,hb,(hk g (by rw [hv];rfl)).trans hg,hr⟩
theorem ownsRow_form {w:World} {B:Nat} {e:TypeId} {sz:Nat} {v:Value} {n:Nat} {xs:List Value} (h:w.ownsRow B e sz v n xs):∃ a cap,v = .slice a n cap/\n<=cap/\cap<=maxLen:=by
 rcases h.2 with ⟨h1,h2⟩ | ⟨g,cap,cur,hv,_,_,h3,h4,_⟩
 . exact ⟨none,0,by rw [h2];exact h1,by omega,by unfold maxLen;omega⟩
 . exact ⟨_,cap,hv,h3,h4⟩
theorem ownsRow_set {w:World} {B:Nat} {e:TypeId} {sz:Nat} {g n cap:Nat} {xs:List Value} (h:w.ownsRow B e sz (.slice (some ⟨g,0,none⟩) n cap) n xs) (j:Nat) (u:Value) (hj:j<n*sz) :
 (w.setCell ⟨g,j,none⟩ u).ownsRow B e sz (.slice (some ⟨g,0,none⟩) n cap) n (xs.set j u):=by
 refine ⟨by rw [List.length_set];exact h.1,?_⟩
 rcases h.2 with ⟨h1,_⟩ | ⟨g',cap',cur,hv,hb,hg,h3,h4,h5,h6⟩
 . cases h1
 . cases hv
   refine Or.inr ⟨g,cap,cur.setIfInBounds j u,rfl,hb,heap_set hg u,h3,h4,by rw [Array.size_setIfInBounds];exact h5,?_⟩;rw [Array.toList_setIfInBounds,← h6,List.take_set]
structure WAt (w0 w:World) (R:Nat) (K:List (Nat × Obj)) (cv fv:Value) (s:Wrt):Prop where
 blk:w.heap[R]? = some (.cells #[cv,fv] 136)
 hR:w0.heap.size<=R
 code:w.ownsRow w0.heap.size 69 3 cv s.code.length (gisV s.code)
 fix:w.ownsRow w0.heap.size 67 3 fv s.fixes.length (gfsV s.fixes)
 apt:Apt cv fv
 nc:cv.ownBlock≠some R
 nf:fv.ownBlock≠some R
 below:Below w0.heap.size w0 w
 kp:∀ x ∈ K,w.heap[x.1]? = some x.2/\x.1≠R/\cv.ownBlock≠some x.1/\fv.ownBlock≠some x.1
def Wri (w0 w:World) (R:Nat) (K:List (Nat × Obj)) (s:Wrt):Prop:=s.fixes.length<=s.code.length/\∃ cv fv,WAt w0 w R K cv fv s
section
variable {w0 w w':World} {R:Nat} {K K':List (Nat × Obj)} {cv fv:Value} {s:Wrt}
theorem WAt.ltR (h:WAt w0 w R K cv fv s):R<w.heap.size:=lt_of_heap h.blk
theorem WAt.hB (h:WAt w0 w R K cv fv s):w0.heap.size<=w.heap.size:=Nat.le_trans h.hR (Nat.le_of_lt h.ltR)
theorem WAt.later (h:WAt w0 w R K cv fv s) (hb:Below w.heap.size w w'):WAt w0 w' R K cv fv s:=
 { h with
   blk:=(hb.block R h.ltR).trans h.blk
   code:=ownsRow_later h.code hb
   fix:=ownsRow_later h.fix hb
   below:=h.below.trans (hb.mono h.hB)
   kp:=fun x hx=>⟨(hb.block _ (lt_of_heap (h.kp x hx).1)).trans (h.kp x hx).1,(h.kp x hx).2⟩}
theorem WAt.alloc (h:WAt w0 w R K cv fv s) (o:Obj):WAt w0 (w.alloc o) R K cv fv s:=h.later ((Below.refl _ _).alloc (Nat.le_refl _) o)
theorem WAt.drew (h:WAt w0 w R K cv fv s):WAt w0 w.drew R K cv fv s:=h.later (Below.refl _ _).drew
theorem WAt.box (h:WAt w0 w R K cv fv s) (o:Obj):WAt w0 (w.alloc o) R ((w.heap.size,o) :: K) cv fv s:=
 { h.alloc o with
   kp :=fun x hx=>by
    rcases List.mem_cons.1 hx with rfl | hx
    . refine ⟨heap_newP w o,fun e=>by have:=h.ltR;simp only at e;omega,fun e=>?_,fun e=>?_⟩
      . have:=(h.code.lt _ e).2;simp only at this;omega
      . have:=(h.fix.lt _ e).2;simp only at this;omega
    . exact (h.alloc o).kp x hx }
theorem WAt.sub (h:WAt w0 w R K cv fv s) (hK:∀ x ∈ K',x ∈ K):WAt w0 w R K' cv fv s:={ h with kp:=fun x hx=>h.kp x (hK x hx) }
theorem Wri.later (h:Wri w0 w R K s) (hb:Below w.heap.size w w'):Wri w0 w' R K s:=by obtain ⟨hl,_,_,h⟩:=h;exact ⟨hl,_,_,h.later hb⟩
theorem Wri.alloc (h:Wri w0 w R K s) (o:Obj):Wri w0 (w.alloc o) R K s:=by obtain ⟨hl,_,_,h⟩:=h;exact ⟨hl,_,_,h.alloc o⟩
theorem Wri.drew (h:Wri w0 w R K s):Wri w0 w.drew R K s:=by obtain ⟨hl,_,_,h⟩:=h;exact ⟨hl,_,_,h.drew⟩
theorem Wri.box (h:Wri w0 w R K s) (o:Obj):Wri w0 (w.alloc o) R ((w.heap.size,o) :: K) s:=by obtain ⟨hl,_,_,h⟩:=h;exact ⟨hl,_,_,h.box o⟩
theorem Wri.sub (h:Wri w0 w R K s) (hK:∀ x ∈ K',x ∈ K):Wri w0 w R K' s:=by obtain ⟨hl,_,_,h⟩:=h;exact ⟨hl,_,_,h.sub hK⟩
theorem Wri.tail {x:Nat × Obj} (h:Wri w0 w R (x :: K) s):Wri w0 w R K s:=h.sub fun _=>List.mem_cons_of_mem _
theorem Wri.has (h:Wri w0 w R K s) {b:Nat} {o:Obj} (hx:(b,o) ∈ K):w.heap[b]? = some o:=by obtain ⟨_,_,_,h⟩:=h;exact (h.kp _ hx).1
theorem Wri.head {b:Nat} {o:Obj} (h:Wri w0 w R ((b,o) :: K) s):w.heap[b]? = some o:=h.has (List.mem_cons_self ..)
theorem Wri.below (h:Wri w0 w R K s):Below w0.heap.size w0 w:=by obtain ⟨_,_,_,h⟩:=h;exact h.below
theorem WAt.cells (h:WAt w0 w R K cv fv s):w.cell? ⟨R,0,none⟩=some cv/\w.cell? ⟨R,1,none⟩=some fv/\∀ j,w.frozen? ⟨R,j,none⟩=false:=
 ⟨by rw [Lib.cell_of_heap h.blk];rfl,by rw [Lib.cell_of_heap h.blk];rfl,fun j=>Lib.frozen_of_heap h.blk j⟩
theorem WAt.putC (h:WAt w0 w R K cv fv s) {i:Gi} {g cap:Nat} (ho:Onto w w' w0.heap.size 69 3 cv s.code.length g cap (gisV s.code++giV i)) :
 w'.cell? ⟨R,0,none⟩=some cv/\w'.frozen? ⟨R,0,none⟩=false/\WAt w0 (w'.setCell ⟨R,0,none⟩ (.slice (some ⟨g,0,none⟩) (s.code.length+1) cap)) R K (.slice (some ⟨g,0,none⟩) (s.code.length+1) cap) fv ⟨s.code++[i],s.fixes⟩:=by
 have hb:=ho.old R _ h.blk h.nc
 have hgR:g≠R:=fun e=>by
  rcases ho.at_ with h1 | h1
  . exact h.nc (by rw [h1,e])
  . have:=h.ltR;omega
 have hne:∀ b,b≠R->(w'.setCell ⟨R,0,none⟩ (.slice (some ⟨g,0,none⟩) (s.code.length+1) cap)).heap[b]? = w'.heap[b]?:=fun b hb=>heap_set_ne (p:=⟨R,0,none⟩) hb _
 refine ⟨by rw [Lib.cell_of_heap hb];rfl,Lib.frozen_of_heap hb 0,?_⟩
 exact {
  blk:=(heap_set hb _).trans rfl
  hR:=h.hR
  code:=by
   have:=ownsRow_keep (w':=w'.setCell ⟨R,0,none⟩ (.slice (some ⟨g,0,none⟩) (s.code.length+1) cap)) ho.own (fun k hk=>hne k (fun e=>by simp only [Value.ownBlock,Option.some.injEq] at hk;omega));rw [gisV_snoc,List.length_append];exact this
  fix:=ownsRow_keep h.fix (fun k hk=>by
   rw [hne k (fun e=>h.nf (by rw [hk,e]))];have hl:=(h.fix.lt k hk).2
   exact (ho.old k _ (by rw [Array.getElem?_eq_getElem hl]) (fun e=>h.apt k e hk)).trans (Array.getElem?_eq_getElem hl).symm)
  apt:=fun k h1 h2=>by
   simp only [Value.ownBlock,Option.some.injEq] at h1
   rcases ho.at_ with h3 | h3
   . exact h.apt k (by rw [h3,h1]) h2
   . have:=(h.fix.lt k h2).2;omega
  nc:=fun e=>hgR (by simpa [Value.ownBlock] using e)
  nf:=h.nf
  below:=(h.below.trans ho.below).setCell (p:=⟨R,0,none⟩) h.hR _
  kp:=fun x hx=>by
   obtain ⟨h1,h2,h3,h4⟩:=h.kp x hx;refine ⟨(hne _ h2).trans (ho.old _ _ h1 h3),h2,fun e=>?_,h4⟩;simp only [Value.ownBlock,Option.some.injEq] at e
   rcases ho.at_ with h5 | h5
   . exact h3 (by rw [h5,e])
   . have:=lt_of_heap h1;omega }
theorem WAt.putF (h:WAt w0 w R K cv fv s) {i:Gf} {g cap:Nat} (ho:Onto w w' w0.heap.size 67 3 fv s.fixes.length g cap (gfsV s.fixes++gfV i)) :
 w'.cell? ⟨R,1,none⟩=some fv/\w'.frozen? ⟨R,1,none⟩=false/\WAt w0 (w'.setCell ⟨R,1,none⟩ (.slice (some ⟨g,0,none⟩) (s.fixes.length+1) cap)) R K cv (.slice (some ⟨g,0,none⟩) (s.fixes.length+1) cap) ⟨s.code,s.fixes++[i]⟩:=by
 have hb:=ho.old R _ h.blk h.nf
 have hgR:g≠R:=fun e=>by
  rcases ho.at_ with h1 | h1
  . exact h.nf (by rw [h1,e])
  . have:=h.ltR;omega
 have hne:∀ b,b≠R->(w'.setCell ⟨R,1,none⟩ (.slice (some ⟨g,0,none⟩) (s.fixes.length+1) cap)).heap[b]? = w'.heap[b]?:=fun b hb=>heap_set_ne (p:=⟨R,1,none⟩) hb _
 refine ⟨by rw [Lib.cell_of_heap hb];rfl,Lib.frozen_of_heap hb 1,?_⟩
 exact {
  blk:=(heap_set hb _).trans rfl
  hR:=h.hR
  fix:=by
   have:=ownsRow_keep (w':=w'.setCell ⟨R,1,none⟩ (.slice (some ⟨g,0,none⟩) (s.fixes.length+1) cap)) ho.own (fun k hk=>hne k (fun e=>by simp only [Value.ownBlock,Option.some.injEq] at hk;omega));rw [gfsV_snoc,List.length_append];exact this
  code:=ownsRow_keep h.code (fun k hk=>by
   rw [hne k (fun e=>h.nc (by rw [hk,e]))];have hl:=(h.code.lt k hk).2
   exact (ho.old k _ (by rw [Array.getElem?_eq_getElem hl]) (fun e=>h.apt k hk e)).trans (Array.getElem?_eq_getElem hl).symm)
  apt:=fun k h2 h1=>by
   simp only [Value.ownBlock,Option.some.injEq] at h1
   rcases ho.at_ with h3 | h3
   . exact h.apt k h2 (by rw [h3,h1])
   . have:=(h.code.lt k h2).2;omega
  nf:=fun e=>hgR (by simpa [Value.ownBlock] using e)
  nc:=h.nc
  below:=(h.below.trans ho.below).setCell (p:=⟨R,1,none⟩) h.hR _
  kp:=fun x hx=>by
   obtain ⟨h1,h2,h3,h4⟩:=h.kp x hx;refine ⟨(hne _ h2).trans (ho.old _ _ h1 h4),h2,h3,fun e=>?_⟩;simp only [Value.ownBlock,Option.some.injEq] at e
   rcases ho.at_ with h5 | h5
   . exact h4 (by rw [h5,e])
   . have:=lt_of_heap h1;omega }
end
end Go.Proofs.YtndkhgakfodldaaGreatDoor

namespace Go.Proofs.YtndkhgakfodldaaGreatDoor
set_option maxRecDepth 100000
set_option maxHeartbeats 1600000
open Go.RowKit Go.Maps Go.WideMaps
set_option linter.unusedSimpArgs false
set_option linter.unusedVariables false
theorem Tryz.infoInstr:(Tryz.prog.info? 69).map (fun i=>(i.zero,i.size,i.bytes))=some (some (.agg #[.int .i64 0,.int .i64 0,.int .i64 0]),3,24):=by kernel_rfl
theorem Tryz.infoFix:(Tryz.prog.info? 67).map (fun i=>(i.zero,i.size,i.bytes))=some (some (.agg #[.int .i64 0,.int .i64 0,.int .i64 0]),3,24):=by kernel_rfl
theorem here_any {w0 w:World} {R:Nat} {K:List (Nat × Obj)} {s:Wrt} (h:Wri w0 w R K s) :
 Calls Tryz.prog 78 #[.pointer (some ⟨R,0,none⟩)] w fun e w'=>e = .returned (.int .i64 s.code.length)/\w'=w:=by
 obtain ⟨-,cv,fv,h⟩:=h;obtain ⟨a,cap,rfl, -, -⟩:=ownsRow_form h.code;obtain ⟨c0, -, -⟩:=h.cells;clear h;go_enter Tryz.func78,Tryz.ntmps78;go_wp2_with fail;go_ret;exact ⟨rfl,rfl⟩
theorem isFull_any {w0 w:World} {R:Nat} {K:List (Nat × Obj)} {s:Wrt} (h:Wri w0 w R K s) :
 Calls Tryz.prog 80 #[.pointer (some ⟨R,0,none⟩)] w fun e w'=>e = .returned (.bool (fullW s))/\w'=w:=by
 obtain ⟨-,cv,fv,h⟩:=h;obtain ⟨a,cap,rfl, -, -⟩:=ownsRow_form h.code;obtain ⟨c0, -, -⟩:=h.cells;clear h;go_enter Tryz.func80,Tryz.ntmps80;go_wp2_with fail;go_ret;exact ⟨ret_bool (by unfold fullW;exact decide_eq_decide.2 (by omega)),rfl⟩
theorem put_any {w0 w:World} {R:Nat} {K:List (Nat × Obj)} {s:Wrt} (op a b:Int) (h:Wri w0 w R K s) (hr:s.code.length<=1000000) :
 Calls Tryz.prog 129 #[.pointer (some ⟨R,0,none⟩),.int .i64 op,.int .i64 a,.int .i64 b] w fun e w'=>e = .returned (.tuple #[])/\Wri w0 w' R K (putW op a b s):=by
 obtain ⟨hl,cv,fv,h⟩:=h;obtain ⟨c0, -, -⟩:=h.cells;have HM:=hid h;obtain ⟨sa,sc,rfl, -, -⟩:=ownsRow_form h.code;clear h;go_enter Tryz.func129,Tryz.ntmps129
 go_wp2_with (at_builtin;refine append_w rfl (.tmp 12) (.tmp 17) 59 rfl w0.heap.size 69 _ 3 24 Tryz.underlying59 Tryz.infoInstr rfl (by decide) w (.slice sa s.code.length sc) s.code.length (gisV s.code) rfl HM.out.code #[.int .i64 op,.int .i64 a,.int .i64 b] _ rfl rfl rfl (gi_one ⟨op,a,b⟩) (by omega) (by decide) HM.out.hB _ rfl ?_;intro g cap w1 ho;obtain ⟨d0,d1,hW⟩:=HM.out.putC (i:=⟨op,a,b⟩) ho;have HW:=hid hW;clear ho hW)
 go_end0;exact ⟨rfl,by simp only [putW,List.length_append,List.length_cons,List.length_nil];omega,_,_,HW.out⟩
theorem en_here:Enters Tryz.prog 78:=enters_of Tryz.func78 (by kernel_rfl) rfl
theorem putFixed_any {w0 w:World} {R:Nat} {K:List (Nat × Obj)} {s:Wrt} (kind m op a b:Int) (h:Wri w0 w R K s) (hr:s.code.length<=1000000) :
 Calls Tryz.prog 270 #[.pointer (some ⟨R,0,none⟩),.int .i64 kind,.int .i64 m,.agg #[.int .i64 op,.int .i64 a,.int .i64 b]] w fun e w'=>e = .returned (.tuple #[])/\Wri w0 w' R K (fixW kind m ⟨op,a,b⟩ s):=by
 obtain ⟨hl,cv,fv,h⟩:=h;obtain ⟨fa,fc,rfl, -, -⟩:=ownsRow_form h.fix;obtain ⟨ca,cc,rfl, -, -⟩:=ownsRow_form h.code;have HK:=hid ((h.sub (K':=[]) (by simp)).box (.cells #[.int .i64 op,.int .i64 a,.int .i64 b] 69));have HM:=hid (h.box (.cells #[.int .i64 op,.int .i64 a,.int .i64 b] 69));obtain ⟨c0,c1,cf⟩:=HM.out.cells;have hRl:=HM.out.ltR;clear h;go_enter Tryz.func270,Tryz.ntmps270;go_upto_region 1 with fail;generalize hw1:w.alloc (.cells #[.int .i64 op,.int .i64 a,.int .i64 b] 69)=w1 at *;have HD:=hid HM.out.drew;have HE:=hid (fun (W:World) (hW:W=w1.drew)=>(by subst hW;exact (here_any (K:=(w.heap.size,.cells #[.int .i64 op,.int .i64 a,.int .i64 b] 69) :: K) (s:=s) ⟨hl,_,_,HD.out⟩).mono (fun e w' h=>⟨_,h.1,rfl,h.2⟩):Calls Tryz.prog 78 #[.pointer (some ⟨R,0,none⟩)] W fun e w'=>∃ u,e = .returned u/\(u = .int .i64 s.code.length/\w'=W)))
 have HC:=hid HD.out.cells.2.1;have HCa:=hid (fun o=>(HD.out.alloc o).cells.2.1)
 go_region_law
  (first
    | (refine step_callR (by rfl) 78 _ _ (by rfl) en_here _ (by rfl) (HE.out _ rfl) ?_;rintro u w2 ⟨rfl,rfl⟩)
    | (refine step_append_w rfl (.tmp 12) (.tmp 18) 60 rfl w0.heap.size 67 _ 3 24 Tryz.underlying60 Tryz.infoFix rfl (by decide) w1.drew (.slice fa s.fixes.length fc) s.fixes.length (gfsV s.fixes) rfl HD.out.fix #[.int .i64 s.code.length,.int .i64 kind,.int .i64 m] _ (by simp) rfl rfl (gf_one ⟨s.code.length,kind,m⟩) (by omega) (by decide) HD.out.hB _ rfl ?_;intro g cap w3 ho;obtain ⟨d0,d1,hW⟩:=HD.out.putF (i:=⟨s.code.length,kind,m⟩) ho;have HW:=hid hW;clear ho hW))
 all_goals
  generalize hw4:w3.setCell ⟨R,1,none⟩ (.slice (some ⟨g,0,none⟩) (s.fixes.length+1) cap)=w4 at *;clear d0 d1 c0 c1 cf hRl HE HC HCa;obtain ⟨c0,c1,cf⟩:=HW.out.cells;have hRl:=HW.out.ltR;have hk:=(HW.out.kp _ (List.mem_cons_self ..)).1;obtain ⟨x0,x1,x2, -⟩:=cellsOf3 hk;have hbl:=lt_of_heap hk;have HD4:=hid HW.out.drew;clear hk;go_wp2_with fail
  go_region_law (first
   | (refine step_append_w rfl (.tmp 26) (.tmp 28) 59 rfl w0.heap.size 69 _ 3 24 Tryz.underlying59 Tryz.infoInstr rfl (by decide) w4.drew (.slice ca s.code.length cc) s.code.length (gisV s.code) rfl HD4.out.code #[.int .i64 op,.int .i64 a,.int .i64 b] _ (by simp) rfl rfl (gi_one ⟨op,a,b⟩) (by omega) (by decide) HD4.out.hB _ rfl ?_;intro g5 cap5 w5 ho;obtain ⟨d0,d1,hW⟩:=HD4.out.putC (i:=⟨op,a,b⟩) ho;have HW5:=hid hW;clear ho hW))
  all_goals
   go_end0;exact ⟨rfl,by simp only [fixW,List.length_append,List.length_cons,List.length_nil];omega,_,_,HW5.out.sub (fun x hx=>List.mem_cons_of_mem _ hx)⟩
end Go.Proofs.YtndkhgakfodldaaGreatDoor

namespace Go.Proofs.YtndkhgakfodldaaGreatDoor
set_option maxRecDepth 100000
set_option maxHeartbeats 1600000
open Go.RowKit Go.Maps Go.WideMaps
set_option linter.unusedSimpArgs false
set_option linter.unusedVariables false
theorem jumpTo_any {w0 w:World} {R:Nat} {K:List (Nat × Obj)} {s:Wrt} (op t:Int) (h:Wri w0 w R K s) (hr:s.code.length<=1000000) :
 Calls Tryz.prog 275 #[.pointer (some ⟨R,0,none⟩),.int .i64 op,.int .i64 t] w fun e w'=>e = .returned (.tuple #[])/\Wri w0 w' R K (jmpW op t s):=by
 have HW:=hid h;clear h;go_enter Tryz.func275,Tryz.ntmps275;go_wp2_with fail;refine (putFixed_any 1 0 op t 0 HW.out hr).mono ?_;rintro e w1 ⟨rfl,h1⟩;have H1:=hid h1;clear h1;go_wp2_with fail;go_end0;exact ⟨rfl,H1.out⟩
def boxP (R:Nat):Obj:=.cells #[.pointer (some ⟨R,0,none⟩)] 134
def boxN (n:Nat):Obj:=.cells #[.int .i64 n] 3
theorem jump_any {w0 w:World} {R:Nat} {K:List (Nat × Obj)} {s:Wrt} (op:Int) (h:Wri w0 w R K s) (hr:s.code.length<=1000000) :
 Calls Tryz.prog 274 #[.pointer (some ⟨R,0,none⟩),.int .i64 op] w fun e w'=>e = .returned (.func (.func 291) #[] #[.pointer (some ⟨w.heap.size,0,none⟩),.pointer (some ⟨w.heap.size+1,0,none⟩)])/\Wri w0 w' R ((w.heap.size+1,boxN s.code.length) :: (w.heap.size,boxP R) :: K) (jmpW op 0 s):=by
 have HW:Hid (Wri w0 (w.alloc (.cells #[.pointer (some ⟨R,0,none⟩)] 134)) R ((w.heap.size,boxP R) :: K) s):=h.box (boxP R)
 have HW2:Hid (Wri w0 ((w.alloc (.cells #[.pointer (some ⟨R,0,none⟩)] 134)).alloc (.cells #[.int .i64 s.code.length] 3)) R ((w.heap.size+1,boxN s.code.length) :: (w.heap.size,boxP R) :: K) s):=by
  have:=(h.box (boxP R)).box (boxN s.code.length);rw [World.size_alloc] at this;exact this
 clear h;go_enter Tryz.func274,Tryz.ntmps274;go_wp2_with fail;refine (here_any HW.out).mono ?_;rintro e w1 ⟨rfl,rfl⟩;go_wp2_with fail;refine (jumpTo_any op 0 HW2.out hr).mono ?_;rintro e w1 ⟨rfl,h1⟩;have H1:=hid h1;clear h1;go_wp2_with fail;go_ret;exact ⟨rfl,H1.out⟩
theorem WAt.land {w0 w:World} {R:Nat} {K:List (Nat × Obj)} {s:Wrt} {g cap:Nat} {fv:Value} (h:WAt w0 w R K (.slice (some ⟨g,0,none⟩) s.code.length cap) fv s) (k:Nat) (hk:k<s.code.length) :
 w.cell? ⟨g,k*3+1,none⟩=some (.int .i64 s.code[k].a)/\w.frozen? ⟨g,k*3+1,none⟩=false/\WAt w0 (w.setCell ⟨g,k*3+1,none⟩ (.int .i64 s.code.length)) R K (.slice (some ⟨g,0,none⟩) s.code.length cap) fv (landW k s):=by
 have hc:=h.code.cells (g:=g) rfl _ _ (gisV_get s.code k hk);rw [show (⟨g,0,none⟩:Addr).add (k*3+1)=⟨g,k*3+1,none⟩ from by unfold Addr.add;split<;>simp_all] at hc;have hg0:w0.heap.size<=g:=(h.code.lt g rfl).1
 have hne:∀ b,b≠g->(w.setCell ⟨g,k*3+1,none⟩ (.int .i64 s.code.length)).heap[b]? = w.heap[b]?:=fun b hb=>heap_set_ne (p:=⟨g,k*3+1,none⟩) hb _
 have hgR:R≠g:=fun e=>h.nc (by rw [e];rfl)
 refine ⟨hc,?_,?_⟩
 . rcases h.code.2 with ⟨h1,_⟩ | ⟨g',cap',cur,hv,_,hg,_⟩
   . cases h1
   . cases hv;exact Lib.frozen_of_heap hg _
 . have hrow:=ownsRow_set h.code (k*3+1) (.int .i64 s.code.length) (by omega)
   rw [← gisV_set s.code k _ hk] at hrow
   exact {
    blk:=(hne R hgR).trans h.blk
    hR:=h.hR
    code:=by rw [landW_len];exact hrow
    fix:=ownsRow_keep h.fix (fun b hb=>hne b (fun e=>h.apt g rfl (by rw [hb,e])))
    apt:=h.apt
    nc:=h.nc
    nf:=h.nf
    below:=h.below.setCell (p:=⟨g,k*3+1,none⟩) hg0 _
    kp:=fun x hx=>by
     obtain ⟨h1,h2,h3,h4⟩:=h.kp x hx
     exact ⟨(hne _ (fun e=>h3 (by rw [e];rfl))).trans h1,h2,h3,h4⟩}
theorem land_any {w0 w:World} {R:Nat} {K:List (Nat × Obj)} {s:Wrt} {b k:Nat} (h:Wri w0 w R K s) (h1:(b,boxP R) ∈ K) (h2:(b+1,boxN k) ∈ K) (hk:k<s.code.length) (hr:s.code.length<=1000000) :
 Calls Tryz.prog 291 #[.pointer (some ⟨b,0,none⟩),.pointer (some ⟨b+1,0,none⟩)] w fun e w'=>e = .returned (.tuple #[])/\Wri w0 w' R K (landW k s):=by
 have HH:=hid (fun (W:World) (hW:Wri w0 W R K s)=>((here_any hW).mono (fun e w' h=>⟨_,h.1,rfl,h.2⟩):Calls Tryz.prog 78 #[.pointer (some ⟨R,0,none⟩)] W fun e w'=>∃ u,e = .returned u/\(u = .int .i64 s.code.length/\w'=W)));have HE:=hid (HH.out _ h.drew);obtain ⟨hl,cv,fv,h⟩:=h;obtain ⟨g,cap,rfl, -⟩:=h.code.form (by omega)
 have q1:w.cell? ⟨b,0,none⟩=some (.pointer (some ⟨R,0,none⟩)):=by rw [Lib.cell_of_heap (h.kp _ h1).1];rfl
 have q2:w.cell? ⟨b+1,0,none⟩=some (.int .i64 k):=by rw [Lib.cell_of_heap (h.kp _ h2).1];rfl
 obtain ⟨c0, -, -⟩:=h.cells;obtain ⟨y0,y1,hL0⟩:=h.land k hk;have hL:=hL0.drew;clear hL0
 have HC:Hid (w.drew.cell? ⟨b,0,none⟩=some (.pointer (some ⟨R,0,none⟩))/\w.drew.cell? ⟨b+1,0,none⟩=some (.int .i64 k)/\w.drew.cell? ⟨R,0,none⟩=some (.slice (some ⟨g,0,none⟩) s.code.length cap)):=⟨q1,q2,c0⟩
 have HCl:Hid ((w.setCell ⟨g,k*3+1,none⟩ (.int .i64 s.code.length)).drew.cell? ⟨b,0,none⟩=some (.pointer (some ⟨R,0,none⟩))/\(w.setCell ⟨g,k*3+1,none⟩ (.int .i64 s.code.length)).drew.cell? ⟨b+1,0,none⟩=some (.int .i64 k)/\(w.setCell ⟨g,k*3+1,none⟩ (.int .i64 s.code.length)).drew.cell? ⟨R,0,none⟩=some (.slice (some ⟨g,0,none⟩) s.code.length cap)):=
  ⟨by rw [Lib.cell_of_heap (hL.kp _ h1).1];rfl,by rw [Lib.cell_of_heap (hL.kp _ h2).1];rfl,hL.cells.1⟩
 have HL:=hid hL;clear h hL HH h1 h2;go_enter Tryz.func291,Tryz.ntmps291;go_upto_region 0 with fail
 go_region_held_law (fun W=>W.cell? ⟨b,0,none⟩=some (.pointer (some ⟨R,0,none⟩))/\W.cell? ⟨b+1,0,none⟩=some (.int .i64 k)/\W.cell? ⟨R,0,none⟩=some (.slice (some ⟨g,0,none⟩) s.code.length cap)) (first | with_reducible exact HC.out | with_reducible exact HCl.out)
  (first
    | (refine step_callR (by rfl) 78 _ _ (by rfl) en_here _ (by rfl) HE.out ?_;rintro u w2 ⟨rfl,rfl⟩))
 all_goals
  go_end0;exact ⟨rfl,by rw [landW_len];exact hl,_,_,HL.out⟩
end Go.Proofs.YtndkhgakfodldaaGreatDoor

namespace Go.Proofs.YtndkhgakfodldaaGreatDoor
set_option maxRecDepth 100000
set_option maxHeartbeats 1600000
open Go.RowKit Go.Maps Go.WideMaps
set_option linter.unusedSimpArgs false
set_option linter.unusedVariables false
def NdC (w0:World) (R k:Nat) (y:Nd):Prop:=∀ (A:Nat->Prop) (aa:Option Addr) (cp:Nat) (K:List (Nat × Obj)) (s:Wrt) (w:World),DAt w0 A aa y.args.length (ndsD y.args)->Wri w0 w R K s->(ndW k y s).code.length<=1000000->
 Calls Tryz.prog 216 #[.pointer (some ⟨R,0,none⟩),.agg #[.int .i64 y.op,.int .i64 y.n,.int .i64 y.m,.int .i64 y.at_,.slice aa y.args.length cp]] w fun e w'=>e = .returned (.tuple #[])/\Wri w0 w' R K (ndW k y s)
theorem wnodes_any {w0 w:World} {R k:Nat} {K:List (Nat × Obj)} {s:Wrt} {A:Nat->Prop} {l:List Nd} {a:Option Addr} {cap:Nat} (hN:∀ y ∈ l,NdC w0 R k y) (hD:DAt w0 A a l.length (ndsD l)) (h:Wri w0 w R K s) (hr:(ndsW (ndW k) l s).code.length<=1000000) :
 Calls Tryz.prog 273 #[.pointer (some ⟨R,0,none⟩),.slice a l.length cap] w fun e w'=>e = .returned (.tuple #[])/\Wri w0 w' R K (ndsW (ndW k) l s):=by
 have hbd:=hD.bound;have HD:=hid hD;have HW:=hid h;have HN:=hid hN;have HR:=hid (fun j=>Nat.le_trans (ndsW_le (ndW k) (ndW_mono k) l s j) hr);clear hD h hN hr;go_enter Tryz.func273,Tryz.ntmps273;go_wp2_with fail
 go_loopw [8] (fun i wr=>∃ j:Nat,j<=l.length/\i = .int .i64 j/\Wri w0 wr R K (ndsW (ndW k) (l.take j) s)) (fun i _=>l.length - (intOf i).toNat)
 case atStart=>exact ⟨0,Nat.zero_le _,rfl,HW.out⟩
 case round=>
  obtain ⟨j,hj,rfl,hw⟩:=hrel;have H1:=hid hw;clear hw
  by_cases hlt:j<l.length
  . obtain ⟨b,off,aa,cp,rfl,hx⟩:=(HD.out.later H1.out.below).nd j hlt
    obtain ⟨b',off',aa',cp',hb',hx'⟩:=HD.out.nd j hlt
    cases hb'
    obtain ⟨hbl,x0,x1,x2,x3,x4,_,_,_,_,_⟩:=hx;have e4:=(H1.out.below.cell (p:=⟨b,off+j*5+4,none⟩) hx'.lt).trans hx'.c4
    obtain ⟨rfl,rfl⟩:aa=aa'/\cp=cp':=by
     rw [x4] at e4;simp only [Option.some.injEq,Value.slice.injEq] at e4;exact ⟨e4.1,e4.2.2⟩
    have HA:=hid hx'.args';have HT:=hid (ndsW_take (ndW k) l s j hlt);have HR':=hid (HR.out (j+1));rw [HT.out] at HR';have HY:=hid (HN.out l[j] (List.getElem_mem hlt));clear e4 hx';generalize l[j]=x at *;go_wp2_with fail;refine (HY.out A aa cp K _ _ HA.out (H1.out.alloc _) HR'.out).mono ?_;rintro e w3 ⟨rfl,h3⟩;have H3:=hid h3;clear h3;go_wp2_with fail;go_roundw
    case rel=>exact ⟨j+1,by omega,by go_num,by rw [HT.out];exact H3.out⟩
    case measure=>simp [intOf];omega
  . obtain rfl:j=l.length:=by omega
    rw [List.take_length] at H1;go_wp2_with fail;go_end0;exact ⟨rfl,H1.out⟩
theorem windex_any {w0 w:World} {R k:Nat} {K:List (Nat × Obj)} {s:Wrt} {A:Nat->Prop} {y:Nd} {aa:Option Addr} {cp:Nat} (n m at_:Int) (hN:NdC w0 R k y) (hD:DAt w0 A aa y.args.length (ndsD y.args)) (h:Wri w0 w R K s) (hr:(ndW k y s).code.length<=1000000) :
 Calls Tryz.prog 215 #[.pointer (some ⟨R,0,none⟩),.int .i64 n,.int .i64 m,.int .i64 at_,.agg #[.int .i64 y.op,.int .i64 y.n,.int .i64 y.m,.int .i64 y.at_,.slice aa y.args.length cp]] w fun e w'=>e = .returned (.tuple #[])/\Wri w0 w' R K (idxW (ndW k y) n m at_ s):=by
 have HW:=hid h;have HC:=hid (fun (o:Obj)=>hN A aa cp K s _ hD (h.alloc o) hr);clear h hN hD;go_enter Tryz.func215,Tryz.ntmps215;go_wp2_with fail;refine (HC.out _).mono ?_;rintro e w1 ⟨rfl,h1⟩;have H1:=hid h1;clear h1;go_wp2_with fail;refine (putFixed_any 3 m 6 at_ n H1.out hr).mono ?_;rintro e w2 ⟨rfl,h2⟩;have H2:=hid h2;clear h2;go_wp2_with fail;go_end0;exact ⟨rfl,H2.out⟩
theorem wcall_any {w0 w:World} {R k:Nat} {K:List (Nat × Obj)} {s:Wrt} {A:Nat->Prop} {l:List Nd} {a:Option Addr} {cap:Nat} (m at_:Int) (hN:∀ y ∈ l,NdC w0 R k y) (hD:DAt w0 A a l.length (ndsD l)) (h:Wri w0 w R K s) (hr:(ndsW (ndW k) l s).code.length<=1000000) :
 Calls Tryz.prog 217 #[.pointer (some ⟨R,0,none⟩),.int .i64 m,.int .i64 at_,.slice a l.length cap] w fun e w'=>e = .returned (.tuple #[])/\Wri w0 w' R K (callW (ndsW (ndW k) l) m at_ s):=by
 have HC:=hid (wnodes_any (cap:=cap) hN hD h hr);clear h hN hD;go_enter Tryz.func217,Tryz.ntmps217;go_wp2_with fail;refine HC.out.mono ?_;rintro e w1 ⟨rfl,h1⟩;have H1:=hid h1;clear h1;go_wp2_with fail;refine (putFixed_any 2 m 13 at_ 0 H1.out hr).mono ?_;rintro e w2 ⟨rfl,h2⟩;have H2:=hid h2;clear h2;go_wp2_with fail;go_end0;exact ⟨rfl,H2.out⟩
end Go.Proofs.YtndkhgakfodldaaGreatDoor
