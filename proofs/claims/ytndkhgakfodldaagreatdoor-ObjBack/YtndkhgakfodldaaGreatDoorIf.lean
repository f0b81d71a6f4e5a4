/-
  The program's reader: an object.
-/
import Derived.Test.YtndkhgakfodldaaGreatDoorUt
import Derived.Test.YtndkhgakfodldaaGreatDoorJc
namespace Go.Proofs.YtndkhgakfodldaaGreatDoor
set_option maxRecDepth 100000
set_option maxHeartbeats 12800000
open Go.RowKit Go.Shelf
set_option linter.unusedSimpArgs false
set_option linter.unusedVariables false
theorem wf64_of {n:Int} (h : -9223372036854775808<=n/\n<=9223372036854775807):(Lit.int .i64 n).wf=true:=by
 have h1:IntKind.i64.min = -9223372036854775808:=by decide
 have h2:IntKind.i64.max=9223372036854775807:=by decide
 simp [Lit.wf,h1,h2];omega
def W64 (n:Int):Prop:=(Lit.int .i64 n).wf=true
theorem gis_valw {W:World} {A:Nat->Prop}:∀ (l:List Gi),(∀ i ∈ l,W64 i.op/\W64 i.a/\W64 i.b)->DVals W A (gisD l) (gisV l)
 | [],_=>DVals.nil
 | i :: r,h=>by
   have h1:=h i (List.mem_cons_self ..);simp only [gisD,gisV,List.flatMap_cons];exact DVals.append (.cons (dint h1.1) (.cons (dint h1.2.1) (.cons (dint h1.2.2) .nil))) (gis_valw r (fun j hj=>h j (List.mem_cons_of_mem _ hj)))
theorem gfs_valw {W:World} {A:Nat->Prop}:∀ (l:List Gf),(∀ i ∈ l,W64 i.at_/\W64 i.kind/\W64 i.m)->DVals W A (gfsD l) (gfsV l)
 | [],_=>DVals.nil
 | i :: r,h=>by
   have h1:=h i (List.mem_cons_self ..);simp only [gfsD,gfsV,List.flatMap_cons];exact DVals.append (.cons (dint h1.1) (.cons (dint h1.2.1) (.cons (dint h1.2.2) .nil))) (gfs_valw r (fun j hj=>h j (List.mem_cons_of_mem _ hj)))
theorem ints_valw {W:World} {A:Nat->Prop}:∀ (l:List Int),(∀ i ∈ l,W64 i)->DVals W A (intD l) (intV l)
 | [],_=>DVals.nil
 | i :: r,h=>.cons (dint (h i (List.mem_cons_self ..))) (ints_valw r (fun j hj=>h j (List.mem_cons_of_mem _ hj)))
theorem strs_valw {W:World} {A:Nat->Prop}:∀ (l:List ByteArray),(∀ s ∈ l,s.size<=maxLen)->DVals W A (strsD l) (strV l)
 | [],_=>DVals.nil
 | i :: r,h=>.cons (dstr (h i (List.mem_cons_self ..))) (strs_valw r (fun j hj=>h j (List.mem_cons_of_mem _ hj)))
theorem dat_rowA {W:World} {base lo:Nat} {t:TypeId} {sz:Nat} {a:Option Addr} {n cap:Nat} {xs:List Value} {ds:List D} (h:W.ownsRow base t sz (.slice a n cap) n xs) (hlo:lo<=base) (hx:DVals W (lo<=·) ds xs) (h1:n<=ds.length) (h2:ds.length<=17592186044416):DAt W (lo<=·) a n ds:=by
 refine ⟨h1,h2,?_⟩
 rcases h.2 with ⟨e,h0⟩ | ⟨g,cap',cur,e,hB,hg,_⟩
 . exact Or.inl h0
 . cases e
   refine Or.inr ⟨g,0,xs,rfl,Nat.le_trans hlo hB,lt_of_heap hg,fun j u hj=>?_,hx⟩;have:=h.cells (g:=g) rfl j u hj;rw [show (⟨g,0,none⟩:Addr).add j=⟨g,j,none⟩ from by unfold Addr.add;split<;>simp_all] at this
   rw [Nat.zero_add];exact this
structure OvLo (w:World) (lo:Nat) (o:Ob) (x1:Option Addr) (x3:Option Addr) (x4:Option Addr) (x5:Option Addr):Prop where
 wn:o.name.size<=maxLen
 uses:DAt w (lo<=·) x1 o.uses.length (strsD o.uses)
 wd:(Lit.int .i64 o.data).wf=true
 code:DAt w (lo<=·) x3 o.code.length (gisD o.code)
 fixes:DAt w (lo<=·) x4 o.fixes.length (gfsD o.fixes)
 entries:DAt w (lo<=·) x5 o.entries.length (intD o.entries)
 wm:(Lit.int .i64 o.main).wf=true
theorem OvLo.moves {w w':World} {lo lo':Nat} {o:Ob} {x1 x3 x4 x5:Option Addr} (h:OvLo w lo o x1 x3 x4 x5) (m:Moves w (lo<=·) w' (lo'<=·)):OvLo w' lo' o x1 x3 x4 x5:=
 ⟨h.wn,h.uses.moves m,h.wd,h.code.moves m,h.fixes.moves m,h.entries.moves m,h.wm⟩
theorem OvLo.ov {w:World} {lo:Nat} {o:Ob} {x1 x3 x4 x5:Option Addr} (h:OvLo w lo o x1 x3 x4 x5):OvAt w o x1 x3 x4 x5:=
 have m:Moves w (lo<=·) w Tt:=⟨Nat.le_refl _,fun b hb _=>⟨trivial,rfl⟩⟩
 ⟨h.wn,h.uses.moves m,h.wd,h.code.moves m,h.fixes.moves m,h.entries.moves m,h.wm⟩
theorem pMany_all {α:Type} {p:List UInt8->Option (α × List UInt8)} {Q:α->Prop} (hQ:∀ l x r,p l=some (x,r)->Q x/\r.length+1<=l.length):∀ (n:Nat) (l:List UInt8) (xs:List α) (r:List UInt8),pMany p n l=some (xs,r)->(∀ x ∈ xs,Q x)/\xs.length+r.length<=l.length
 | 0,l,xs,r,h=>by
   cases h;exact ⟨fun x hx=>(by cases hx),by simp⟩
 | n + 1,l,xs,r,h=>by
   unfold pMany at h
   cases h1:p l with
   | none=>rw [h1] at h;cases h
   | some a=>
     rw [h1] at h
     cases h2:pMany p n a.2 with
     | none=>simp [h2] at h
     | some b=>
       simp [h2] at h;obtain ⟨q1,q2⟩:=hQ l a.1 a.2 h1;obtain ⟨q3,q4⟩:=pMany_all hQ n a.2 b.1 b.2 h2;rw [← h.1,← h.2];refine ⟨fun x hx=>?_,by rw [List.length_cons];omega⟩
       rcases List.mem_cons.1 hx with rfl | hx
       . exact q1
       . exact q3 x hx
theorem pLst_all {α:Type} {p:List UInt8->Option (α × List UInt8)} {Q:α->Prop} (hQ:∀ l x r,p l=some (x,r)->Q x/\r.length+1<=l.length) {l r:List UInt8} {xs:List α} (h:pLst p l=some (xs,r)):(∀ x ∈ xs,Q x)/\xs.length+r.length<=l.length:=by
 unfold pLst at h
 cases h1:pCnt l with
 | none=>rw [h1] at h;cases h
 | some q=>
   rw [h1] at h;have h2:=pMany_all hQ q.1 q.2 xs r h;have h3:=(cnt_left (n:=q.1) (r:=q.2) h1).1;exact ⟨h2.1,by omega⟩
theorem tx_all (l:List UInt8) (x:ByteArray) (r:List UInt8) (h:pTx l=some (x,r)):x.size<=255/\r.length+1<=l.length:=by
 refine ⟨?_,tx_left h⟩;unfold pTx at h
 cases hq:Fx.pText l with
 | none=>rw [hq] at h;cases h
 | some q=>
   rw [hq] at h;cases h;rw [Fx.strOf_size];unfold Fx.pText at hq
   cases hb:Fx.pByte l with
   | none=>rw [hb] at hq;cases hq
   | some z=>
     rw [hb] at hq;have h1:=Fx.pByte_lo (n:=z.1) (r:=z.2) hb;have h2:=(Fx.pTake_len (n:=z.1.toNat) (l:=z.2) (x:=q.1) (r:=q.2) hq).1;omega
theorem num_all (l:List UInt8) (x:Int) (r:List UInt8) (h:Fx.pNum l=some (x,r)):W64 x/\r.length+1<=l.length:=⟨wf64_of (numL_fit h),by have:=num_left h;omega⟩
theorem byte_wf {l r:List UInt8} {x:Int} (h:Fx.pByte l=some (x,r)):W64 x:=wf64_of (by have:=Fx.pByte_lo h;omega)
theorem instr_all (l:List UInt8) (x:Gi) (r:List UInt8) (h:pInstr l=some (x,r)):(W64 x.op/\W64 x.a/\W64 x.b)/\r.length+1<=l.length:=by
 refine ⟨?_,instr_left h⟩;unfold pInstr at h
 cases h1:Fx.pByte l with
 | none=>rw [h1] at h;cases h
 | some a=>
   rw [h1] at h
   cases h2:Fx.pNum a.2 with
   | none=>simp [h2] at h
   | some b=>
     cases h3:Fx.pNum b.2 with
     | none=>simp [h2,h3] at h
     | some c=>
       simp [h2,h3] at h;rw [← h.1];exact ⟨byte_wf (x:=a.1) (r:=a.2) h1,(num_all _ b.1 b.2 h2).1,(num_all _ c.1 c.2 h3).1⟩
theorem fix_all (l:List UInt8) (x:Gf) (r:List UInt8) (h:pFixy l=some (x,r)):(W64 x.at_/\W64 x.kind/\W64 x.m)/\r.length+1<=l.length:=by
 refine ⟨?_,fix_left h⟩;unfold pFixy at h
 cases h1:Fx.pNum l with
 | none=>rw [h1] at h;cases h
 | some a=>
   rw [h1] at h
   cases h2:Fx.pByte a.2 with
   | none=>simp [h2] at h
   | some b=>
     cases h3:Fx.pNum b.2 with
     | none=>simp [h2,h3] at h
     | some c=>
       simp [h2,h3] at h;rw [← h.1];exact ⟨(num_all _ a.1 a.2 h1).1,byte_wf (x:=b.1) (r:=b.2) h2,(num_all _ c.1 c.2 h3).1⟩
def pObj (l:List UInt8):Option (Ob × List UInt8):=(pTx l).bind fun a=>(pLst pTx a.2).bind fun b=>(Fx.pNum b.2).bind fun c=>(pLst pInstr c.2).bind fun d=>(pLst pFixy d.2).bind fun e=>(pLst Fx.pNum e.2).bind fun f=>(Fx.pNum f.2).map fun g=>(⟨a.1,b.1,c.1,d.1,e.1,f.1,g.1⟩,g.2)
def isOb (lo:Nat) (W:World) (o:Ob) (v:Value):Prop:=∃ x1 y1 x3 y3 x4 y4 x5 y5,v = .agg #[.string o.name,.slice x1 o.uses.length y1,.int .i64 o.data,.slice x3 o.code.length y3,.slice x4 o.fixes.length y4,.slice x5 o.entries.length y5,.int .i64 o.main]/\OvLo W lo o x1 x3 x4 x5/\o.uses.length<=y1
theorem own_put {W:World} {B:Nat} {e:TypeId} {size:Nat} {v:Value} {n:Nat} {xs:List Value} (h:W.ownsRow B e size v n xs) {a:Addr} {u:Value} (ha:a.block<B):(W.setCell a u).ownsRow B e size v n xs:=
 ownsRow_keep h (fun k hk=>heap_set_ne (by have:=(h.lt k hk).1;omega) u)
theorem own_lo {W:World} {B B':Nat} {e:TypeId} {sz:Nat} {v:Value} {n:Nat} {xs:List Value} (h:W.ownsRow B e sz v n xs) (hb:B'<=B):W.ownsRow B' e sz v n xs:=ownsRow_lower h hb
theorem fin7 {W:World} {B b:Nat} {e:TypeId} {sz:Nat} {v:Value} {n:Nat} {xs:List Value} (h:W.ownsRow B e sz v n xs) (v0 v1 v2 v3 v4 v5 v6:Value) (hb:b<B) :
 (((((((W.setCell ⟨b,0,none⟩ v0).setCell ⟨b,1,none⟩ v1).setCell ⟨b,2,none⟩ v2).setCell ⟨b,3,none⟩ v3).setCell ⟨b,4,none⟩ v4).setCell ⟨b,5,none⟩ v5).setCell ⟨b,6,none⟩ v6).ownsRow B e sz v n xs:=
 own_put (own_put (own_put (own_put (own_put (own_put (own_put h (a:=⟨b,0,none⟩) hb) (a:=⟨b,1,none⟩) hb) (a:=⟨b,2,none⟩) hb) (a:=⟨b,3,none⟩) hb) (a:=⟨b,4,none⟩) hb) (a:=⟨b,5,none⟩) hb) (a:=⟨b,6,none⟩) hb
theorem rdObj (rb:Nat) (l0:List UInt8) (w:World) (h:Fx.Rdr w rb l0) (hl:l0.length<=1000000):Calls Tryz.prog 96 #[.pointer (some ⟨rb,0,none⟩)] w fun e w'=>Rdd rb w (pObj l0) (isOb w.heap.size) e w':=by
 have hlt:=h.lt
 have hn0:w.heap.size≠rb:=by omega
 have hn1:w.heap.size+1≠rb:=by omega
 have hb0:=bl2 w (.cells #[.string ⟨#[]⟩,.slice none 0 0,.int .i64 0,.slice none 0 0,.slice none 0 0,.slice none 0 0,.int .i64 0] 62) (.cells #[.string ⟨#[]⟩,.slice none 0 0,.int .i64 0,.slice none 0 0,.slice none 0 0,.slice none 0 0,.int .i64 0] 62);have P0:Hid (pObj l0=(pTx l0).bind fun a=>(pLst pTx a.2).bind fun b=>(Fx.pNum b.2).bind fun c=>(pLst pInstr c.2).bind fun d=>(pLst pFixy d.2).bind fun e=>(pLst Fx.pNum e.2).bind fun f=>(Fx.pNum f.2).map fun g=>(⟨a.1,b.1,c.1,d.1,e.1,f.1,g.1⟩,g.2)):=rfl;have HX0:=hid (heap_old (o:=.cells #[.string ⟨#[]⟩,.slice none 0 0,.int .i64 0,.slice none 0 0,.slice none 0 0,.slice none 0 0,.int .i64 0] 62) (heap_newP w (.cells #[.string ⟨#[]⟩,.slice none 0 0,.int .i64 0,.slice none 0 0,.slice none 0 0,.slice none 0 0,.int .i64 0] 62)));have HI0:=hid (new_1 w (.cells #[.string ⟨#[]⟩,.slice none 0 0,.int .i64 0,.slice none 0 0,.slice none 0 0,.slice none 0 0,.int .i64 0] 62) (.cells #[.string ⟨#[]⟩,.slice none 0 0,.int .i64 0,.slice none 0 0,.slice none 0 0,.slice none 0 0,.int .i64 0] 62))
 have HR0:=hid (h.below hb0);have HG0:Hid (w.grownBy ((w.alloc (.cells #[.string ⟨#[]⟩,.slice none 0 0,.int .i64 0,.slice none 0 0,.slice none 0 0,.slice none 0 0,.int .i64 0] 62)).alloc (.cells #[.string ⟨#[]⟩,.slice none 0 0,.int .i64 0,.slice none 0 0,.slice none 0 0,.slice none 0 0,.int .i64 0] 62)) (some rb)):=grown_after hb0 (Fx.grown_refl _ _);clear h hb0;go_enter Tryz.func96,Tryz.ntmps96;go_wp2_with fail;refine (rdText rb l0 _ HR0.out (by omega)).mono ?_;rintro e w1 ⟨hg,⟨hp,c,hc,rfl⟩ | ⟨z0,l1,v0,hp,rfl,hv,hr⟩⟩
 . exact ⟨rfl,Fx.grown_trans HG0.out hg,Or.inl ⟨by rw [P0.out,hp];rfl,c,hc,rfl⟩⟩
 obtain rfl:v0 = .string z0:=hv;have A0:=hid (tx_all _ _ _ hp)
 have P1:Hid (pObj l0=(pLst pTx l1).bind fun b=>(Fx.pNum b.2).bind fun c=>(pLst pInstr c.2).bind fun d=>(pLst pFixy d.2).bind fun e=>(pLst Fx.pNum e.2).bind fun f=>(Fx.pNum f.2).map fun g=>(⟨z0,b.1,c.1,d.1,e.1,f.1,g.1⟩,g.2)):=by show _=_;rw [P0.out,hp];rfl
 have hln1:l1.length<=1000000:=by have:=A0.out.2;omega
 have HXa:Hid (w1.heap[w.heap.size]? = some (.cells #[.string ⟨#[]⟩,.slice none 0 0,.int .i64 0,.slice none 0 0,.slice none 0 0,.slice none 0 0,.int .i64 0] 62)):=gk hg HX0.out hn0;have HIa:Hid (w1.heap[w.heap.size+1]? = some (.cells #[.string ⟨#[]⟩,.slice none 0 0,.int .i64 0,.slice none 0 0,.slice none 0 0,.slice none 0 0,.int .i64 0] 62)):=gk hg HI0.out hn1;have HGa:=hid (Fx.grown_trans HG0.out hg);have HX1:Hid ((w1.setCell ⟨w.heap.size+1,0,none⟩ (.string z0)).heap[w.heap.size]? = some (.cells #[.string ⟨#[]⟩,.slice none 0 0,.int .i64 0,.slice none 0 0,.slice none 0 0,.slice none 0 0,.int .i64 0] 62)):=(heap_set_ne (p:=⟨w.heap.size+1,0,none⟩) (by show w.heap.size≠w.heap.size+1;omega) _).trans HXa.out;have HI1:Hid ((w1.setCell ⟨w.heap.size+1,0,none⟩ (.string z0)).heap[w.heap.size+1]? = some (.cells #[.string z0,.slice none 0 0,.int .i64 0,.slice none 0 0,.slice none 0 0,.slice none 0 0,.int .i64 0] 62)):=heap_set HIa.out _
 have HR1:Hid (Fx.Rdr (w1.setCell ⟨w.heap.size+1,0,none⟩ (.string z0)) rb l1):=rdr_put hr hn1;have HG1:Hid (w.grownBy (w1.setCell ⟨w.heap.size+1,0,none⟩ (.string z0)) (some rb)):=grown_put HGa.out (by show w.heap.size<=w.heap.size+1;omega);obtain ⟨i0,i1,i2,i3,i4,i5,i6,iz⟩:=cells7 HIa.out
 have ifz:∀ j,w1.frozen? ⟨w.heap.size+1,j,none⟩=false:=fun j=>Lib.frozen_of_heap HIa.out j
 clear hg hr hp HXa HIa HGa HX0 HI0 HR0 HG0 P0;go_wp2_with fail;clear i0 i1 i2 i3 i4 i5 i6 iz ifz;refine (rdTexts rb l1 _ HR1.out (by omega)).mono ?_;rintro e w2 ⟨hg,⟨hp,c,hc,rfl⟩ | ⟨z1,l2,v1,hp,rfl,hv,hr⟩⟩
 . exact ⟨rfl,Fx.grown_trans HG1.out hg,Or.inl ⟨by rw [P1.out,hp];rfl,c,hc,rfl⟩⟩
 obtain ⟨x1,y1,rfl,hcap1, -⟩:=ownsRow_form hv;have K1:=hid (own_lo (B':=w.heap.size+2) hv (by have:=HG1.out.size;have:=lt_of_heap HI1.out;omega));have C1:=hid hcap1;clear hcap1;have A1:=hid (pLst_all tx_all hp)
 have P2:Hid (pObj l0=(Fx.pNum l2).bind fun c=>(pLst pInstr c.2).bind fun d=>(pLst pFixy d.2).bind fun e=>(pLst Fx.pNum e.2).bind fun f=>(Fx.pNum f.2).map fun g=>(⟨z0,z1,c.1,d.1,e.1,f.1,g.1⟩,g.2)):=by show _=_;rw [P1.out,hp];rfl
 have hln2:l2.length<=1000000:=by have:=A1.out.2;omega
 have HXa:Hid (w2.heap[w.heap.size]? = some (.cells #[.string ⟨#[]⟩,.slice none 0 0,.int .i64 0,.slice none 0 0,.slice none 0 0,.slice none 0 0,.int .i64 0] 62)):=gk hg HX1.out hn0;have HIa:Hid (w2.heap[w.heap.size+1]? = some (.cells #[.string z0,.slice none 0 0,.int .i64 0,.slice none 0 0,.slice none 0 0,.slice none 0 0,.int .i64 0] 62)):=gk hg HI1.out hn1;have HGa:=hid (Fx.grown_trans HG1.out hg);have HX2:Hid ((w2.setCell ⟨w.heap.size+1,1,none⟩ (.slice x1 z1.length y1)).heap[w.heap.size]? = some (.cells #[.string ⟨#[]⟩,.slice none 0 0,.int .i64 0,.slice none 0 0,.slice none 0 0,.slice none 0 0,.int .i64 0] 62)):=(heap_set_ne (p:=⟨w.heap.size+1,1,none⟩) (by show w.heap.size≠w.heap.size+1;omega) _).trans HXa.out;have HI2:Hid ((w2.setCell ⟨w.heap.size+1,1,none⟩ (.slice x1 z1.length y1)).heap[w.heap.size+1]? = some (.cells #[.string z0,.slice x1 z1.length y1,.int .i64 0,.slice none 0 0,.slice none 0 0,.slice none 0 0,.int .i64 0] 62)):=heap_set HIa.out _
 have HR2:Hid (Fx.Rdr (w2.setCell ⟨w.heap.size+1,1,none⟩ (.slice x1 z1.length y1)) rb l2):=rdr_put hr hn1;have HG2:Hid (w.grownBy (w2.setCell ⟨w.heap.size+1,1,none⟩ (.slice x1 z1.length y1)) (some rb)):=grown_put HGa.out (by show w.heap.size<=w.heap.size+1;omega);have K1:=hid (own_put K1.out (a:=⟨w.heap.size+1,1,none⟩) (u:=.slice x1 z1.length y1) (by show w.heap.size+1<w.heap.size+2;omega));obtain ⟨i0,i1,i2,i3,i4,i5,i6,iz⟩:=cells7 HIa.out
 have ifz:∀ j,w2.frozen? ⟨w.heap.size+1,j,none⟩=false:=fun j=>Lib.frozen_of_heap HIa.out j
 clear hg hr hp hv HXa HIa HGa HX1 HI1 HR1 HG1 P1;go_wp2_with fail;clear i0 i1 i2 i3 i4 i5 i6 iz ifz;refine (rdNum rb l2 _ HR2.out (by omega)).mono ?_;rintro e w3 ⟨hg,⟨hp,c,hc,rfl⟩ | ⟨z2,l3,v2,hp,rfl,hv,hr⟩⟩
 . exact ⟨rfl,Fx.grown_trans HG2.out hg,Or.inl ⟨by rw [P2.out,hp];rfl,c,hc,rfl⟩⟩
 obtain rfl:v2 = .int .i64 z2:=hv;have A2:=hid (num_all _ _ _ hp)
 have P3:Hid (pObj l0=(pLst pInstr l3).bind fun d=>(pLst pFixy d.2).bind fun e=>(pLst Fx.pNum e.2).bind fun f=>(Fx.pNum f.2).map fun g=>(⟨z0,z1,z2,d.1,e.1,f.1,g.1⟩,g.2)):=by show _=_;rw [P2.out,hp];rfl
 have hln3:l3.length<=1000000:=by have:=A2.out.2;omega
 have HXa:Hid (w3.heap[w.heap.size]? = some (.cells #[.string ⟨#[]⟩,.slice none 0 0,.int .i64 0,.slice none 0 0,.slice none 0 0,.slice none 0 0,.int .i64 0] 62)):=gk hg HX2.out hn0;have HIa:Hid (w3.heap[w.heap.size+1]? = some (.cells #[.string z0,.slice x1 z1.length y1,.int .i64 0,.slice none 0 0,.slice none 0 0,.slice none 0 0,.int .i64 0] 62)):=gk hg HI2.out hn1;have HGa:=hid (Fx.grown_trans HG2.out hg);have K1:=hid (own_kept K1.out hg (by omega));have HX3:Hid ((w3.setCell ⟨w.heap.size+1,2,none⟩ (.int .i64 z2)).heap[w.heap.size]? = some (.cells #[.string ⟨#[]⟩,.slice none 0 0,.int .i64 0,.slice none 0 0,.slice none 0 0,.slice none 0 0,.int .i64 0] 62)):=(heap_set_ne (p:=⟨w.heap.size+1,2,none⟩) (by show w.heap.size≠w.heap.size+1;omega) _).trans HXa.out;have HI3:Hid ((w3.setCell ⟨w.heap.size+1,2,none⟩ (.int .i64 z2)).heap[w.heap.size+1]? = some (.cells #[.string z0,.slice x1 z1.length y1,.int .i64 z2,.slice none 0 0,.slice none 0 0,.slice none 0 0,.int .i64 0] 62)):=heap_set HIa.out _
 have HR3:Hid (Fx.Rdr (w3.setCell ⟨w.heap.size+1,2,none⟩ (.int .i64 z2)) rb l3):=rdr_put hr hn1;have HG3:Hid (w.grownBy (w3.setCell ⟨w.heap.size+1,2,none⟩ (.int .i64 z2)) (some rb)):=grown_put HGa.out (by show w.heap.size<=w.heap.size+1;omega);have K1:=hid (own_put K1.out (a:=⟨w.heap.size+1,2,none⟩) (u:=.int .i64 z2) (by show w.heap.size+1<w.heap.size+2;omega));obtain ⟨i0,i1,i2,i3,i4,i5,i6,iz⟩:=cells7 HIa.out
 have ifz:∀ j,w3.frozen? ⟨w.heap.size+1,j,none⟩=false:=fun j=>Lib.frozen_of_heap HIa.out j
 clear hg hr hp HXa HIa HGa HX2 HI2 HR2 HG2 P2;go_wp2_with fail;clear i0 i1 i2 i3 i4 i5 i6 iz ifz;refine (rdInstrs rb l3 _ HR3.out (by omega)).mono ?_;rintro e w4 ⟨hg,⟨hp,c,hc,rfl⟩ | ⟨z3,l4,v3,hp,rfl,hv,hr⟩⟩
 . exact ⟨rfl,Fx.grown_trans HG3.out hg,Or.inl ⟨by rw [P3.out,hp];rfl,c,hc,rfl⟩⟩
 obtain ⟨x3,y3,rfl,hcap3, -⟩:=ownsRow_form hv;have K3:=hid (own_lo (B':=w.heap.size+2) hv (by have:=HG3.out.size;have:=lt_of_heap HI3.out;omega));have C3:=hid hcap3;clear hcap3;have A3:=hid (pLst_all instr_all hp)
 have P4:Hid (pObj l0=(pLst pFixy l4).bind fun e=>(pLst Fx.pNum e.2).bind fun f=>(Fx.pNum f.2).map fun g=>(⟨z0,z1,z2,z3,e.1,f.1,g.1⟩,g.2)):=by show _=_;rw [P3.out,hp];rfl
 have hln4:l4.length<=1000000:=by have:=A3.out.2;omega
 have HXa:Hid (w4.heap[w.heap.size]? = some (.cells #[.string ⟨#[]⟩,.slice none 0 0,.int .i64 0,.slice none 0 0,.slice none 0 0,.slice none 0 0,.int .i64 0] 62)):=gk hg HX3.out hn0;have HIa:Hid (w4.heap[w.heap.size+1]? = some (.cells #[.string z0,.slice x1 z1.length y1,.int .i64 z2,.slice none 0 0,.slice none 0 0,.slice none 0 0,.int .i64 0] 62)):=gk hg HI3.out hn1;have HGa:=hid (Fx.grown_trans HG3.out hg);have K1:=hid (own_kept K1.out hg (by omega));have HX4:Hid ((w4.setCell ⟨w.heap.size+1,3,none⟩ (.slice x3 z3.length y3)).heap[w.heap.size]? = some (.cells #[.string ⟨#[]⟩,.slice none 0 0,.int .i64 0,.slice none 0 0,.slice none 0 0,.slice none 0 0,.int .i64 0] 62)):=(heap_set_ne (p:=⟨w.heap.size+1,3,none⟩) (by show w.heap.size≠w.heap.size+1;omega) _).trans HXa.out;have HI4:Hid ((w4.setCell ⟨w.heap.size+1,3,none⟩ (.slice x3 z3.length y3)).heap[w.heap.size+1]? = some (.cells #[.string z0,.slice x1 z1.length y1,.int .i64 z2,.slice x3 z3.length y3,.slice none 0 0,.slice none 0 0,.int .i64 0] 62)):=heap_set HIa.out _
 have HR4:Hid (Fx.Rdr (w4.setCell ⟨w.heap.size+1,3,none⟩ (.slice x3 z3.length y3)) rb l4):=rdr_put hr hn1;have HG4:Hid (w.grownBy (w4.setCell ⟨w.heap.size+1,3,none⟩ (.slice x3 z3.length y3)) (some rb)):=grown_put HGa.out (by show w.heap.size<=w.heap.size+1;omega);have K1:=hid (own_put K1.out (a:=⟨w.heap.size+1,3,none⟩) (u:=.slice x3 z3.length y3) (by show w.heap.size+1<w.heap.size+2;omega));have K3:=hid (own_put K3.out (a:=⟨w.heap.size+1,3,none⟩) (u:=.slice x3 z3.length y3) (by show w.heap.size+1<w.heap.size+2;omega));obtain ⟨i0,i1,i2,i3,i4,i5,i6,iz⟩:=cells7 HIa.out
 have ifz:∀ j,w4.frozen? ⟨w.heap.size+1,j,none⟩=false:=fun j=>Lib.frozen_of_heap HIa.out j
 clear hg hr hp hv HXa HIa HGa HX3 HI3 HR3 HG3 P3;go_wp2_with fail;clear i0 i1 i2 i3 i4 i5 i6 iz ifz;refine (rdFixes rb l4 _ HR4.out (by omega)).mono ?_;rintro e w5 ⟨hg,⟨hp,c,hc,rfl⟩ | ⟨z4,l5,v4,hp,rfl,hv,hr⟩⟩
 . exact ⟨rfl,Fx.grown_trans HG4.out hg,Or.inl ⟨by rw [P4.out,hp];rfl,c,hc,rfl⟩⟩
 obtain ⟨x4,y4,rfl,hcap4, -⟩:=ownsRow_form hv;have K4:=hid (own_lo (B':=w.heap.size+2) hv (by have:=HG4.out.size;have:=lt_of_heap HI4.out;omega));have C4:=hid hcap4;clear hcap4;have A4:=hid (pLst_all fix_all hp)
 have P5:Hid (pObj l0=(pLst Fx.pNum l5).bind fun f=>(Fx.pNum f.2).map fun g=>(⟨z0,z1,z2,z3,z4,f.1,g.1⟩,g.2)):=by show _=_;rw [P4.out,hp];rfl
 have hln5:l5.length<=1000000:=by have:=A4.out.2;omega
 have HXa:Hid (w5.heap[w.heap.size]? = some (.cells #[.string ⟨#[]⟩,.slice none 0 0,.int .i64 0,.slice none 0 0,.slice none 0 0,.slice none 0 0,.int .i64 0] 62)):=gk hg HX4.out hn0;have HIa:Hid (w5.heap[w.heap.size+1]? = some (.cells #[.string z0,.slice x1 z1.length y1,.int .i64 z2,.slice x3 z3.length y3,.slice none 0 0,.slice none 0 0,.int .i64 0] 62)):=gk hg HI4.out hn1;have HGa:=hid (Fx.grown_trans HG4.out hg);have K1:=hid (own_kept K1.out hg (by omega));have K3:=hid (own_kept K3.out hg (by omega));have HX5:Hid ((w5.setCell ⟨w.heap.size+1,4,none⟩ (.slice x4 z4.length y4)).heap[w.heap.size]? = some (.cells #[.string ⟨#[]⟩,.slice none 0 0,.int .i64 0,.slice none 0 0,.slice none 0 0,.slice none 0 0,.int .i64 0] 62)):=(heap_set_ne (p:=⟨w.heap.size+1,4,none⟩) (by show w.heap.size≠w.heap.size+1;omega) _).trans HXa.out;have HI5:Hid ((w5.setCell ⟨w.heap.size+1,4,none⟩ (.slice x4 z4.length y4)).heap[w.heap.size+1]? = some (.cells #[.string z0,.slice x1 z1.length y1,.int .i64 z2,.slice x3 z3.length y3,.slice x4 z4.length y4,.slice none 0 0,.int .i64 0] 62)):=heap_set HIa.out _
 have HR5:Hid (Fx.Rdr (w5.setCell ⟨w.heap.size+1,4,none⟩ (.slice x4 z4.length y4)) rb l5):=rdr_put hr hn1;have HG5:Hid (w.grownBy (w5.setCell ⟨w.heap.size+1,4,none⟩ (.slice x4 z4.length y4)) (some rb)):=grown_put HGa.out (by show w.heap.size<=w.heap.size+1;omega);have K1:=hid (own_put K1.out (a:=⟨w.heap.size+1,4,none⟩) (u:=.slice x4 z4.length y4) (by show w.heap.size+1<w.heap.size+2;omega));have K3:=hid (own_put K3.out (a:=⟨w.heap.size+1,4,none⟩) (u:=.slice x4 z4.length y4) (by show w.heap.size+1<w.heap.size+2;omega));have K4:=hid (own_put K4.out (a:=⟨w.heap.size+1,4,none⟩) (u:=.slice x4 z4.length y4) (by show w.heap.size+1<w.heap.size+2;omega));obtain ⟨i0,i1,i2,i3,i4,i5,i6,iz⟩:=cells7 HIa.out
 have ifz:∀ j,w5.frozen? ⟨w.heap.size+1,j,none⟩=false:=fun j=>Lib.frozen_of_heap HIa.out j
 clear hg hr hp hv HXa HIa HGa HX4 HI4 HR4 HG4 P4;go_wp2_with fail;clear i0 i1 i2 i3 i4 i5 i6 iz ifz;refine (rdNums rb l5 _ HR5.out (by omega)).mono ?_;rintro e w6 ⟨hg,⟨hp,c,hc,rfl⟩ | ⟨z5,l6,v5,hp,rfl,hv,hr⟩⟩
 . exact ⟨rfl,Fx.grown_trans HG5.out hg,Or.inl ⟨by rw [P5.out,hp];rfl,c,hc,rfl⟩⟩
 obtain ⟨x5,y5,rfl,hcap5, -⟩:=ownsRow_form hv;have K5:=hid (own_lo (B':=w.heap.size+2) hv (by have:=HG5.out.size;have:=lt_of_heap HI5.out;omega));have C5:=hid hcap5;clear hcap5;have A5:=hid (pLst_all num_all hp)
 have P6:Hid (pObj l0=(Fx.pNum l6).map fun g=>(⟨z0,z1,z2,z3,z4,z5,g.1⟩,g.2)):=by show _=_;rw [P5.out,hp];rfl
 have hln6:l6.length<=1000000:=by have:=A5.out.2;omega
 have HXa:Hid (w6.heap[w.heap.size]? = some (.cells #[.string ⟨#[]⟩,.slice none 0 0,.int .i64 0,.slice none 0 0,.slice none 0 0,.slice none 0 0,.int .i64 0] 62)):=gk hg HX5.out hn0;have HIa:Hid (w6.heap[w.heap.size+1]? = some (.cells #[.string z0,.slice x1 z1.length y1,.int .i64 z2,.slice x3 z3.length y3,.slice x4 z4.length y4,.slice none 0 0,.int .i64 0] 62)):=gk hg HI5.out hn1;have HGa:=hid (Fx.grown_trans HG5.out hg);have K1:=hid (own_kept K1.out hg (by omega));have K3:=hid (own_kept K3.out hg (by omega));have K4:=hid (own_kept K4.out hg (by omega));have HX6:Hid ((w6.setCell ⟨w.heap.size+1,5,none⟩ (.slice x5 z5.length y5)).heap[w.heap.size]? = some (.cells #[.string ⟨#[]⟩,.slice none 0 0,.int .i64 0,.slice none 0 0,.slice none 0 0,.slice none 0 0,.int .i64 0] 62)):=(heap_set_ne (p:=⟨w.heap.size+1,5,none⟩) (by show w.heap.size≠w.heap.size+1;omega) _).trans HXa.out
 have HI6:Hid ((w6.setCell ⟨w.heap.size+1,5,none⟩ (.slice x5 z5.length y5)).heap[w.heap.size+1]? = some (.cells #[.string z0,.slice x1 z1.length y1,.int .i64 z2,.slice x3 z3.length y3,.slice x4 z4.length y4,.slice x5 z5.length y5,.int .i64 0] 62)):=heap_set HIa.out _;have HR6:Hid (Fx.Rdr (w6.setCell ⟨w.heap.size+1,5,none⟩ (.slice x5 z5.length y5)) rb l6):=rdr_put hr hn1;have HG6:Hid (w.grownBy (w6.setCell ⟨w.heap.size+1,5,none⟩ (.slice x5 z5.length y5)) (some rb)):=grown_put HGa.out (by show w.heap.size<=w.heap.size+1;omega);have K1:=hid (own_put K1.out (a:=⟨w.heap.size+1,5,none⟩) (u:=.slice x5 z5.length y5) (by show w.heap.size+1<w.heap.size+2;omega));have K3:=hid (own_put K3.out (a:=⟨w.heap.size+1,5,none⟩) (u:=.slice x5 z5.length y5) (by show w.heap.size+1<w.heap.size+2;omega));have K4:=hid (own_put K4.out (a:=⟨w.heap.size+1,5,none⟩) (u:=.slice x5 z5.length y5) (by show w.heap.size+1<w.heap.size+2;omega))
 have K5:=hid (own_put K5.out (a:=⟨w.heap.size+1,5,none⟩) (u:=.slice x5 z5.length y5) (by show w.heap.size+1<w.heap.size+2;omega));obtain ⟨i0,i1,i2,i3,i4,i5,i6,iz⟩:=cells7 HIa.out
 have ifz:∀ j,w6.frozen? ⟨w.heap.size+1,j,none⟩=false:=fun j=>Lib.frozen_of_heap HIa.out j
 clear hg hr hp hv HXa HIa HGa HX5 HI5 HR5 HG5 P5;go_wp2_with fail;clear i0 i1 i2 i3 i4 i5 i6 iz ifz;refine (rdNum rb l6 _ HR6.out (by omega)).mono ?_;rintro e w7 ⟨hg,⟨hp,c,hc,rfl⟩ | ⟨z6,l7,v6,hp,rfl,hv,hr⟩⟩
 . exact ⟨rfl,Fx.grown_trans HG6.out hg,Or.inl ⟨by rw [P6.out,hp];rfl,c,hc,rfl⟩⟩
 obtain rfl:v6 = .int .i64 z6:=hv;have A6:=hid (num_all _ _ _ hp)
 have P7:Hid (pObj l0=some (⟨z0,z1,z2,z3,z4,z5,z6⟩,l7)):=by show _=_;rw [P6.out,hp];rfl
 have hln7:l7.length<=1000000:=by have:=A6.out.2;omega
 have HXa:Hid (w7.heap[w.heap.size]? = some (.cells #[.string ⟨#[]⟩,.slice none 0 0,.int .i64 0,.slice none 0 0,.slice none 0 0,.slice none 0 0,.int .i64 0] 62)):=gk hg HX6.out hn0;have HIa:Hid (w7.heap[w.heap.size+1]? = some (.cells #[.string z0,.slice x1 z1.length y1,.int .i64 z2,.slice x3 z3.length y3,.slice x4 z4.length y4,.slice x5 z5.length y5,.int .i64 0] 62)):=gk hg HI6.out hn1;have HGa:=hid (Fx.grown_trans HG6.out hg);have K1:=hid (own_kept K1.out hg (by omega));have K3:=hid (own_kept K3.out hg (by omega));have K4:=hid (own_kept K4.out hg (by omega));have K5:=hid (own_kept K5.out hg (by omega));have HX7:Hid ((w7.setCell ⟨w.heap.size+1,6,none⟩ (.int .i64 z6)).heap[w.heap.size]? = some (.cells #[.string ⟨#[]⟩,.slice none 0 0,.int .i64 0,.slice none 0 0,.slice none 0 0,.slice none 0 0,.int .i64 0] 62)):=(heap_set_ne (p:=⟨w.heap.size+1,6,none⟩) (by show w.heap.size≠w.heap.size+1;omega) _).trans HXa.out
 have HI7:Hid ((w7.setCell ⟨w.heap.size+1,6,none⟩ (.int .i64 z6)).heap[w.heap.size+1]? = some (.cells #[.string z0,.slice x1 z1.length y1,.int .i64 z2,.slice x3 z3.length y3,.slice x4 z4.length y4,.slice x5 z5.length y5,.int .i64 z6] 62)):=heap_set HIa.out _;have HR7:Hid (Fx.Rdr (w7.setCell ⟨w.heap.size+1,6,none⟩ (.int .i64 z6)) rb l7):=rdr_put hr hn1;have HG7:Hid (w.grownBy (w7.setCell ⟨w.heap.size+1,6,none⟩ (.int .i64 z6)) (some rb)):=grown_put HGa.out (by show w.heap.size<=w.heap.size+1;omega);have K1:=hid (own_put K1.out (a:=⟨w.heap.size+1,6,none⟩) (u:=.int .i64 z6) (by show w.heap.size+1<w.heap.size+2;omega));have K3:=hid (own_put K3.out (a:=⟨w.heap.size+1,6,none⟩) (u:=.int .i64 z6) (by show w.heap.size+1<w.heap.size+2;omega));have K4:=hid (own_put K4.out (a:=⟨w.heap.size+1,6,none⟩) (u:=.int .i64 z6) (by show w.heap.size+1<w.heap.size+2;omega))
 have K5:=hid (own_put K5.out (a:=⟨w.heap.size+1,6,none⟩) (u:=.int .i64 z6) (by show w.heap.size+1<w.heap.size+2;omega));obtain ⟨i0,i1,i2,i3,i4,i5,i6,iz⟩:=cells7 HIa.out
 have ifz:∀ j,w7.frozen? ⟨w.heap.size+1,j,none⟩=false:=fun j=>Lib.frozen_of_heap HIa.out j
 obtain ⟨j0,j1,j2,j3,j4,j5,j6,jz⟩:=cells7 HXa.out
 have jfz:∀ j,w7.frozen? ⟨w.heap.size,j,none⟩=false:=fun j=>Lib.frozen_of_heap HXa.out j
 have hne:¬ (w.heap.size=w.heap.size+1):=by omega
 clear hg hr hp HXa HIa HGa;go_wp2_with fail;refine bodyPost_ret (v:=.agg #[.string z0,.slice x1 z1.length y1,.int .i64 z2,.slice x3 z3.length y3,.slice x4 z4.length y4,.slice x5 z5.length y5,.int .i64 z6]) (by simp [results,Tryz.results96,go_sem,j0,j1,j2,j3,j4,j5,j6,i0,i1,i2,i3,i4,i5,i6,jz,iz]) rfl ⟨?_,Or.inr ⟨_,l7,_,P7.out,rfl,⟨x1,y1,x3,y3,x4,y4,x5,y5,rfl,?_,C1.out⟩,?_⟩⟩
 . exact grown_put (grown_put (grown_put (grown_put (grown_put (grown_put (grown_put HG7.out (Nat.le_refl _)) (Nat.le_refl _)) (Nat.le_refl _)) (Nat.le_refl _)) (Nat.le_refl _)) (Nat.le_refl _)) (Nat.le_refl _)
 . have f1:=fin7 K1.out (.string z0) (.slice x1 z1.length y1) (.int .i64 z2) (.slice x3 z3.length y3) (.slice x4 z4.length y4) (.slice x5 z5.length y5) (.int .i64 z6) (b:=w.heap.size) (by omega)
   have f3:=fin7 K3.out (.string z0) (.slice x1 z1.length y1) (.int .i64 z2) (.slice x3 z3.length y3) (.slice x4 z4.length y4) (.slice x5 z5.length y5) (.int .i64 z6) (b:=w.heap.size) (by omega);have f4:=fin7 K4.out (.string z0) (.slice x1 z1.length y1) (.int .i64 z2) (.slice x3 z3.length y3) (.slice x4 z4.length y4) (.slice x5 z5.length y5) (.int .i64 z6) (b:=w.heap.size) (by omega);have f5:=fin7 K5.out (.string z0) (.slice x1 z1.length y1) (.int .i64 z2) (.slice x3 z3.length y3) (.slice x4 z4.length y4) (.slice x5 z5.length y5) (.int .i64 z6) (b:=w.heap.size) (by omega);have b1:=A1.out.2;have b3:=A3.out.2;have b4:=A4.out.2;have b5:=A5.out.2;refine ⟨Nat.le_trans A0.out.1 (by decide),?_,A2.out.1,?_,?_,?_,A6.out.1⟩
   . exact dat_rowA f1 (by omega) (strs_valw _ (fun s hs=>Nat.le_trans (A1.out.1 s hs) (by decide))) (by simp [strsD]) (by rw [show (strsD z1).length=z1.length from by simp [strsD]];omega)
   . exact dat_rowA f3 (by omega) (gis_valw _ A3.out.1) (by rw [gisD_len];omega) (by rw [gisD_len];show z3.length*3<=_;omega)
   . exact dat_rowA f4 (by omega) (gfs_valw _ A4.out.1) (by rw [gfsD_len];omega) (by rw [gfsD_len];show z4.length*3<=_;omega)
   . exact dat_rowA f5 (by omega) (ints_valw _ A5.out.1) (by simp [intD]) (by rw [show (intD z5).length=z5.length from by simp [intD]];omega)
 . exact rdr_put (rdr_put (rdr_put (rdr_put (rdr_put (rdr_put (rdr_put HR7.out hn0) hn0) hn0) hn0) hn0) hn0) hn0
end Go.Proofs.YtndkhgakfodldaaGreatDoor

namespace Go.Proofs.YtndkhgakfodldaaGreatDoor
set_option maxRecDepth 100000
set_option maxHeartbeats 6400000
open Go.RowKit Go.Shelf
set_option linter.unusedSimpArgs false
set_option linter.unusedVariables false
def noneO (w:World) (b:Nat):World:=((((((((w.alloc (.cells #[.string ⟨#[]⟩,.slice none 0 0,.int .i64 0,.slice none 0 0,.slice none 0 0,.slice none 0 0,.int .i64 0] 62)).setCell ⟨b,0,none⟩ (.string ⟨#[]⟩)).setCell ⟨b,1,none⟩ (.slice none 0 0)).setCell ⟨b,2,none⟩ (.int .i64 0)).setCell ⟨b,3,none⟩ (.slice none 0 0)).setCell ⟨b,4,none⟩ (.slice none 0 0)).setCell ⟨b,5,none⟩ (.slice none 0 0)).setCell ⟨b,6,none⟩ (.int .i64 0)).setCell ⟨b+1,0,none⟩ (.bool false)
def set7 (w:World) (b:Nat) (x0 x1 x2 x3 x4 x5 x6:Value):World:=(((((((w.setCell ⟨b,0,none⟩ (x0)).setCell ⟨b,1,none⟩ (x1)).setCell ⟨b,2,none⟩ (x2)).setCell ⟨b,3,none⟩ (x3)).setCell ⟨b,4,none⟩ (x4)).setCell ⟨b,5,none⟩ (x5)).setCell ⟨b,6,none⟩ (x6))
theorem heap7 {w:World} {b:Nat} {y0 y1 y2 y3 y4 y5 y6:Value} {t:TypeId} {f:Nat × Nat} (h:w.heap[b]? = some (.cells #[y0,y1,y2,y3,y4,y5,y6] t f)) (x0 x1 x2 x3 x4 x5 x6:Value):(set7 w b x0 x1 x2 x3 x4 x5 x6).heap[b]? = some (.cells #[x0,x1,x2,x3,x4,x5,x6] t f):=by
 have h0:(w.setCell ⟨b,0,none⟩ x0).heap[b]? = some (.cells #[x0,y1,y2,y3,y4,y5,y6] t f):=heap_set h x0;have h1:((w.setCell ⟨b,0,none⟩ x0).setCell ⟨b,1,none⟩ x1).heap[b]? = some (.cells #[x0,x1,y2,y3,y4,y5,y6] t f):=heap_set h0 x1;have h2:(((w.setCell ⟨b,0,none⟩ x0).setCell ⟨b,1,none⟩ x1).setCell ⟨b,2,none⟩ x2).heap[b]? = some (.cells #[x0,x1,x2,y3,y4,y5,y6] t f):=heap_set h1 x2;have h3:((((w.setCell ⟨b,0,none⟩ x0).setCell ⟨b,1,none⟩ x1).setCell ⟨b,2,none⟩ x2).setCell ⟨b,3,none⟩ x3).heap[b]? = some (.cells #[x0,x1,x2,x3,y4,y5,y6] t f):=heap_set h2 x3;have h4:(((((w.setCell ⟨b,0,none⟩ x0).setCell ⟨b,1,none⟩ x1).setCell ⟨b,2,none⟩ x2).setCell ⟨b,3,none⟩ x3).setCell ⟨b,4,none⟩ x4).heap[b]? = some (.cells #[x0,x1,x2,x3,x4,y5,y6] t f):=heap_set h3 x4;have h5:((((((w.setCell ⟨b,0,none⟩ x0).setCell ⟨b,1,none⟩ x1).setCell ⟨b,2,none⟩ x2).setCell ⟨b,3,none⟩ x3).setCell ⟨b,4,none⟩ x4).setCell ⟨b,5,none⟩ x5).heap[b]? = some (.cells #[x0,x1,x2,x3,x4,x5,y6] t f):=heap_set h4 x5
 have h6:(((((((w.setCell ⟨b,0,none⟩ x0).setCell ⟨b,1,none⟩ x1).setCell ⟨b,2,none⟩ x2).setCell ⟨b,3,none⟩ x3).setCell ⟨b,4,none⟩ x4).setCell ⟨b,5,none⟩ x5).setCell ⟨b,6,none⟩ x6).heap[b]? = some (.cells #[x0,x1,x2,x3,x4,x5,x6] t f):=heap_set h5 x6;exact h6
theorem heap7_ne {w:World} {b k:Nat} (hn:k≠b) (x0 x1 x2 x3 x4 x5 x6:Value):(set7 w b x0 x1 x2 x3 x4 x5 x6).heap[k]? = w.heap[k]?:=
 (heap_set_ne hn _).trans ((heap_set_ne hn _).trans ((heap_set_ne hn _).trans ((heap_set_ne hn _).trans ((heap_set_ne hn _).trans ((heap_set_ne hn _).trans (heap_set_ne hn _))))))
theorem below_set7 {B:Nat} {w w':World} {b:Nat} (h:Below B w w') (hb:B<=b) (x0 x1 x2 x3 x4 x5 x6:Value):Below B w (set7 w' b x0 x1 x2 x3 x4 x5 x6):=
 (((((((h.setCell (p:=⟨b,0,none⟩) hb _).setCell (p:=⟨b,1,none⟩) hb _).setCell (p:=⟨b,2,none⟩) hb _).setCell (p:=⟨b,3,none⟩) hb _).setCell (p:=⟨b,4,none⟩) hb _).setCell (p:=⟨b,5,none⟩) hb _).setCell (p:=⟨b,6,none⟩) hb _)
theorem catch_thrownO (b:Nat) (x0 x1 x2 x3 x4 x5 x6:Value) (y:Bool) (u:TypeId) (pv:Value) (w:World) (hX:w.heap[b]? = some (.cells #[x0,x1,x2,x3,x4,x5,x6] 62 (0,0))) (hK:w.heap[b+1]? = some (.cells #[.bool y] 4 (0,0))) :
 CallsD Tryz.prog 136 #[.pointer (some ⟨b,0,none⟩),.pointer (some ⟨b+1,0,none⟩)] (.panicking [{ v:=.iface u pv,recovered:=false }]) w fun e u' w'=>
  e = .returned (.tuple #[])/\u' = .panicking [{ v:=.iface u pv,recovered:=true }]/\w'=noneO w b:=by
 have hX1:=heap_old (o:=.cells #[.string ⟨#[]⟩,.slice none 0 0,.int .i64 0,.slice none 0 0,.slice none 0 0,.slice none 0 0,.int .i64 0] 62) hX;have hK1:=heap_old (o:=.cells #[.string ⟨#[]⟩,.slice none 0 0,.int .i64 0,.slice none 0 0,.slice none 0 0,.slice none 0 0,.int .i64 0] 62) hK;obtain ⟨a0,a1,a2,a3,a4,a5,a6,az⟩:=cells7 hX1
 have afz:∀ j,(w.alloc (.cells #[.string ⟨#[]⟩,.slice none 0 0,.int .i64 0,.slice none 0 0,.slice none 0 0,.slice none 0 0,.int .i64 0] 62)).frozen? ⟨b,j,none⟩=false:=fun j=>Lib.frozen_of_heap hX1 j
 have k0:(w.alloc (.cells #[.string ⟨#[]⟩,.slice none 0 0,.int .i64 0,.slice none 0 0,.slice none 0 0,.slice none 0 0,.int .i64 0] 62)).cell? ⟨b+1,0,none⟩=some (.bool y):=by rw [Lib.cell_of_heap hK1];rfl
 have kf:(w.alloc (.cells #[.string ⟨#[]⟩,.slice none 0 0,.int .i64 0,.slice none 0 0,.slice none 0 0,.slice none 0 0,.int .i64 0] 62)).frozen? ⟨b+1,0,none⟩=false:=Lib.frozen_of_heap hK1 0;obtain ⟨n0,n1,n2,n3,n4,n5,n6,nz⟩:=cells7 (heap_newP w (.cells #[.string ⟨#[]⟩,.slice none 0 0,.int .i64 0,.slice none 0 0,.slice none 0 0,.slice none 0 0,.int .i64 0] 62));have hE:noneO w b=((((((((w.alloc (.cells #[.string ⟨#[]⟩,.slice none 0 0,.int .i64 0,.slice none 0 0,.slice none 0 0,.slice none 0 0,.int .i64 0] 62)).setCell ⟨b,0,none⟩ (.string ⟨#[]⟩)).setCell ⟨b,1,none⟩ (.slice none 0 0)).setCell ⟨b,2,none⟩ (.int .i64 0)).setCell ⟨b,3,none⟩ (.slice none 0 0)).setCell ⟨b,4,none⟩ (.slice none 0 0)).setCell ⟨b,5,none⟩ (.slice none 0 0)).setCell ⟨b,6,none⟩ (.int .i64 0)).setCell ⟨b+1,0,none⟩ (.bool false):=rfl;rw [hE];clear hX hK hX1 hK1 hE
 refine callsD_of_wpS Tryz.func136 rfl fun c₀ cs hu=>?_
 apply wpS_seq
 apply wpS_region
 simp [wpOpsS,go_sem,recoverD,hu,Tryz.ntmps136,Exit.thenS];refine wpS_cond (t:=true) (by simp [Act.eval,Array.replicate]) ?_;simp only [if_true]
 apply wpS_seq
 apply wpS_region
 simp [wpOpsS,go_sem,Exit.thenS]
 apply wpS_region
 simp [wpOpsS,go_sem,n0,n1,n2,n3,n4,n5,n6,a0,a1,a2,a3,a4,a5,a6,afz,k0,kf,bodyPostS,results,Tryz.results136]
theorem catch_idleO (p q:Addr) (w:World) :
 CallsD Tryz.prog 136 #[.pointer (some p),.pointer (some q)] .returning w fun e u' w'=>e = .returned (.tuple #[])/\u' = .returning/\w'=w:=by
 refine callsD_of_wpS Tryz.func136 rfl fun c₀ cs hu=>?_
 apply wpS_seq
 apply wpS_region
 simp [wpOpsS,go_sem,recoverD,hu,Tryz.ntmps136,Exit.thenS];refine wpS_cond (t:=false) (by simp [Act.eval,Array.replicate]) ?_;simp only [Bool.false_eq_true,if_false];refine wpS_of_wp (wp_skip ?_)
 cases c₀
 simp_all [bodyPostS,results,Tryz.results136]
def wOk (l:List UInt8):Option Ob:=match pObj l with
 | some (o,[])=>some o
 | _=>none
theorem caught (u:TypeId) (pv:Value) (w W:World) (x0 x1 x2 x3 x4 x5 x6:Value) (y:Bool) (hX:W.heap[w.heap.size]? = some (.cells #[x0,x1,x2,x3,x4,x5,x6] 62 (0,0))) (hK:W.heap[w.heap.size+1]? = some (.cells #[.bool y] 4 (0,0))) (hB:Below w.heap.size w W) {R:Ending->World->Prop} (t:Array Value)
 (h4:t.getD 4 undef = .pointer (some ⟨w.heap.size,0,none⟩)) (h5:t.getD 5 undef = .pointer (some ⟨w.heap.size+1,0,none⟩))
 (hR:∀ W',Below w.heap.size w W'->R (.returned (.tuple #[.agg #[.string ⟨#[]⟩,.slice none 0 0,.int .i64 0,.slice none 0 0,.slice none 0 0,.slice none 0 0,.int .i64 0],.bool false])) W') :
 Leaves Tryz.prog Tryz.f95 t R [{ target:=Target.fn (Fn.func 136) #[Value.pointer (some ⟨w.heap.size,0,none⟩),Value.pointer (some ⟨w.heap.size+1,0,none⟩)],args:=#[] }] (.panicking [{ v:=.iface u pv,recovered:=false }]) W:=by
 refine leaves_cons (f:=136) (args:=#[.pointer (some ⟨w.heap.size,0,none⟩),.pointer (some ⟨w.heap.size+1,0,none⟩)]) (by simp) (by simp [go_sem]) ?_;refine (catch_thrownO w.heap.size x0 x1 x2 x3 x4 x5 x6 y u pv W hX hK).mono ?_;rintro e u' w'' ⟨rfl,rfl,rfl⟩;have hX1:=heap7 (heap_old (o:=.cells #[.string ⟨#[]⟩,.slice none 0 0,.int .i64 0,.slice none 0 0,.slice none 0 0,.slice none 0 0,.int .i64 0] 62) hX) (.string ⟨#[]⟩) (.slice none 0 0) (.int .i64 0) (.slice none 0 0) (.slice none 0 0) (.slice none 0 0) (.int .i64 0);have hX2:(noneO W w.heap.size).heap[w.heap.size]? = some (.cells #[.string ⟨#[]⟩,.slice none 0 0,.int .i64 0,.slice none 0 0,.slice none 0 0,.slice none 0 0,.int .i64 0] 62 (0,0)):=(heap_set_ne (p:=⟨w.heap.size+1,0,none⟩) (by show w.heap.size≠w.heap.size+1;omega) _).trans hX1;have hK2:(noneO W w.heap.size).heap[w.heap.size+1]? = some (.cells #[.bool false] 4 (0,0)):=heap_set ((heap7_ne (by omega) _ _ _ _ _ _ _).trans (heap_old (o:=.cells #[.string ⟨#[]⟩,.slice none 0 0,.int .i64 0,.slice none 0 0,.slice none 0 0,.slice none 0 0,.int .i64 0] 62) hK)) _
 have hb:Below w.heap.size w (noneO W w.heap.size):=(below_set7 (hB.alloc hB.size _) (Nat.le_refl _) _ _ _ _ _ _ _).setCell (p:=⟨w.heap.size+1,0,none⟩) (Nat.le_succ _) _;obtain ⟨c0,c1,c2,c3,c4,c5,c6,_⟩:=cells7 hX2
 have k0:(noneO W w.heap.size).cell? ⟨w.heap.size+1,0,none⟩=some (.bool false):=by rw [Lib.cell_of_heap hK2];rfl
 generalize noneO W w.heap.size=X at *
 have h4':t[4]?.getD undef = .pointer (some ⟨w.heap.size,0,none⟩):=by simpa using h4
 have h5':t[5]?.getD undef = .pointer (some ⟨w.heap.size+1,0,none⟩):=by simpa using h5
 refine ⟨.tuple #[.agg #[.string ⟨#[]⟩,.slice none 0 0,.int .i64 0,.slice none 0 0,.slice none 0 0,.slice none 0 0,.int .i64 0],.bool false],?_,hR X hb⟩;simp [results,Tryz.results95,go_sem,h4',h5',c0,c1,c2,c3,c4,c5,c6,k0]
def WEnd (w:World) (r:Option Ob) (e:Ending) (w':World):Prop:=
 Below w.heap.size w w'/\((r=none/\e = .returned (.tuple #[.agg #[.string ⟨#[]⟩,.slice none 0 0,.int .i64 0,.slice none 0 0,.slice none 0 0,.slice none 0 0,.int .i64 0],.bool false]))\/∃ o v,r=some o/\e = .returned (.tuple #[v,.bool true])/\isOb w.heap.size w' o v)
theorem below_gr {w X w':World} {rb:Nat} (h:Below w.heap.size w X) (hg:X.grownBy w' (some rb)) (hr:w.heap.size<=rb):Below w.heap.size w w':=h.grown hg h.size (fun k e=>by cases e;exact hr)
theorem Whole_any (l:List UInt8) (w:World) (hl:l.length<=1000000) :
 Calls Tryz.prog 95 #[.string (Fx.strOf l),.func (.func 96) #[] #[]] w fun e w'=>WEnd w (wOk l) e w':=by
 have hmf:∀ (fn:Fn) (first cap:Array Value) (w:World),(Instr.makeFunc fn first cap).run Tryz.prog w = .ok (.func fn first cap) w:=fun _ _ _ _=>rfl
 obtain ⟨W2,hW2⟩:∃ W2,W2=((w.alloc (.cells #[.string ⟨#[]⟩,.slice none 0 0,.int .i64 0,.slice none 0 0,.slice none 0 0,.slice none 0 0,.int .i64 0] 62)).alloc (.cells #[.bool false] 4)).alloc (.cells #[.string (Fx.strOf l)] 216):=⟨_,rfl⟩
 have hX:W2.heap[w.heap.size]? = some (.cells #[.string ⟨#[]⟩,.slice none 0 0,.int .i64 0,.slice none 0 0,.slice none 0 0,.slice none 0 0,.int .i64 0] 62 (0,0)):=by rw [hW2];exact heap_old (heap_old (heap_newP w _))
 have hK:W2.heap[w.heap.size+1]? = some (.cells #[.bool false] 4 (0,0)):=by rw [hW2];exact heap_old (new_1 w _ _)
 have hR2:W2.heap[w.heap.size+2]? = some (.cells #[.string (Fx.strOf l)] 216 (0,0)):=by
  rw [hW2];have:=heap_newP ((w.alloc (.cells #[.string ⟨#[]⟩,.slice none 0 0,.int .i64 0,.slice none 0 0,.slice none 0 0,.slice none 0 0,.int .i64 0] 62)).alloc (.cells #[.bool false] 4)) (.cells #[.string (Fx.strOf l)] 216);simpa using this
 have hRd:Fx.Rdr W2 (w.heap.size+2) l:=⟨lt_of_heap hR2,by rw [Lib.cell_of_heap hR2];rfl,Lib.frozen_of_heap hR2 0⟩
 have hBl:Below w.heap.size w W2:=by
  rw [hW2];exact (((Below.refl _ _).alloc (Nat.le_refl _) _).alloc (by simp) _).alloc (by simp;omega) _
 have HC:=hid (rdObj (w.heap.size+2) l W2 hRd hl);have HP:Hid (wOk l=match pObj l with | some (o,[])=>some o | _=>none):=rfl;have hz:=lt_of_heap hR2;have HX:=hid hX;have HK:=hid hK;have HBl:=hid hBl;have HW:=hid hW2;clear hX hK hRd hBl hW2 hR2;go_enter_defers Tryz.func95,Tryz.ntmps95
 go_wp2_with (fail)
 rw [← HW.out];refine HC.out.mono ?_;rintro e w1 ⟨hg,⟨hp,c,hc,rfl⟩ | ⟨o,r,v,hp,rfl,hv,hr⟩⟩
 . have HN:Hid (wOk l=none):=by show _=_;rw [HP.out,hp]
   have h1:=gk hg HX.out (by omega);have h2:=gk hg HK.out (by omega);have h3:=below_gr HBl.out hg (by omega)
   rcases hc with rfl | rfl
   . exact caught 9 _ w w1 _ _ _ _ _ _ _ _ h1 h2 h3 _ rfl rfl (fun W' h=>⟨h,Or.inl ⟨HN.out,rfl⟩⟩)
   . exact caught 9 _ w w1 _ _ _ _ _ _ _ _ h1 h2 h3 _ rfl rfl (fun W' h=>⟨h,Or.inl ⟨HN.out,rfl⟩⟩)
 obtain ⟨x1,y1,x3,y3,x4,y4,x5,y5,rfl,hO,hcp⟩:=hv;have HX1:=hid (gk hg HX.out (by omega));have HK1:=hid (gk hg HK.out (by omega));have HB1:=hid (below_gr HBl.out hg (by omega));have HO:=hid hO;have HCp:=hid hcp;have hr0:=hr.c0;obtain ⟨j0,j1,j2,j3,j4,j5,j6,jz⟩:=cells7 HX1.out
 have jfz:∀ j,w1.frozen? ⟨w.heap.size,j,none⟩=false:=fun j=>Lib.frozen_of_heap HX1.out j
 have k0:w1.cell? ⟨w.heap.size+1,0,none⟩=some (.bool false):=by rw [Lib.cell_of_heap HK1.out];rfl
 have kf:w1.frozen? ⟨w.heap.size+1,0,none⟩=false:=Lib.frozen_of_heap HK1.out 0;have kz:=lt_of_heap HK1.out;have rz:=hr.lt
 cases r with
 | cons c r=>
   have HN:Hid (wOk l=none):=by show _=_;rw [HP.out,hp]
   have hE:=Lx.ne_empty (Fx.strOf (c :: r)) (by rw [Fx.strOf_size];exact Nat.succ_pos _);clear hg hr hp hO hcp;go_wp2_with fail;exact caught 9 _ w _ _ _ _ _ _ _ _ _ (heap7 HX1.out _ _ _ _ _ _ _) ((heap7_ne (by omega) _ _ _ _ _ _ _).trans HK1.out) (below_set7 HB1.out (Nat.le_refl _) _ _ _ _ _ _ _) _ rfl rfl (fun W' h=>⟨h,Or.inl ⟨HN.out,rfl⟩⟩)
 | nil=>
   have HN:Hid (wOk l=some o):=by show _=_;rw [HP.out,hp]
   have e0:Fx.strOf ([]:List UInt8)=⟨#[]⟩:=rfl;rw [e0] at hr0;clear hg hr hp hO hcp;go_wp2_with fail;refine leaves_cons (f:=136) (args:=#[.pointer (some ⟨w.heap.size,0,none⟩),.pointer (some ⟨w.heap.size+1,0,none⟩)]) (by simp) (by simp [go_sem]) ?_;refine (catch_idleO ⟨w.heap.size,0,none⟩ ⟨w.heap.size+1,0,none⟩ _).mono ?_;rintro e u' w'' ⟨rfl,rfl,rfl⟩
   obtain ⟨F,hF⟩:∃ F,F=(set7 (set7 w1 w.heap.size (.string o.name) (.slice x1 o.uses.length y1) (.int .i64 o.data) (.slice x3 o.code.length y3) (.slice x4 o.fixes.length y4) (.slice x5 o.entries.length y5) (.int .i64 o.main)) w.heap.size (.string o.name) (.slice x1 o.uses.length y1) (.int .i64 o.data) (.slice x3 o.code.length y3) (.slice x4 o.fixes.length y4) (.slice x5 o.entries.length y5) (.int .i64 o.main)).setCell ⟨w.heap.size+1,0,none⟩ (.bool true):=⟨_,rfl⟩
   have hXF:F.heap[w.heap.size]? = some (.cells #[.string o.name,.slice x1 o.uses.length y1,.int .i64 o.data,.slice x3 o.code.length y3,.slice x4 o.fixes.length y4,.slice x5 o.entries.length y5,.int .i64 o.main] 62 (0,0)):=by rw [hF];exact (heap_set_ne (p:=⟨w.heap.size+1,0,none⟩) (by show w.heap.size≠w.heap.size+1;omega) _).trans (heap7 (heap7 HX1.out _ _ _ _ _ _ _) _ _ _ _ _ _ _)
   have hKF:F.heap[w.heap.size+1]? = some (.cells #[.bool true] 4 (0,0)):=by rw [hF];exact heap_set ((heap7_ne (by omega) _ _ _ _ _ _ _).trans ((heap7_ne (by omega) _ _ _ _ _ _ _).trans HK1.out)) _
   have hBF:Below w.heap.size w F:=by rw [hF];exact (below_set7 (below_set7 HB1.out (Nat.le_refl _) _ _ _ _ _ _ _) (Nat.le_refl _) _ _ _ _ _ _ _).setCell (p:=⟨w.heap.size+1,0,none⟩) (Nat.le_succ _) _
   have hOF:OvLo F w.heap.size o x1 x3 x4 x5:=HO.out.moves ⟨by rw [hF];simp [set7],fun b hb hlo=>⟨Nat.le_trans (by omega) hlo,by
    rw [hF]
    exact (heap_set_ne (p:=⟨w.heap.size+1,0,none⟩) (by show b≠w.heap.size+1;omega) _).trans ((heap7_ne (by omega) _ _ _ _ _ _ _).trans (heap7_ne (by omega) _ _ _ _ _ _ _))⟩⟩
   obtain ⟨c0,c1,c2,c3,c4,c5,c6,_⟩:=cells7 hXF
   have kF:F.cell? ⟨w.heap.size+1,0,none⟩=some (.bool true):=by rw [Lib.cell_of_heap hKF];rfl
   unfold set7 at hF;refine ⟨.tuple #[.agg #[.string o.name,.slice x1 o.uses.length y1,.int .i64 o.data,.slice x3 o.code.length y3,.slice x4 o.fixes.length y4,.slice x5 o.entries.length y5,.int .i64 o.main],.bool true],?_,?_⟩
   . rw [← hF]
     simp [results,Tryz.results95,go_sem,c0,c1,c2,c3,c4,c5,c6,kF]
   . rw [← hF]
     exact ⟨hBF,Or.inr ⟨o,_,HN.out,rfl,x1,y1,x3,y3,x4,y4,x5,y5,rfl,hOF,HCp.out⟩⟩
end Go.Proofs.YtndkhgakfodldaaGreatDoor

namespace Go.Proofs.YtndkhgakfodldaaGreatDoor
set_option maxRecDepth 100000
set_option maxHeartbeats 6400000
open Go.RowKit Go.Shelf
set_option linter.unusedSimpArgs false
set_option linter.unusedVariables false
def rdO (l:List UInt8):Option Ob:=match wOk l with
 | some o=>if oChk o=0 then some o else none
 | none=>none
def RdEnd (w:World) (l:List UInt8) (e:Ending) (w':World):Prop:=
 Below w.heap.size w w'/\((32768<l.length/\e = .returned (.tuple #[.agg #[.string ⟨#[]⟩,.slice none 0 0,.int .i64 0,.slice none 0 0,.slice none 0 0,.slice none 0 0,.int .i64 0],.int .i64 2]))\/(l.length<=32768/\rdO l=none/\e = .returned (.tuple #[.agg #[.string ⟨#[]⟩,.slice none 0 0,.int .i64 0,.slice none 0 0,.slice none 0 0,.slice none 0 0,.int .i64 0],.int .i64 1]))\/(l.length<=32768/\∃ o v,rdO l=some o/\e = .returned (.tuple #[v,.int .i64 0])/\isOb w.heap.size w' o v))
theorem objRead_any (l:List UInt8) (w:World) (hl:l.length<=9223372036854775807) :
 Calls Tryz.prog 37 #[.string (Fx.strOf l)] w fun e w'=>RdEnd w l e w':=by
 have hz:(Fx.strOf l).size=l.length:=Fx.strOf_size l
 obtain ⟨s,hs⟩:∃ s,s=Fx.strOf l:=⟨_,rfl⟩
 rw [← hs] at hz ⊢
 by_cases hc:32768<l.length
 . have HC:=hid hc
   clear hs;go_enter Tryz.func37,Tryz.ntmps37;go_wp2_with fail;refine bodyPost_ret (v:=.tuple #[.agg #[.string ⟨#[]⟩,.slice none 0 0,.int .i64 0,.slice none 0 0,.slice none 0 0,.slice none 0 0,.int .i64 0],.int .i64 2]) (by simp [results,Tryz.results37,go_sem]) rfl ⟨?_,Or.inl ⟨HC.out,rfl⟩⟩;exact al1 _ _
 . have HC:Hid (l.length<=32768):=by show _<=_;omega
   have HW:=hid (Whole_any l (w.alloc (.cells #[.string ⟨#[]⟩,.slice none 0 0,.int .i64 0,.slice none 0 0,.slice none 0 0,.slice none 0 0,.int .i64 0] 62)) (by omega));rw [← hs] at HW;have HP:Hid (rdO l=match wOk l with | some o=>if oChk o=0 then some o else none | none=>none):=rfl;clear hs;go_enter Tryz.func37,Tryz.ntmps37;go_wp2_with fail;refine HW.out.mono ?_;rintro e w1 ⟨hb1,⟨hn,rfl⟩ | ⟨o,v,hn,rfl,hv⟩⟩
   . have HN:Hid (rdO l=none):=by show _=_;rw [HP.out,hn]
     have HB1:=hid (thenB (al1 w _) hb1);have HX1:=hid (later_blk (heap_newP w (.cells #[.string ⟨#[]⟩,.slice none 0 0,.int .i64 0,.slice none 0 0,.slice none 0 0,.slice none 0 0,.int .i64 0] 62)) hb1);obtain ⟨q0,q1,q2,q3,q4,q5,q6,qz⟩:=cells7 HX1.out
     have qf:∀ j,w1.frozen? ⟨w.heap.size,j,none⟩=false:=fun j=>Lib.frozen_of_heap HX1.out j
     clear hb1 hn q0 q1 q2 q3 q4 q5 q6 qz qf;go_upto_region 4 with fail
     obtain ⟨W1,hW1⟩:∃ W1,W1=w1.alloc (.cells #[.string ⟨#[]⟩,.slice none 0 0,.int .i64 0,.slice none 0 0,.slice none 0 0,.slice none 0 0,.int .i64 0] 62):=⟨_,rfl⟩
     have hBW:Below w1.heap.size w1 W1:=by rw [hW1];exact al1 _ _
     have HBW:=hid (thenB HB1.out hBW);have HXW:=hid (later_blk HX1.out hBW)
     try rw [← hW1]
     clear hW1 hBW HX1 HB1;obtain ⟨q0,q1,q2,q3,q4,q5,q6,qz⟩:=cells7 HXW.out
     have qf:∀ j,W1.frozen? ⟨w.heap.size,j,none⟩=false:=fun j=>Lib.frozen_of_heap HXW.out j
     go_wp2_with fail;refine bodyPost_ret (v:=.tuple #[.agg #[.string ⟨#[]⟩,.slice none 0 0,.int .i64 0,.slice none 0 0,.slice none 0 0,.slice none 0 0,.int .i64 0],.int .i64 1]) (by simp [results,Tryz.results37,go_sem,q0,q1,q2,q3,q4,q5,q6,qz]) rfl ⟨?_,Or.inr (Or.inl ⟨HC.out,HN.out,rfl⟩)⟩;exact below_set7 HBW.out (Nat.le_refl _) _ _ _ _ _ _ _
   . obtain ⟨x1,y1,x3,y3,x4,y4,x5,y5,rfl,hO,hcp⟩:=hv
     have HB1:=hid (thenB (al1 w _) hb1);have HX1:=hid (later_blk (heap_newP w (.cells #[.string ⟨#[]⟩,.slice none 0 0,.int .i64 0,.slice none 0 0,.slice none 0 0,.slice none 0 0,.int .i64 0] 62)) hb1);have HO1:=hid hO;have HCp:=hid hcp
     have HPn:Hid (rdO l=if oChk o=0 then some o else none):=by show _=_;rw [HP.out,hn]
     clear hb1 hn hO hcp;go_upto_region 4 with fail
     obtain ⟨W1,hW1⟩:∃ W1,W1=w1.alloc (.cells #[.string o.name,.slice x1 o.uses.length y1,.int .i64 o.data,.slice x3 o.code.length y3,.slice x4 o.fixes.length y4,.slice x5 o.entries.length y5,.int .i64 o.main] 62):=⟨_,rfl⟩
     have hBW:Below w1.heap.size w1 W1:=by rw [hW1];exact al1 _ _
     have HYW:Hid (W1.heap[w1.heap.size]? = some (.cells #[.string o.name,.slice x1 o.uses.length y1,.int .i64 o.data,.slice x3 o.code.length y3,.slice x4 o.fixes.length y4,.slice x5 o.entries.length y5,.int .i64 o.main] 62 (0,0))):=by rw [hW1];exact heap_newP _ _
     have HBW:=hid (thenB HB1.out hBW);have HXW:=hid (later_blk HX1.out hBW);have HOW:=hid (HO1.out.moves (w':=W1) (lo':=w.heap.size+1) ⟨hBW.size,fun b hb hlo=>⟨by simpa using hlo,hBW.block b hb⟩⟩)
     have hne:w.heap.size≠w1.heap.size:=by have:=lt_of_heap HX1.out;omega
     try rw [← hW1]
     clear hW1 hBW HX1 HB1 HO1;have HCk:=hid (objCheck_any o x1 y1 x3 y3 x4 y4 x5 y5 W1 HOW.out.ov HCp.out);obtain ⟨u0,u1,u2,u3,u4,u5,u6,uz⟩:=cells7 HYW.out;go_wp2_with fail;refine HCk.out.mono ?_;rintro e w2 ⟨rfl,hb2⟩;have HB2:=hid (thenB HBW.out hb2);have HX2:=hid (later_blk HXW.out hb2);have HY2:=hid (later_blk HYW.out hb2);have HO2:=hid (HOW.out.moves (w':=w2) (lo':=w.heap.size+1) ⟨hb2.size,fun b hb hlo=>⟨hlo,hb2.block b hb⟩⟩);clear hb2 u0 u1 u2 u3 u4 u5 u6 uz HBW HXW HYW HOW HCk;obtain ⟨u0,u1,u2,u3,u4,u5,u6,uz⟩:=cells7 HY2.out;obtain ⟨q0,q1,q2,q3,q4,q5,q6,qz⟩:=cells7 HX2.out
     have qf:∀ j,w2.frozen? ⟨w.heap.size,j,none⟩=false:=fun j=>Lib.frozen_of_heap HX2.out j
     by_cases h0:oChk o=0
     . have HN:Hid (rdO l=some o):=by show _=_;rw [HPn.out,if_pos h0]
       rw [h0];clear h0;go_wp2_with fail;refine bodyPost_ret (v:=.tuple #[.agg #[.string o.name,.slice x1 o.uses.length y1,.int .i64 o.data,.slice x3 o.code.length y3,.slice x4 o.fixes.length y4,.slice x5 o.entries.length y5,.int .i64 o.main],.int .i64 0]) (by simp [results,Tryz.results37,go_sem,q0,q1,q2,q3,q4,q5,q6,qz,hne,hne.symm]) rfl ⟨below_set7 HB2.out (Nat.le_refl _) _ _ _ _ _ _ _,Or.inr (Or.inr ⟨HC.out,o,_,HN.out,rfl,x1,y1,x3,y3,x4,y4,x5,y5,rfl,?_,HCp.out⟩)⟩;exact HO2.out.moves ⟨by simp,fun b hb hlo=>⟨by omega,heap7_ne (by omega) (.string o.name) (.slice x1 o.uses.length y1) (.int .i64 o.data) (.slice x3 o.code.length y3) (.slice x4 o.fixes.length y4) (.slice x5 o.entries.length y5) (.int .i64 o.main)⟩⟩
     . have HN:Hid (rdO l=none):=by show _=_;rw [HPn.out,if_neg h0]
       have hb0:(oChk o != 0)=true:=by rw [bne_iff_ne];exact h0
       generalize oChk o=E at *;clear h0;go_wp2_with fail;refine bodyPost_ret (v:=.tuple #[.agg #[.string ⟨#[]⟩,.slice none 0 0,.int .i64 0,.slice none 0 0,.slice none 0 0,.slice none 0 0,.int .i64 0],.int .i64 1]) (by simp [results,Tryz.results37,go_sem,q0,q1,q2,q3,q4,q5,q6,qz]) rfl ⟨below_set7 HB2.out (Nat.le_refl _) _ _ _ _ _ _ _,Or.inr (Or.inl ⟨HC.out,HN.out,rfl⟩)⟩
end Go.Proofs.YtndkhgakfodldaaGreatDoor
