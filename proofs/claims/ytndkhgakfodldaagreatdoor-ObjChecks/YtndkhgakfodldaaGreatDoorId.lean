/-
  The program's reader, as package obj asks it: how many there are; instructions, fixes.
-/
import Derived.Test.YtndkhgakfodldaaGreatDoorXc
import Derived.Test.YtndkhgakfodldaaGreatDoorBc
import Derived.Test.YtndkhgakfodldaaGreatDoorMc
namespace Go.Proofs.YtndkhgakfodldaaGreatDoor
set_option maxRecDepth 100000
set_option maxHeartbeats 1600000
open Go.RowKit Go.Shelf
set_option linter.unusedSimpArgs false
set_option linter.unusedVariables false
def negP:List PanicEntry:=[{ v:=.iface 9 (.string ⟨#[102,101,119,101,114,32,116,104,97,110,32,110,111,110,101]⟩),recovered:=false }]
def Thrown (c:List PanicEntry):Prop:=c=Fx.shortP\/c=negP
def Rdd {α:Type} (rb:Nat) (w:World) (r:Option (α × List UInt8)) (rep:World->α->Value->Prop) (e:Ending) (w':World):Prop:=
 w.grownBy w' (some rb)/\((r=none/\∃ c,Thrown c/\e = .panicked c)\/∃ x l v,r=some (x,l)/\e = .returned v/\rep w' x v/\Fx.Rdr w' rb l)
def isI (_:World) (n:Int) (v:Value):Prop:=v = .int .i64 n
def isS (_:World) (s:ByteArray) (v:Value):Prop:=v = .string s
theorem rd_of {α β:Type} {rb:Nat} {w w':World} {r:Option (α × List UInt8)} {rep:α->Value} {e:Ending} (f:α->β) {rep':World->β->Value->Prop} (hr:∀ x W,rep' W (f x) (rep x)) (h:Fx.REnd rb w r rep e w'):Rdd rb w (r.map fun q=>(f q.1,q.2)) rep' e w':=by
 obtain ⟨hg,h⟩:=h;refine ⟨hg,?_⟩
 rcases h with ⟨h1,h2⟩ | ⟨x,l,h1,h2,h3⟩
 . exact Or.inl ⟨by rw [h1];rfl,_,Or.inl rfl,h2⟩
 . exact Or.inr ⟨f x,l,_,by rw [h1];rfl,h2,hr x w',h3⟩
def pTx (l:List UInt8):Option (ByteArray × List UInt8):=(Fx.pText l).map fun q=>(Fx.strOf q.1,q.2)
theorem map_same {α β:Type} (r:Option (α × β)):(r.map fun q=>(id q.1,q.2))=r:=by cases r<;>rfl
theorem rdNum (rb:Nat) (l:List UInt8) (w:World) (h:Fx.Rdr w rb l) (hl:l.length<=1000000):Calls Tryz.prog 139 #[.pointer (some ⟨rb,0,none⟩)] w fun e w'=>Rdd rb w (Fx.pNum l) isI e w':=
 (Fx.Number_any rb l w h (by omega)).mono fun e w' h=>by have:=rd_of id (rep':=isI) (fun _ _=>rfl) h;rwa [map_same] at this
theorem rdByte (rb:Nat) (l:List UInt8) (w:World) (h:Fx.Rdr w rb l) (hl:l.length<=1000000):Calls Tryz.prog 142 #[.pointer (some ⟨rb,0,none⟩)] w fun e w'=>Rdd rb w (Fx.pByte l) isI e w':=
 (Fx.Byte_any rb l w h (by omega)).mono fun e w' h=>by have:=rd_of id (rep':=isI) (fun _ _=>rfl) h;rwa [map_same] at this
theorem rdText (rb:Nat) (l:List UInt8) (w:World) (h:Fx.Rdr w rb l) (hl:l.length<=1000000):Calls Tryz.prog 137 #[.pointer (some ⟨rb,0,none⟩)] w fun e w'=>Rdd rb w (pTx l) isS e w':=
 (Fx.Text_any Fx.cloneOk rb l w h (by omega)).mono fun e w' h=>rd_of Fx.strOf (rep':=isS) (fun _ _=>rfl) h
theorem num_left {l r:List UInt8} {n:Int} (h:Fx.pNum l=some (n,r)):r.length+8=l.length:=by
 rw [Fx.pNum_back h,List.length_append];show _=8+_;omega
theorem byte_left {l r:List UInt8} {n:Int} (h:Fx.pByte l=some (n,r)):r.length+1=l.length:=by
 rw [Fx.pByte_back h,List.length_cons]
theorem tx_left {l r:List UInt8} {n:ByteArray} (h:pTx l=some (n,r)):r.length+1<=l.length:=by
 unfold pTx at h
 cases hq:Fx.pText l with
 | none=>rw [hq] at h;cases h
 | some q=>
   rw [hq] at h;cases h;have:=Fx.pText_back (x:=q.1) (r:=q.2) hq;rw [this,List.length_append,Fx.textB,List.length_cons];omega
def pCnt (l:List UInt8):Option (Nat × List UInt8):=(Fx.pNum l).bind fun q=>if q.1<0 then none else some (q.1.toNat,q.2)
def isN (_:World) (n:Nat) (v:Value):Prop:=v = .int .i64 n
theorem numL_fit {l r:List UInt8} {n:Int} (h:Fx.pNum l=some (n,r)) : -9223372036854775808<=n/\n<=9223372036854775807:=by
 unfold Fx.pNum at h
 cases hq:Fx.pTake 8 l with
 | none=>rw [hq] at h;cases h
 | some q=>
   rw [hq] at h;cases h;obtain ⟨a,b,c,d,e,f,g,i,hx⟩:=Fx.eight (Fx.pTake_len (x:=q.1) (r:=q.2) hq).1;show -9223372036854775808<=Fx.valL q.1/\Fx.valL q.1<=9223372036854775807;rw [hx,Fx.valL_eight];generalize Fx.horn _ _ _ _ _ _ _ _=z;unfold wrap64;omega
theorem rdCount (rb:Nat) (l:List UInt8) (w:World) (h:Fx.Rdr w rb l) (hl:l.length<=1000000):Calls Tryz.prog 176 #[.pointer (some ⟨rb,0,none⟩)] w fun e w'=>Rdd rb w (pCnt l) isN e w':=by
 have HN:=hid (rdNum rb l w h hl);have HP:Hid (pCnt l=(Fx.pNum l).bind fun q=>if q.1<0 then none else some (q.1.toNat,q.2)):=rfl;clear h;go_enter Tryz.func176,Tryz.ntmps176;go_wp2_with fail;refine HN.out.mono ?_;rintro e w1 ⟨hg,⟨hp,c,hc,rfl⟩ | ⟨n,r,v,hp,rfl,hv,hr⟩⟩
 . exact ⟨rfl,hg,Or.inl ⟨by rw [HP.out,hp];rfl,c,hc,rfl⟩⟩
 . obtain rfl:v = .int .i64 n:=hv
   have HG:=hid hg;have HR:=hid hr
   by_cases t:n<0
   . have HE:Hid (pCnt l=none):=by show _=_;rw [HP.out,hp];exact if_pos t
     clear hp hg hr;go_wp2_with fail;exact ⟨rfl,HG.out,Or.inl ⟨HE.out,_,Or.inr rfl,rfl⟩⟩
   . have HE:Hid (pCnt l=some (n.toNat,r)):=by show _=_;rw [HP.out,hp];exact if_neg t
     clear hp hg hr;go_wp2_with fail
     go_returns
     exact ⟨HG.out,Or.inr ⟨n.toNat,r,_,HE.out,rfl,by unfold isN;rw [Int.toNat_of_nonneg (by omega)];rfl,HR.out⟩⟩
theorem grown_after {w W w':World} {r:Option Nat} (hb:Below w.heap.size w W) (hg:W.grownBy w' r):w.grownBy w' r:=
 ⟨hg.os.trans hb.os,hg.tape.trans hb.tape,hg.output.trans hb.output,Nat.le_trans hb.size hg.size,fun k hk hne=>(hg.block k (Nat.lt_of_lt_of_le hk hb.size) hne).trans (hb.block k hk)⟩
theorem grown_put {w w':World} {r:Option Nat} (h:w.grownBy w' r) {a:Addr} {u:Value} (ha:w.heap.size<=a.block):w.grownBy (w'.setCell a u) r:=
 ⟨h.os,h.tape,h.output,by simpa using h.size,fun k hk hne=>(Below.heap_setCell w' a u k (by omega)).trans (h.block k hk hne)⟩
theorem rdr_alloc {w:World} {rb:Nat} {l:List UInt8} (h:Fx.Rdr w rb l) (o:Obj):Fx.Rdr (w.alloc o) rb l:=h.below (al1 w o)
theorem rdr_put {w:World} {rb:Nat} {l:List UInt8} (h:Fx.Rdr w rb l) {a:Addr} {u:Value} (ha:a.block≠rb):Fx.Rdr (w.setCell a u) rb l:=
 h.kept (r:=some a.block) ⟨rfl,rfl,rfl,by simp,fun k _ hne=>Below.heap_setCell w a u k (fun e=>hne (by rw [e]))⟩ (fun e=>ha (by cases e;rfl))
theorem gk {w w':World} {rb b:Nat} {x:Obj} (hg:w.grownBy w' (some rb)) (h:w.heap[b]? = some x) (hn:b≠rb):w'.heap[b]? = some x:=(hg.block b (lt_of_heap h) (fun e=>hn (by cases e;rfl))).trans h
def pInstr (l:List UInt8):Option (Gi × List UInt8):=(Fx.pByte l).bind fun a=>(Fx.pNum a.2).bind fun b=>(Fx.pNum b.2).map fun c=>(⟨a.1,b.1,c.1⟩,c.2)
def pFixy (l:List UInt8):Option (Gf × List UInt8):=(Fx.pNum l).bind fun a=>(Fx.pByte a.2).bind fun b=>(Fx.pNum b.2).map fun c=>(⟨a.1,b.1,c.1⟩,c.2)
def isGi (_:World) (i:Gi) (v:Value):Prop:=v = .agg #[.int .i64 i.op,.int .i64 i.a,.int .i64 i.b]
def isGf (_:World) (i:Gf) (v:Value):Prop:=v = .agg #[.int .i64 i.at_,.int .i64 i.kind,.int .i64 i.m]
theorem rdInstr (rb:Nat) (l:List UInt8) (w:World) (h:Fx.Rdr w rb l) (hl:l.length<=1000000):Calls Tryz.prog 141 #[.pointer (some ⟨rb,0,none⟩)] w fun e w'=>Rdd rb w (pInstr l) isGi e w':=by
 have hlt:=h.lt
 have hn0:w.heap.size≠rb:=by omega
 have HR:=hid h;have HP:Hid (pInstr l=(Fx.pByte l).bind fun a=>(Fx.pNum a.2).bind fun b=>(Fx.pNum b.2).map fun c=>(⟨a.1,b.1,c.1⟩,c.2)):=rfl;clear h;go_enter Tryz.func141,Tryz.ntmps141;go_wp2_with fail;refine (rdByte rb l _ (rdr_alloc HR.out _) hl).mono ?_;rintro e w1 ⟨hg,⟨hp,c,hc,rfl⟩ | ⟨k,l1,v,hp,rfl,hv,hr⟩⟩
 . exact ⟨rfl,grown_after (al1 _ _) hg,Or.inl ⟨by rw [HP.out,hp];rfl,c,hc,rfl⟩⟩
 obtain rfl:v = .int .i64 k:=hv
 have HP1:Hid (pInstr l=(Fx.pNum l1).bind fun b=>(Fx.pNum b.2).map fun c=>(⟨k,b.1,c.1⟩,c.2)):=by show _=_;rw [HP.out,hp];rfl
 have HX1:=hid (gk hg (heap_newP w (.cells #[.int .i64 0,.int .i64 0,.int .i64 0] 69)) hn0);have HG1:=hid (grown_after (al1 w _) hg);have HR1:=hid hr;have hl1:=byte_left hp;have hz1:=lt_of_heap HX1.out
 have hn1:w1.heap.size≠rb:=by have:=hr.lt;omega
 have hn01:w.heap.size≠w1.heap.size:=by omega
 clear hg hr hp HP;go_wp2_with fail;refine (rdNum rb l1 _ (rdr_alloc HR1.out _) (by omega)).mono ?_;rintro e w2 ⟨hg,⟨hp,c,hc,rfl⟩ | ⟨k2,l2,v,hp,rfl,hv,hr⟩⟩
 . exact ⟨rfl,Fx.grown_trans HG1.out (grown_after (al1 _ _) hg),Or.inl ⟨by rw [HP1.out,hp];rfl,c,hc,rfl⟩⟩
 obtain rfl:v = .int .i64 k2:=hv
 have HP2:Hid (pInstr l=(Fx.pNum l2).map fun c=>(⟨k,k2,c.1⟩,c.2)):=by show _=_;rw [HP1.out,hp];rfl
 have HX2:=hid (gk hg (heap_old HX1.out) hn0);have HI2:=hid (gk hg (heap_newP w1 (.cells #[.int .i64 k,.int .i64 0,.int .i64 0] 69)) hn1);have HG2:=hid (Fx.grown_trans HG1.out (grown_after (al1 w1 _) hg));have HR2:=hid hr;have hl2:=num_left hp;clear hg hr hp HP1 HX1 HR1;obtain ⟨i0,i1,i2,i3⟩:=cellsOf3 HI2.out;have iz:=lt_of_heap HI2.out;go_wp2_with fail;refine (rdNum rb l2 _ (rdr_put HR2.out (by simpa using hn1)) (by omega)).mono ?_;have HGs:=hid (grown_put (a:=⟨w1.heap.size,1,none⟩) (u:=.int .i64 k2) HG2.out (by show w.heap.size<=w1.heap.size;omega));rintro e w3 ⟨hg,⟨hp,c,hc,rfl⟩ | ⟨k3,l3,v,hp,rfl,hv,hr⟩⟩
 . exact ⟨rfl,Fx.grown_trans HGs.out hg,Or.inl ⟨by rw [HP2.out,hp];rfl,c,hc,rfl⟩⟩
 obtain rfl:v = .int .i64 k3:=hv
 have HP3:Hid (pInstr l=some (⟨k,k2,k3⟩,l3)):=by show _=_;rw [HP2.out,hp];rfl
 have HX3:=hid (gk hg ((heap_set_ne (p:=⟨w1.heap.size,1,none⟩) hn01 _).trans HX2.out) hn0);have HI3:Hid (w3.heap[w1.heap.size]? = some (.cells #[.int .i64 k,.int .i64 k2,.int .i64 0] 69)):=gk hg (heap_set HI2.out _) hn1;have HG3:=hid (Fx.grown_trans HGs.out hg);have HR3:=hid hr;clear hg hr hp HP2 i0 i1 i2 i3 iz HX2 HI2 HGs HG2 HR2;obtain ⟨i0,i1,i2,i3⟩:=cellsOf3 HI3.out;have iz:=lt_of_heap HI3.out;obtain ⟨j0,j1,j2,j3⟩:=cellsOf3 HX3.out;have jz:=lt_of_heap HX3.out;go_wp2_with fail;refine bodyPost_ret (v:=.agg #[.int .i64 k,.int .i64 k2,.int .i64 k3]) (by simp [results,Tryz.results141,go_sem,j0,j1,j2,i0,i1,i2,hn01,hn01.symm,jz,iz]) rfl ⟨?_,Or.inr ⟨_,l3,_,HP3.out,rfl,rfl,?_⟩⟩
 . exact grown_put (grown_put (grown_put (grown_put HG3.out (by show w.heap.size<=w1.heap.size;omega)) (Nat.le_refl _)) (Nat.le_refl _)) (Nat.le_refl _)
 . exact rdr_put (rdr_put (rdr_put (rdr_put HR3.out hn1) hn0) hn0) hn0
theorem rdFix (rb:Nat) (l:List UInt8) (w:World) (h:Fx.Rdr w rb l) (hl:l.length<=1000000):Calls Tryz.prog 144 #[.pointer (some ⟨rb,0,none⟩)] w fun e w'=>Rdd rb w (pFixy l) isGf e w':=by
 have hlt:=h.lt
 have hn0:w.heap.size≠rb:=by omega
 have HR:=hid h;have HP:Hid (pFixy l=(Fx.pNum l).bind fun a=>(Fx.pByte a.2).bind fun b=>(Fx.pNum b.2).map fun c=>(⟨a.1,b.1,c.1⟩,c.2)):=rfl;clear h;go_enter Tryz.func144,Tryz.ntmps144;go_wp2_with fail;refine (rdNum rb l _ (rdr_alloc HR.out _) hl).mono ?_;rintro e w1 ⟨hg,⟨hp,c,hc,rfl⟩ | ⟨k,l1,v,hp,rfl,hv,hr⟩⟩
 . exact ⟨rfl,grown_after (al1 _ _) hg,Or.inl ⟨by rw [HP.out,hp];rfl,c,hc,rfl⟩⟩
 obtain rfl:v = .int .i64 k:=hv
 have HP1:Hid (pFixy l=(Fx.pByte l1).bind fun b=>(Fx.pNum b.2).map fun c=>(⟨k,b.1,c.1⟩,c.2)):=by show _=_;rw [HP.out,hp];rfl
 have HX1:=hid (gk hg (heap_newP w (.cells #[.int .i64 0,.int .i64 0,.int .i64 0] 67)) hn0);have HG1:=hid (grown_after (al1 w _) hg);have HR1:=hid hr;have hl1:=num_left hp;have hz1:=lt_of_heap HX1.out
 have hn1:w1.heap.size≠rb:=by have:=hr.lt;omega
 have hn01:w.heap.size≠w1.heap.size:=by omega
 clear hg hr hp HP;go_wp2_with fail;refine (rdByte rb l1 _ (rdr_alloc HR1.out _) (by omega)).mono ?_;rintro e w2 ⟨hg,⟨hp,c,hc,rfl⟩ | ⟨k2,l2,v,hp,rfl,hv,hr⟩⟩
 . exact ⟨rfl,Fx.grown_trans HG1.out (grown_after (al1 _ _) hg),Or.inl ⟨by rw [HP1.out,hp];rfl,c,hc,rfl⟩⟩
 obtain rfl:v = .int .i64 k2:=hv
 have HP2:Hid (pFixy l=(Fx.pNum l2).map fun c=>(⟨k,k2,c.1⟩,c.2)):=by show _=_;rw [HP1.out,hp];rfl
 have HX2:=hid (gk hg (heap_old HX1.out) hn0);have HI2:=hid (gk hg (heap_newP w1 (.cells #[.int .i64 k,.int .i64 0,.int .i64 0] 67)) hn1);have HG2:=hid (Fx.grown_trans HG1.out (grown_after (al1 w1 _) hg));have HR2:=hid hr;have hl2:=byte_left hp;clear hg hr hp HP1 HX1 HR1;obtain ⟨i0,i1,i2,i3⟩:=cellsOf3 HI2.out;have iz:=lt_of_heap HI2.out;go_wp2_with fail;refine (rdNum rb l2 _ (rdr_put HR2.out (by simpa using hn1)) (by omega)).mono ?_;have HGs:=hid (grown_put (a:=⟨w1.heap.size,1,none⟩) (u:=.int .i64 k2) HG2.out (by show w.heap.size<=w1.heap.size;omega));rintro e w3 ⟨hg,⟨hp,c,hc,rfl⟩ | ⟨k3,l3,v,hp,rfl,hv,hr⟩⟩
 . exact ⟨rfl,Fx.grown_trans HGs.out hg,Or.inl ⟨by rw [HP2.out,hp];rfl,c,hc,rfl⟩⟩
 obtain rfl:v = .int .i64 k3:=hv
 have HP3:Hid (pFixy l=some (⟨k,k2,k3⟩,l3)):=by show _=_;rw [HP2.out,hp];rfl
 have HX3:=hid (gk hg ((heap_set_ne (p:=⟨w1.heap.size,1,none⟩) hn01 _).trans HX2.out) hn0);have HI3:Hid (w3.heap[w1.heap.size]? = some (.cells #[.int .i64 k,.int .i64 k2,.int .i64 0] 67)):=gk hg (heap_set HI2.out _) hn1;have HG3:=hid (Fx.grown_trans HGs.out hg);have HR3:=hid hr;clear hg hr hp HP2 i0 i1 i2 i3 iz HX2 HI2 HGs HG2 HR2;obtain ⟨i0,i1,i2,i3⟩:=cellsOf3 HI3.out;have iz:=lt_of_heap HI3.out;obtain ⟨j0,j1,j2,j3⟩:=cellsOf3 HX3.out;have jz:=lt_of_heap HX3.out;go_wp2_with fail;refine bodyPost_ret (v:=.agg #[.int .i64 k,.int .i64 k2,.int .i64 k3]) (by simp [results,Tryz.results144,go_sem,j0,j1,j2,i0,i1,i2,hn01,hn01.symm,jz,iz]) rfl ⟨?_,Or.inr ⟨_,l3,_,HP3.out,rfl,rfl,?_⟩⟩
 . exact grown_put (grown_put (grown_put (grown_put HG3.out (by show w.heap.size<=w1.heap.size;omega)) (Nat.le_refl _)) (Nat.le_refl _)) (Nat.le_refl _)
 . exact rdr_put (rdr_put (rdr_put (rdr_put HR3.out hn1) hn0) hn0) hn0
end Go.Proofs.YtndkhgakfodldaaGreatDoor

namespace Go.Proofs.YtndkhgakfodldaaGreatDoor
set_option maxRecDepth 100000
set_option maxHeartbeats 6400000
open Go.RowKit Go.Shelf
set_option linter.unusedSimpArgs false
set_option linter.unusedVariables false
def objB (o:Ob):List UInt8:=Fx.textB o.name++(listB Fx.textB o.uses++(Fx.numB o.data++(listB instrB o.code++(listB fixBy o.fixes++(listB Fx.numB o.entries++Fx.numB o.main)))))
def wrO (o:Ob):List UInt8 × Int:=if oChk o=0 then (if 32768<(objB o).length then ([],2) else (objB o,0)) else ([],oChk o)
theorem row_conv {B:Nat} {w:World} {u:Value} {l:List UInt8} (h:Fx.Row B w u l) (hl:l≠[]):(convert 140 9 u).run Tryz.prog w = .ok (.string (Fx.strOf l)) w:=by
 rcases h.2 with ⟨hv,h0⟩ | ⟨g,cap,cur,hv,hB,hg,_⟩
 . exact absurd (List.eq_nil_of_length_eq_zero h0) hl
 . rw [hv]
   refine Fx.conv_at w g cap l (fun j hj=>?_);have:=h.cells (g:=g) (by rw [hv];rfl) j (Fx.byteV l[j]) (by simp [Fx.bytesV,hj]);rw [show (⟨g,0,none⟩:Addr).add j=⟨g,j,none⟩ from by unfold Addr.add;split<;>simp_all] at this;exact this
theorem row_slice {B:Nat} {w:World} {u:Value} {l:List UInt8} (h:Fx.Row B w u l):∃ a cap,u = .slice a l.length cap:=by
 obtain ⟨a,cap,hv,_⟩:=ownsRow_form h;exact ⟨a,cap,hv⟩
theorem oChk_parts {o:Ob} (h:oChk o=0):oMany o=false/\namesB o=true/\codeB o=true/\fixesB o=true:=by
 unfold oChk at h
 split at h
 . cases h
 . rename_i h1
   split at h
   . rename_i h2
     simp only [Bool.and_eq_true] at h2;exact ⟨by simpa using h1,h2⟩
   . cases h
theorem nameB_size {s:ByteArray} (h:Lx.nameB s.data.toList=true):s.size<=8:=by
 unfold Lx.nameB at h;simp only [Bool.and_eq_true,decide_eq_true_eq] at h;have:=h.1.2;rw [Lx.len_toList] at this;exact this
theorem fix_ge {o:Ob} (h:fixesB o=true):∀ j (hj:j<o.fixes.length),(j:Int)<=o.fixes[j].at_/\o.fixes[j].at_<o.code.length:=by
 intro j
 induction j with
 | zero=>
   intro hj;have:=allTo_true.1 h 0 hj;unfold fixAt at this;rw [List.getElem?_eq_getElem hj] at this;simp only [Bool.and_eq_true,placeB,decide_eq_true_eq] at this;exact ⟨this.2.1.1,this.2.1.2⟩
 | succ j ih=>
   intro hj;have h1:=ih (by omega);have:=allTo_true.1 h (j+1) hj;unfold fixAt at this;rw [List.getElem?_eq_getElem hj] at this;simp only [Bool.and_eq_true,placeB,decide_eq_true_eq] at this
   have h2:lastAt o (j+1)=o.fixes[j].at_:=by show (match o.fixes[j]? with | some f=>f.at_ | none=>-1)=_;rw [List.getElem?_eq_getElem (by omega)]
   rw [h2] at this;exact ⟨by have:=this.1;omega,this.2.1.2⟩
theorem right_small {o:Ob} (h:oChk o=0):o.name.size<=8/\(∀ s ∈ o.uses,s.size<=8)/\o.uses.length<=3/\o.code.length<=2048/\o.fixes.length<=2048/\o.entries.length<=6:=by
 obtain ⟨h1,h2,h3,h4⟩:=oChk_parts h;unfold oMany at h1;simp only [Bool.or_eq_false_iff,decide_eq_false_iff_not] at h1;unfold namesB at h2;rw [Bool.and_eq_true] at h2;refine ⟨nameB_size h2.1,fun s hs=>?_,by omega,by omega,?_,by omega⟩
 . obtain ⟨j,hj,rfl⟩:=List.getElem_of_mem hs
   have:=allTo_true.1 h2.2 j hj;unfold useAt at this;rw [List.getElem?_eq_getElem hj] at this;simp only [Bool.and_eq_true] at this;exact nameB_size this.1
 . rcases Nat.eq_zero_or_pos o.fixes.length with h0 | h0
   . omega
   . have:=fix_ge h4 (o.fixes.length - 1) (by omega)
     omega
theorem DAt.lower {w:World} {a:Option Addr} {n:Nat} {ds:List D} (h:DAt w Tt a n ds):DAt w (·<w.heap.size) a n ds:=h.moves ⟨Nat.le_refl _,fun b hb _=>⟨hb,rfl⟩⟩
theorem objWrite_any (o:Ob) (x1:Option Addr) (y1:Nat) (x3:Option Addr) (y3:Nat) (x4:Option Addr) (y4:Nat) (x5:Option Addr) (y5:Nat) (w:World) (hO:OvAt w o x1 x3 x4 x5) (hcp:o.uses.length<=y1) :
 Calls Tryz.prog 35 #[.agg #[.string o.name,.slice x1 o.uses.length y1,.int .i64 o.data,.slice x3 o.code.length y3,.slice x4 o.fixes.length y4,.slice x5 o.entries.length y5,.int .i64 o.main]] w fun e w'=>e = .returned (.tuple #[.string (Fx.strOf (wrO o).1),.int .i64 (wrO o).2])/\Below w.heap.size w w':=by
 have HC:=hid (objCheck_any o x1 y1 x3 y3 x4 y4 x5 y5 (w.alloc (.cells #[.string o.name,.slice x1 o.uses.length y1,.int .i64 o.data,.slice x3 o.code.length y3,.slice x4 o.fixes.length y4,.slice x5 o.entries.length y5,.int .i64 o.main] 62)) (hO.later (al1 _ _)) hcp)
 by_cases h0:oChk o=0
 . obtain ⟨k1,k2,k3,k4,k5,k6⟩:=right_small h0
   have HQ:Hid (wrO o=if 32768<(objB o).length then ([],2) else (objB o,0)):=if_pos h0;rw [h0] at HC;have HO:=hid hO;have HK:=hid k2;clear hO hcp h0 k2;go_enter Tryz.func35,Tryz.ntmps35;go_wp2_with fail;refine HC.out.mono ?_;rintro e w1 ⟨rfl,hb1⟩;have HB1:=hid (thenB (al1 w _) hb1);have HX1:=hid (later_bk (heap_newP w (.cells #[.string o.name,.slice x1 o.uses.length y1,.int .i64 o.data,.slice x3 o.code.length y3,.slice x4 o.fixes.length y4,.slice x5 o.entries.length y5,.int .i64 o.main] 62)) hb1);have HO1:=hid (HO.out.later HB1.out);clear hb1 HO;have HU:=hid (HO1.out.uses.lower);have HCo:=hid (HO1.out.code.lower);have HFx:=hid (HO1.out.fixes.lower);have HEn:=hid (HO1.out.entries.lower);have hz1:=lt_of_heap HX1.out
   have HX:Hid (∀ W,Below w1.heap.size w1 W->W.cell? ⟨w.heap.size,0,none⟩=some (.string o.name)/\W.cell? ⟨w.heap.size,1,none⟩=some (.slice x1 o.uses.length y1)/\W.cell? ⟨w.heap.size,2,none⟩=some (.int .i64 o.data)/\W.cell? ⟨w.heap.size,3,none⟩=some (.slice x3 o.code.length y3)/\W.cell? ⟨w.heap.size,4,none⟩=some (.slice x4 o.fixes.length y4)/\W.cell? ⟨w.heap.size,5,none⟩=some (.slice x5 o.entries.length y5)/\W.cell? ⟨w.heap.size,6,none⟩=some (.int .i64 o.main)/\w.heap.size<W.heap.size):=fun W hW=>by
    have h:=later_bk HX1.out hW;obtain ⟨r0,r1,r2,r3,r4,r5,r6,_⟩:=cells7 h;exact ⟨r0,r1,r2,r3,r4,r5,r6,lt_of_heap h⟩
   obtain ⟨q0,q1,q2,q3,q4,q5,q6,qz⟩:=HX.out w1 (Below.refl _ _);go_wp2_with fail;refine (text_ret o.name (Fx.Row.nil w1.heap.size w1) (Nat.le_refl _) (by simp) (by omega)).mono ?_;rintro e w2 ⟨u2,rfl,h2,b2⟩;have R2:=hid h2;have B2:=hid ((Below.refl w1.heap.size w1).trans b2)
   have N2:Hid (∃ l,l=[]++Fx.textB o.name):=⟨_,rfl⟩
   obtain ⟨l2,e2⟩:=N2.out;rw [← e2] at R2
   have L2:Hid (l2.length<=9):=by
    show _<=_;rw [e2,List.length_append]
    rw [textB_len];simp only [List.length_nil];omega
   have E2:=hid e2;have hz2:=b2.size;clear h2 b2 q0 q1 q2 q3 q4 q5 q6 qz e2 N2;obtain ⟨q0,q1,q2,q3,q4,q5,q6,qz⟩:=HX.out w2 B2.out;go_wp2_with fail;refine (appendTexts_any w1.heap.size _ _ o.uses x1 y1 _ R2.out B2.out.size (HU.out.moves (moves_below B2.out (Nat.le_refl _))) (by have:=L2.out;omega) (fun s hs=>by have:=HK.out s hs;omega)).mono ?_;rintro e w3 ⟨u3,rfl,h3,b3⟩;have R3:=hid h3;have B3:=hid (B2.out.trans b3)
   have N3:Hid (∃ l,l=l2++listB Fx.textB o.uses):=⟨_,rfl⟩
   obtain ⟨l3,e3⟩:=N3.out;rw [← e3] at R3
   have L3:Hid (l3.length<=9+(8+3*256)):=by
    show _<=_;rw [e3,List.length_append]
    have h1:=listB_le Fx.textB 256 o.uses (fun s hs=>textB_le (by have:=HK.out s hs;omega));have h2:=L2.out;omega
   have E3:=hid e3;have hz3:=b3.size;clear h3 b3 q0 q1 q2 q3 q4 q5 q6 qz e3 N3;obtain ⟨q0,q1,q2,q3,q4,q5,q6,qz⟩:=HX.out w3 B3.out;go_wp2_with fail;refine (num_ret o.data R3.out B3.out.size (by have:=L3.out;omega)).mono ?_;rintro e w4 ⟨u4,rfl,h4,b4,_⟩;have R4:=hid h4;have B4:=hid (B3.out.trans b4)
   have N4:Hid (∃ l,l=l3++Fx.numB o.data):=⟨_,rfl⟩
   obtain ⟨l4,e4⟩:=N4.out;rw [← e4] at R4
   have L4:Hid (l4.length<=9+(8+3*256)+8):=by
    show _<=_;rw [e4,List.length_append]
    rw [numB_eight];have h2:=L3.out;omega
   have E4:=hid e4;have hz4:=b4.size;clear h4 b4 q0 q1 q2 q3 q4 q5 q6 qz e4 N4;obtain ⟨q0,q1,q2,q3,q4,q5,q6,qz⟩:=HX.out w4 B4.out;go_wp2_with fail;refine (appendInstrs_any w1.heap.size _ _ o.code x3 y3 _ R4.out B4.out.size (HCo.out.moves (moves_below B4.out (Nat.le_refl _))) (by have:=L4.out;omega)).mono ?_;rintro e w5 ⟨u5,rfl,h5,b5⟩;have R5:=hid h5;have B5:=hid (B4.out.trans b5)
   have N5:Hid (∃ l,l=l4++listB instrB o.code):=⟨_,rfl⟩
   obtain ⟨l5,e5⟩:=N5.out;rw [← e5] at R5
   have L5:Hid (l5.length<=9+(8+3*256)+8+(8+17*2048)):=by
    show _<=_;rw [e5,List.length_append]
    have h1:=listB_le instrB 17 o.code (fun x _=>Nat.le_of_eq (instrB_len x));have h2:=L4.out;omega
   have E5:=hid e5;have hz5:=b5.size;clear h5 b5 q0 q1 q2 q3 q4 q5 q6 qz e5 N5;obtain ⟨q0,q1,q2,q3,q4,q5,q6,qz⟩:=HX.out w5 B5.out;go_wp2_with fail;refine (appendFixes_any w1.heap.size _ _ o.fixes x4 y4 _ R5.out B5.out.size (HFx.out.moves (moves_below B5.out (Nat.le_refl _))) (by have:=L5.out;omega)).mono ?_;rintro e w6 ⟨u6,rfl,h6,b6⟩;have R6:=hid h6;have B6:=hid (B5.out.trans b6)
   have N6:Hid (∃ l,l=l5++listB fixBy o.fixes):=⟨_,rfl⟩
   obtain ⟨l6,e6⟩:=N6.out;rw [← e6] at R6
   have L6:Hid (l6.length<=9+(8+3*256)+8+2*(8+17*2048)):=by
    show _<=_;rw [e6,List.length_append]
    have h1:=listB_le fixBy 17 o.fixes (fun x _=>Nat.le_of_eq (fixBy_len x));have h2:=L5.out;omega
   have E6:=hid e6;have hz6:=b6.size;clear h6 b6 q0 q1 q2 q3 q4 q5 q6 qz e6 N6;obtain ⟨q0,q1,q2,q3,q4,q5,q6,qz⟩:=HX.out w6 B6.out;go_wp2_with fail;refine (appendNums_any w1.heap.size _ _ o.entries x5 y5 _ R6.out B6.out.size (HEn.out.moves (moves_below B6.out (Nat.le_refl _))) (by have:=L6.out;omega)).mono ?_;rintro e w7 ⟨u7,rfl,h7,b7⟩;have R7:=hid h7;have B7:=hid (B6.out.trans b7)
   have N7:Hid (∃ l,l=l6++listB Fx.numB o.entries):=⟨_,rfl⟩
   obtain ⟨l7,e7⟩:=N7.out;rw [← e7] at R7
   have L7:Hid (l7.length<=9+(8+3*256)+8+2*(8+17*2048)+(8+8*6)):=by
    show _<=_;rw [e7,List.length_append]
    have h1:=listB_le Fx.numB 8 o.entries (fun x _=>Nat.le_of_eq (numB_eight x));have h2:=L6.out;omega
   have E7:=hid e7;have hz7:=b7.size;clear h7 b7 q0 q1 q2 q3 q4 q5 q6 qz e7 N7;obtain ⟨q0,q1,q2,q3,q4,q5,q6,qz⟩:=HX.out w7 B7.out;go_wp2_with fail;refine (num_ret o.main R7.out B7.out.size (by have:=L7.out;omega)).mono ?_;rintro e w8 ⟨u8,rfl,h8,b8,_⟩;have R8:=hid h8;have B8:=hid (B7.out.trans b8)
   have N8:Hid (∃ l,l=l7++Fx.numB o.main):=⟨_,rfl⟩
   obtain ⟨l8,e8⟩:=N8.out;rw [← e8] at R8
   have L8:Hid (l8.length<=9+(8+3*256)+8+2*(8+17*2048)+(8+8*6)+8):=by
    show _<=_;rw [e8,List.length_append]
    rw [numB_eight];have h2:=L7.out;omega
   have E8:=hid e8;have hz8:=b8.size;clear h8 b8 q0 q1 q2 q3 q4 q5 q6 qz e8 N8;obtain ⟨q0,q1,q2,q3,q4,q5,q6,qz⟩:=HX.out w8 B8.out
   have HE:Hid (l8=objB o):=by
    show _=_;rw [E8.out,E7.out,E6.out,E5.out,E4.out,E3.out,E2.out];unfold objB;simp only [List.nil_append,List.append_assoc]
   have hcv:=row_conv R8.out (by rw [E8.out];simp [Fx.numB]);obtain ⟨a8,c8,rfl⟩:=row_slice R8.out;have hlb:=L8.out;have HB8:=hid (thenB HB1.out B8.out);clear q0 q1 q2 q3 q4 q5 q6 qz;rw [← HE.out] at HQ
   by_cases hc:32768<l8.length
   . rw [if_pos hc] at HQ
     have hc':(32768:Int)<l8.length:=by omega
     go_wp2_with fail;go_ret2;exact ⟨by rw [HQ.out];rfl,HB8.out⟩
   . rw [if_neg hc] at HQ
     have hc':¬ (32768:Int)<l8.length:=by omega
     go_wp2_with fail;go_ret2;exact ⟨by rw [HQ.out];first | done | rfl,HB8.out⟩
 . have HQ:Hid (wrO o=([],oChk o)):=if_neg h0
   have hb0:(oChk o != 0)=true:=by rw [bne_iff_ne];exact h0
   clear hO hcp h0;generalize oChk o=E at *;go_enter Tryz.func35,Tryz.ntmps35;go_wp2_with fail;refine HC.out.mono ?_;rintro e w1 ⟨rfl,hb1⟩;have HB1:=hid (thenB (al1 w _) hb1);clear hb1;go_wp2_with fail;go_ret2;exact ⟨by rw [HQ.out];rfl,HB1.out⟩
end Go.Proofs.YtndkhgakfodldaaGreatDoor
