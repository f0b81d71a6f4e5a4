/-
  The program's reader: an object.
-/
import Derived.Test.YtndkhgakfodldaaGreatDoorUt
import Derived.Test.YtndkhgakfodldaaGreatDoorUs
namespace Go.Proofs.YtndkhgakfodldaaGreatDoor
set_option maxRecDepth 100000
set_option maxHeartbeats 12800000
open Go.RowKit Go.Shelf
set_option linter.unusedSimpArgs false
set_option linter.unusedVariables false
theorem zkh {n:Int} (h : -9223372036854775808<=n/\n<=9223372036854775807):(Lit.int .i64 n).wf=true:=by
 have h1:IntKind.i64.min = -9223372036854775808:=by decide
 have h2:IntKind.i64.max=9223372036854775807:=by decide
 simp [Lit.wf,h1,h2];omega
def W64 (n:Int):Prop:=(Lit.int .i64 n).wf=true
theorem zn4 {W:World} {A:Nat->Prop}:∀ (l:List Gi),(∀ i ∈ l,W64 i.op/\W64 i.a/\W64 i.b)->zas W A (zpn l) (zkc l)
 | [],_=>zas.nil
 | i :: r,h=>by
   have h1:=h i (vam ..);simp only [zpn,zkc,vbg];exact zas.append (.cons (zc8 h1.1) (.cons (zc8 h1.2.1) (.cons (zc8 h1.2.2) .nil))) (zn4 r (fun j hj=>h j (vaf _ hj)))
theorem zn5 {W:World} {A:Nat->Prop}:∀ (l:List Gf),(∀ i ∈ l,W64 i.at_/\W64 i.kind/\W64 i.m)->zas W A (zv9 l) (zrd l)
 | [],_=>zas.nil
 | i :: r,h=>by
   have h1:=h i (vam ..);simp only [zv9,zrd,vbg];exact zas.append (.cons (zc8 h1.1) (.cons (zc8 h1.2.1) (.cons (zc8 h1.2.2) .nil))) (zn5 r (fun j hj=>h j (vaf _ hj)))
theorem zki {W:World} {A:Nat->Prop}:∀ (l:List Int),(∀ i ∈ l,W64 i)->zas W A (zjy l) (intV l)
 | [],_=>zas.nil
 | i :: r,h=>.cons (zc8 (h i (vam ..))) (zki r (fun j hj=>h j (vaf _ hj)))
theorem zkj {W:World} {A:Nat->Prop}:∀ (l:List ByteArray),(∀ s ∈ l,s.size<=maxLen)->zas W A (zam l) (strV l)
 | [],_=>zas.nil
 | i :: r,h=>.cons (zez (h i (vam ..))) (zkj r (fun j hj=>h j (vaf _ hj)))
theorem ze1 {W:World} {base lo:Nat} {t:TypeId} {sz:Nat} {a:OA} {n cap:Nat} {xs:List Value} {ds:List D} (h:W.ownsRow base t sz (.slice a n cap) n xs) (hlo:lo<=base) (hx:zas W (lo<=·) ds xs) (h1:n<=ds.length) (h2:ds.length<=17592186044416):DAt W (lo<=·) a n ds:=by
 refine ⟨h1,h2,?_⟩
 rcases h.2 with ⟨e,h0⟩ | ⟨g,cap',cur,e,hB,hg,_⟩
 . exact Or.inl h0
 . cases e
   refine Or.inr ⟨g,0,xs,rfl,vai hlo hB,zab hg,fun j u hj=>?_,hx⟩;have:=h.cells (g:=g) rfl j u hj;rw [show (⟨g,0,none⟩:Addr).add j=⟨g,j,none⟩ from by unfold Addr.add;split<;>simp_all] at this
   rw [vbq];exact this
structure OvLo (w:World) (lo:Nat) (o:Ob) (x1:OA) (x3:OA) (x4:OA) (x5:OA):Prop where
 wn:o.name.size<=maxLen
 uses:DAt w (lo<=·) x1 o.uses.length (zam o.uses)
 wd:(Lit.int .i64 o.data).wf=true
 code:DAt w (lo<=·) x3 o.code.length (zpn o.code)
 fixes:DAt w (lo<=·) x4 o.fixes.length (zv9 o.fixes)
 entries:DAt w (lo<=·) x5 o.entries.length (zjy o.entries)
 wm:(Lit.int .i64 o.main).wf=true
theorem OvLo.moves {w w':World} {lo lo':Nat} {o:Ob} {x1 x3 x4 x5:OA} (h:OvLo w lo o x1 x3 x4 x5) (m:zah w (lo<=·) w' (lo'<=·)):OvLo w' lo' o x1 x3 x4 x5:=
 ⟨h.wn,h.uses.moves m,h.wd,h.code.moves m,h.fixes.moves m,h.entries.moves m,h.wm⟩
theorem OvLo.ov {w:World} {lo:Nat} {o:Ob} {x1 x3 x4 x5:OA} (h:OvLo w lo o x1 x3 x4 x5):OvAt w o x1 x3 x4 x5:=
 have m:zah w (lo<=·) w Tt:=⟨vaa _,fun b hb _=>⟨trivial,rfl⟩⟩
 ⟨h.wn,h.uses.moves m,h.wd,h.code.moves m,h.fixes.moves m,h.entries.moves m,h.wm⟩
theorem zpx {α:Type} {p:L8->Option (α × L8)} {Q:α->Prop} (hQ:∀ l x r,p l=some (x,r)->Q x/\r.length+1<=l.length):∀ (n:Nat) (l:L8) (xs:List α) (r:L8),zb6 p n l=some (xs,r)->(∀ x ∈ xs,Q x)/\xs.length+r.length<=l.length
 | 0,l,xs,r,h=>by
   cases h;exact ⟨fun x hx=>(by cases hx),by simp⟩
 | n + 1,l,xs,r,h=>by
   unfold zb6 at h
   cases h1:p l with
   | none=>rw [h1] at h;cases h
   | some a=>
     rw [h1] at h
     cases h2:zb6 p n a.2 with
     | none=>simp [h2] at h
     | some b=>
       simp [h2] at h;obtain ⟨q1,q2⟩:=hQ l a.1 a.2 h1;obtain ⟨q3,q4⟩:=zpx hQ n a.2 b.1 b.2 h2;rw [← h.1,← h.2];refine ⟨fun x hx=>?_,by rw [vas];omega⟩
       rcases vcm.1 hx with rfl | hx
       . exact q1
       . exact q3 x hx
theorem zjv {α:Type} {p:L8->Option (α × L8)} {Q:α->Prop} (hQ:∀ l x r,p l=some (x,r)->Q x/\r.length+1<=l.length) {l r:L8} {xs:List α} (h:zds p l=some (xs,r)):(∀ x ∈ xs,Q x)/\xs.length+r.length<=l.length:=by
 unfold zds at h
 cases h1:zno l with
 | none=>rw [h1] at h;cases h
 | some q=>
   rw [h1] at h;have h2:=zpx hQ q.1 q.2 xs r h;have h3:=(zir (n:=q.1) (r:=q.2) h1).1;exact ⟨h2.1,by omega⟩
theorem z2g (l:L8) (x:ByteArray) (r:L8) (h:pTx l=some (x,r)):x.size<=255/\r.length+1<=l.length:=by
 refine ⟨?_,zy2 h⟩;unfold pTx at h
 cases hq:Fx.pText l with
 | none=>rw [hq] at h;cases h
 | some q=>
   rw [hq] at h;cases h;rw [Fx.strOf_size];unfold Fx.pText at hq
   cases hb:Fx.pByte l with
   | none=>rw [hb] at hq;cases hq
   | some z=>
     rw [hb] at hq;have h1:=Fx.pByte_lo (n:=z.1) (r:=z.2) hb;have h2:=(Fx.pTake_len (n:=z.1.toNat) (l:=z.2) (x:=q.1) (r:=q.2) hq).1;omega
theorem zha (l:L8) (x:Int) (r:L8) (h:Fx.pNum l=some (x,r)):W64 x/\r.length+1<=l.length:=⟨zkh (zut h),by have:=zer h;omega⟩
theorem zwp {l r:L8} {x:Int} (h:Fx.pByte l=some (x,r)):W64 x:=zkh (by have:=Fx.pByte_lo h;omega)
theorem zwq (l:L8) (x:Gi) (r:L8) (h:zbj l=some (x,r)):(W64 x.op/\W64 x.a/\W64 x.b)/\r.length+1<=l.length:=by
 refine ⟨?_,zns h⟩;unfold zbj at h
 cases h1:Fx.pByte l with
 | none=>rw [h1] at h;cases h
 | some a=>
   rw [h1] at h
   cases h2:Fx.pNum a.2 with
   | none=>simp [h2] at h
   | some b=>
     cases h3:Fx.pNum b.2 with
     | none=>simp [h2,h3] at h
     | some c=>
       simp [h2,h3] at h;rw [← h.1];exact ⟨zwp (x:=a.1) (r:=a.2) h1,(zha _ b.1 b.2 h2).1,(zha _ c.1 c.2 h3).1⟩
theorem z27 (l:L8) (x:Gf) (r:L8) (h:zce l=some (x,r)):(W64 x.at_/\W64 x.kind/\W64 x.m)/\r.length+1<=l.length:=by
 refine ⟨?_,zux h⟩;unfold zce at h
 cases h1:Fx.pNum l with
 | none=>rw [h1] at h;cases h
 | some a=>
   rw [h1] at h
   cases h2:Fx.pByte a.2 with
   | none=>simp [h2] at h
   | some b=>
     cases h3:Fx.pNum b.2 with
     | none=>simp [h2,h3] at h
     | some c=>
       simp [h2,h3] at h;rw [← h.1];exact ⟨(zha _ a.1 a.2 h1).1,zwp (x:=b.1) (r:=b.2) h2,(zha _ c.1 c.2 h3).1⟩
def zn6 (l:L8):Option (Ob × L8):=(pTx l).bind fun a=>(zds pTx a.2).bind fun b=>(Fx.pNum b.2).bind fun c=>(zds zbj c.2).bind fun d=>(zds zce d.2).bind fun e=>(zds Fx.pNum e.2).bind fun f=>(Fx.pNum f.2).map fun g=>(⟨a.1,b.1,c.1,d.1,e.1,f.1,g.1⟩,g.2)
def z40 (lo:Nat) (W:World) (o:Ob) (v:Value):Prop:=∃ x1 y1 x3 y3 x4 y4 x5 y5,v = .agg #[.string o.name,.slice x1 o.uses.length y1,.int .i64 o.data,.slice x3 o.code.length y3,.slice x4 o.fixes.length y4,.slice x5 o.entries.length y5,.int .i64 o.main]/\OvLo W lo o x1 x3 x4 x5/\o.uses.length<=y1
theorem za7 {W:World} {B:Nat} {e:TypeId} {size:Nat} {v:Value} {n:Nat} {xs:List Value} (h:W.ownsRow B e size v n xs) {a:Addr} {u:Value} (ha:a.block<B):(W.setCell a u).ownsRow B e size v n xs:=
 zba h (fun k hk=>zac (by have:=(h.lt k hk).1;omega) u)
theorem ztk {W:World} {B B':Nat} {e:TypeId} {sz:Nat} {v:Value} {n:Nat} {xs:List Value} (h:W.ownsRow B e sz v n xs) (hb:B'<=B):W.ownsRow B' e sz v n xs:=zch h hb
theorem z6f {W:World} {B b:Nat} {e:TypeId} {sz:Nat} {v:Value} {n:Nat} {xs:List Value} (h:W.ownsRow B e sz v n xs) (v0 v1 v2 v3 v4 v5 v6:Value) (hb:b<B) :
 (((((((W.setCell ⟨b,0,none⟩ v0).setCell ⟨b,1,none⟩ v1).setCell ⟨b,2,none⟩ v2).setCell ⟨b,3,none⟩ v3).setCell ⟨b,4,none⟩ v4).setCell ⟨b,5,none⟩ v5).setCell ⟨b,6,none⟩ v6).ownsRow B e sz v n xs:=
 za7 (za7 (za7 (za7 (za7 (za7 (za7 h (a:=⟨b,0,none⟩) hb) (a:=⟨b,1,none⟩) hb) (a:=⟨b,2,none⟩) hb) (a:=⟨b,3,none⟩) hb) (a:=⟨b,4,none⟩) hb) (a:=⟨b,5,none⟩) hb) (a:=⟨b,6,none⟩) hb
theorem z6p (rb:Nat) (l0:L8) (w:World) (h:Fx.Rdr w rb l0) (hl:l0.length<=1000000):Calls Tryz.prog 96 #[.pointer (some ⟨rb,0,none⟩)] w fun e w'=>Rdd rb w (zn6 l0) (z40 w.heap.size) e w':=by
 have hlt:=h.lt
 have hn0:w.heap.size≠rb:=by omega
 have hn1:w.heap.size+1≠rb:=by omega
 have hb0:=bl2 w (.cells #[.string ⟨#[]⟩,.slice none 0 0,.int .i64 0,.slice none 0 0,.slice none 0 0,.slice none 0 0,.int .i64 0] 62) (.cells #[.string ⟨#[]⟩,.slice none 0 0,.int .i64 0,.slice none 0 0,.slice none 0 0,.slice none 0 0,.int .i64 0] 62);have P0:Hid (zn6 l0=(pTx l0).bind fun a=>(zds pTx a.2).bind fun b=>(Fx.pNum b.2).bind fun c=>(zds zbj c.2).bind fun d=>(zds zce d.2).bind fun e=>(zds Fx.pNum e.2).bind fun f=>(Fx.pNum f.2).map fun g=>(⟨a.1,b.1,c.1,d.1,e.1,f.1,g.1⟩,g.2)):=rfl;have HX0:=hid (zae (o:=.cells #[.string ⟨#[]⟩,.slice none 0 0,.int .i64 0,.slice none 0 0,.slice none 0 0,.slice none 0 0,.int .i64 0] 62) (heap_newP w (.cells #[.string ⟨#[]⟩,.slice none 0 0,.int .i64 0,.slice none 0 0,.slice none 0 0,.slice none 0 0,.int .i64 0] 62)));have HI0:=hid (zy9 w (.cells #[.string ⟨#[]⟩,.slice none 0 0,.int .i64 0,.slice none 0 0,.slice none 0 0,.slice none 0 0,.int .i64 0] 62) (.cells #[.string ⟨#[]⟩,.slice none 0 0,.int .i64 0,.slice none 0 0,.slice none 0 0,.slice none 0 0,.int .i64 0] 62))
 have HR0:=hid (h.below hb0);have HG0:Hid (w.grownBy ((w.alloc (.cells #[.string ⟨#[]⟩,.slice none 0 0,.int .i64 0,.slice none 0 0,.slice none 0 0,.slice none 0 0,.int .i64 0] 62)).alloc (.cells #[.string ⟨#[]⟩,.slice none 0 0,.int .i64 0,.slice none 0 0,.slice none 0 0,.slice none 0 0,.int .i64 0] 62)) (some rb)):=zb5 hb0 (Fx.grown_refl _ _);clear h hb0;go_enter Tryz.func96,Tryz.ntmps96;go_wp2_with fail;refine (z2w rb l0 _ HR0.out (by omega)).mono ?_;rintro e w1 ⟨hg,⟨hp,c,hc,rfl⟩ | ⟨z0,l1,v0,hp,rfl,hv,hr⟩⟩
 . exact ⟨rfl,Fx.grown_trans HG0.out hg,Or.inl ⟨by rw [P0.out,hp];rfl,c,hc,rfl⟩⟩
 obtain rfl:v0 = .string z0:=hv;have A0:=hid (z2g _ _ _ hp)
 have P1:Hid (zn6 l0=(zds pTx l1).bind fun b=>(Fx.pNum b.2).bind fun c=>(zds zbj c.2).bind fun d=>(zds zce d.2).bind fun e=>(zds Fx.pNum e.2).bind fun f=>(Fx.pNum f.2).map fun g=>(⟨z0,b.1,c.1,d.1,e.1,f.1,g.1⟩,g.2)):=by show _=_;rw [P0.out,hp];rfl
 have hln1:l1.length<=1000000:=by have:=A0.out.2;omega
 have HXa:Hid (w1.heap[w.heap.size]? = some (.cells #[.string ⟨#[]⟩,.slice none 0 0,.int .i64 0,.slice none 0 0,.slice none 0 0,.slice none 0 0,.int .i64 0] 62)):=gk hg HX0.out hn0;have HIa:Hid (w1.heap[w.heap.size+1]? = some (.cells #[.string ⟨#[]⟩,.slice none 0 0,.int .i64 0,.slice none 0 0,.slice none 0 0,.slice none 0 0,.int .i64 0] 62)):=gk hg HI0.out hn1;have HGa:=hid (Fx.grown_trans HG0.out hg);have HX1:Hid ((w1.setCell ⟨w.heap.size+1,0,none⟩ (.string z0)).heap[w.heap.size]? = some (.cells #[.string ⟨#[]⟩,.slice none 0 0,.int .i64 0,.slice none 0 0,.slice none 0 0,.slice none 0 0,.int .i64 0] 62)):=(zac (p:=⟨w.heap.size+1,0,none⟩) (by show w.heap.size≠w.heap.size+1;omega) _).trans HXa.out;have HI1:Hid ((w1.setCell ⟨w.heap.size+1,0,none⟩ (.string z0)).heap[w.heap.size+1]? = some (.cells #[.string z0,.slice none 0 0,.int .i64 0,.slice none 0 0,.slice none 0 0,.slice none 0 0,.int .i64 0] 62)):=zaf HIa.out _
 have HR1:Hid (Fx.Rdr (w1.setCell ⟨w.heap.size+1,0,none⟩ (.string z0)) rb l1):=zbk hr hn1;have HG1:Hid (w.grownBy (w1.setCell ⟨w.heap.size+1,0,none⟩ (.string z0)) (some rb)):=zax HGa.out (by show w.heap.size<=w.heap.size+1;omega);obtain ⟨i0,i1,i2,i3,i4,i5,i6,iz⟩:=zai HIa.out
 have ifz:∀ j,w1.frozen? ⟨w.heap.size+1,j,none⟩=false:=fun j=>vep HIa.out j
 clear hg hr hp HXa HIa HGa HX0 HI0 HR0 HG0 P0;go_wp2_with fail;clear i0 i1 i2 i3 i4 i5 i6 iz ifz;refine (z4o rb l1 _ HR1.out (by omega)).mono ?_;rintro e w2 ⟨hg,⟨hp,c,hc,rfl⟩ | ⟨z1,l2,v1,hp,rfl,hv,hr⟩⟩
 . exact ⟨rfl,Fx.grown_trans HG1.out hg,Or.inl ⟨by rw [P1.out,hp];rfl,c,hc,rfl⟩⟩
 obtain ⟨x1,y1,rfl,hcap1, -⟩:=zar hv;have K1:=hid (ztk (B':=w.heap.size+2) hv (by have:=HG1.out.size;have:=zab HI1.out;omega));have C1:=hid hcap1;clear hcap1;have A1:=hid (zjv z2g hp)
 have P2:Hid (zn6 l0=(Fx.pNum l2).bind fun c=>(zds zbj c.2).bind fun d=>(zds zce d.2).bind fun e=>(zds Fx.pNum e.2).bind fun f=>(Fx.pNum f.2).map fun g=>(⟨z0,z1,c.1,d.1,e.1,f.1,g.1⟩,g.2)):=by show _=_;rw [P1.out,hp];rfl
 have hln2:l2.length<=1000000:=by have:=A1.out.2;omega
 have HXa:Hid (w2.heap[w.heap.size]? = some (.cells #[.string ⟨#[]⟩,.slice none 0 0,.int .i64 0,.slice none 0 0,.slice none 0 0,.slice none 0 0,.int .i64 0] 62)):=gk hg HX1.out hn0;have HIa:Hid (w2.heap[w.heap.size+1]? = some (.cells #[.string z0,.slice none 0 0,.int .i64 0,.slice none 0 0,.slice none 0 0,.slice none 0 0,.int .i64 0] 62)):=gk hg HI1.out hn1;have HGa:=hid (Fx.grown_trans HG1.out hg);have HX2:Hid ((w2.setCell ⟨w.heap.size+1,1,none⟩ (.slice x1 z1.length y1)).heap[w.heap.size]? = some (.cells #[.string ⟨#[]⟩,.slice none 0 0,.int .i64 0,.slice none 0 0,.slice none 0 0,.slice none 0 0,.int .i64 0] 62)):=(zac (p:=⟨w.heap.size+1,1,none⟩) (by show w.heap.size≠w.heap.size+1;omega) _).trans HXa.out;have HI2:Hid ((w2.setCell ⟨w.heap.size+1,1,none⟩ (.slice x1 z1.length y1)).heap[w.heap.size+1]? = some (.cells #[.string z0,.slice x1 z1.length y1,.int .i64 0,.slice none 0 0,.slice none 0 0,.slice none 0 0,.int .i64 0] 62)):=zaf HIa.out _
 have HR2:Hid (Fx.Rdr (w2.setCell ⟨w.heap.size+1,1,none⟩ (.slice x1 z1.length y1)) rb l2):=zbk hr hn1;have HG2:Hid (w.grownBy (w2.setCell ⟨w.heap.size+1,1,none⟩ (.slice x1 z1.length y1)) (some rb)):=zax HGa.out (by show w.heap.size<=w.heap.size+1;omega);have K1:=hid (za7 K1.out (a:=⟨w.heap.size+1,1,none⟩) (u:=.slice x1 z1.length y1) (by show w.heap.size+1<w.heap.size+2;omega));obtain ⟨i0,i1,i2,i3,i4,i5,i6,iz⟩:=zai HIa.out
 have ifz:∀ j,w2.frozen? ⟨w.heap.size+1,j,none⟩=false:=fun j=>vep HIa.out j
 clear hg hr hp hv HXa HIa HGa HX1 HI1 HR1 HG1 P1;go_wp2_with fail;clear i0 i1 i2 i3 i4 i5 i6 iz ifz;refine (zq6 rb l2 _ HR2.out (by omega)).mono ?_;rintro e w3 ⟨hg,⟨hp,c,hc,rfl⟩ | ⟨z2,l3,v2,hp,rfl,hv,hr⟩⟩
 . exact ⟨rfl,Fx.grown_trans HG2.out hg,Or.inl ⟨by rw [P2.out,hp];rfl,c,hc,rfl⟩⟩
 obtain rfl:v2 = .int .i64 z2:=hv;have A2:=hid (zha _ _ _ hp)
 have P3:Hid (zn6 l0=(zds zbj l3).bind fun d=>(zds zce d.2).bind fun e=>(zds Fx.pNum e.2).bind fun f=>(Fx.pNum f.2).map fun g=>(⟨z0,z1,z2,d.1,e.1,f.1,g.1⟩,g.2)):=by show _=_;rw [P2.out,hp];rfl
 have hln3:l3.length<=1000000:=by have:=A2.out.2;omega
 have HXa:Hid (w3.heap[w.heap.size]? = some (.cells #[.string ⟨#[]⟩,.slice none 0 0,.int .i64 0,.slice none 0 0,.slice none 0 0,.slice none 0 0,.int .i64 0] 62)):=gk hg HX2.out hn0;have HIa:Hid (w3.heap[w.heap.size+1]? = some (.cells #[.string z0,.slice x1 z1.length y1,.int .i64 0,.slice none 0 0,.slice none 0 0,.slice none 0 0,.int .i64 0] 62)):=gk hg HI2.out hn1;have HGa:=hid (Fx.grown_trans HG2.out hg);have K1:=hid (za9 K1.out hg (by omega));have HX3:Hid ((w3.setCell ⟨w.heap.size+1,2,none⟩ (.int .i64 z2)).heap[w.heap.size]? = some (.cells #[.string ⟨#[]⟩,.slice none 0 0,.int .i64 0,.slice none 0 0,.slice none 0 0,.slice none 0 0,.int .i64 0] 62)):=(zac (p:=⟨w.heap.size+1,2,none⟩) (by show w.heap.size≠w.heap.size+1;omega) _).trans HXa.out;have HI3:Hid ((w3.setCell ⟨w.heap.size+1,2,none⟩ (.int .i64 z2)).heap[w.heap.size+1]? = some (.cells #[.string z0,.slice x1 z1.length y1,.int .i64 z2,.slice none 0 0,.slice none 0 0,.slice none 0 0,.int .i64 0] 62)):=zaf HIa.out _
 have HR3:Hid (Fx.Rdr (w3.setCell ⟨w.heap.size+1,2,none⟩ (.int .i64 z2)) rb l3):=zbk hr hn1;have HG3:Hid (w.grownBy (w3.setCell ⟨w.heap.size+1,2,none⟩ (.int .i64 z2)) (some rb)):=zax HGa.out (by show w.heap.size<=w.heap.size+1;omega);have K1:=hid (za7 K1.out (a:=⟨w.heap.size+1,2,none⟩) (u:=.int .i64 z2) (by show w.heap.size+1<w.heap.size+2;omega));obtain ⟨i0,i1,i2,i3,i4,i5,i6,iz⟩:=zai HIa.out
 have ifz:∀ j,w3.frozen? ⟨w.heap.size+1,j,none⟩=false:=fun j=>vep HIa.out j
 clear hg hr hp HXa HIa HGa HX2 HI2 HR2 HG2 P2;go_wp2_with fail;clear i0 i1 i2 i3 i4 i5 i6 iz ifz;refine (z14 rb l3 _ HR3.out (by omega)).mono ?_;rintro e w4 ⟨hg,⟨hp,c,hc,rfl⟩ | ⟨z3,l4,v3,hp,rfl,hv,hr⟩⟩
 . exact ⟨rfl,Fx.grown_trans HG3.out hg,Or.inl ⟨by rw [P3.out,hp];rfl,c,hc,rfl⟩⟩
 obtain ⟨x3,y3,rfl,hcap3, -⟩:=zar hv;have K3:=hid (ztk (B':=w.heap.size+2) hv (by have:=HG3.out.size;have:=zab HI3.out;omega));have C3:=hid hcap3;clear hcap3;have A3:=hid (zjv zwq hp)
 have P4:Hid (zn6 l0=(zds zce l4).bind fun e=>(zds Fx.pNum e.2).bind fun f=>(Fx.pNum f.2).map fun g=>(⟨z0,z1,z2,z3,e.1,f.1,g.1⟩,g.2)):=by show _=_;rw [P3.out,hp];rfl
 have hln4:l4.length<=1000000:=by have:=A3.out.2;omega
 have HXa:Hid (w4.heap[w.heap.size]? = some (.cells #[.string ⟨#[]⟩,.slice none 0 0,.int .i64 0,.slice none 0 0,.slice none 0 0,.slice none 0 0,.int .i64 0] 62)):=gk hg HX3.out hn0;have HIa:Hid (w4.heap[w.heap.size+1]? = some (.cells #[.string z0,.slice x1 z1.length y1,.int .i64 z2,.slice none 0 0,.slice none 0 0,.slice none 0 0,.int .i64 0] 62)):=gk hg HI3.out hn1;have HGa:=hid (Fx.grown_trans HG3.out hg);have K1:=hid (za9 K1.out hg (by omega));have HX4:Hid ((w4.setCell ⟨w.heap.size+1,3,none⟩ (.slice x3 z3.length y3)).heap[w.heap.size]? = some (.cells #[.string ⟨#[]⟩,.slice none 0 0,.int .i64 0,.slice none 0 0,.slice none 0 0,.slice none 0 0,.int .i64 0] 62)):=(zac (p:=⟨w.heap.size+1,3,none⟩) (by show w.heap.size≠w.heap.size+1;omega) _).trans HXa.out;have HI4:Hid ((w4.setCell ⟨w.heap.size+1,3,none⟩ (.slice x3 z3.length y3)).heap[w.heap.size+1]? = some (.cells #[.string z0,.slice x1 z1.length y1,.int .i64 z2,.slice x3 z3.length y3,.slice none 0 0,.slice none 0 0,.int .i64 0] 62)):=zaf HIa.out _
 have HR4:Hid (Fx.Rdr (w4.setCell ⟨w.heap.size+1,3,none⟩ (.slice x3 z3.length y3)) rb l4):=zbk hr hn1;have HG4:Hid (w.grownBy (w4.setCell ⟨w.heap.size+1,3,none⟩ (.slice x3 z3.length y3)) (some rb)):=zax HGa.out (by show w.heap.size<=w.heap.size+1;omega);have K1:=hid (za7 K1.out (a:=⟨w.heap.size+1,3,none⟩) (u:=.slice x3 z3.length y3) (by show w.heap.size+1<w.heap.size+2;omega));have K3:=hid (za7 K3.out (a:=⟨w.heap.size+1,3,none⟩) (u:=.slice x3 z3.length y3) (by show w.heap.size+1<w.heap.size+2;omega));obtain ⟨i0,i1,i2,i3,i4,i5,i6,iz⟩:=zai HIa.out
 have ifz:∀ j,w4.frozen? ⟨w.heap.size+1,j,none⟩=false:=fun j=>vep HIa.out j
 clear hg hr hp hv HXa HIa HGa HX3 HI3 HR3 HG3 P3;go_wp2_with fail;clear i0 i1 i2 i3 i4 i5 i6 iz ifz;refine (z4q rb l4 _ HR4.out (by omega)).mono ?_;rintro e w5 ⟨hg,⟨hp,c,hc,rfl⟩ | ⟨z4,l5,v4,hp,rfl,hv,hr⟩⟩
 . exact ⟨rfl,Fx.grown_trans HG4.out hg,Or.inl ⟨by rw [P4.out,hp];rfl,c,hc,rfl⟩⟩
 obtain ⟨x4,y4,rfl,hcap4, -⟩:=zar hv;have K4:=hid (ztk (B':=w.heap.size+2) hv (by have:=HG4.out.size;have:=zab HI4.out;omega));have C4:=hid hcap4;clear hcap4;have A4:=hid (zjv z27 hp)
 have P5:Hid (zn6 l0=(zds Fx.pNum l5).bind fun f=>(Fx.pNum f.2).map fun g=>(⟨z0,z1,z2,z3,z4,f.1,g.1⟩,g.2)):=by show _=_;rw [P4.out,hp];rfl
 have hln5:l5.length<=1000000:=by have:=A4.out.2;omega
 have HXa:Hid (w5.heap[w.heap.size]? = some (.cells #[.string ⟨#[]⟩,.slice none 0 0,.int .i64 0,.slice none 0 0,.slice none 0 0,.slice none 0 0,.int .i64 0] 62)):=gk hg HX4.out hn0;have HIa:Hid (w5.heap[w.heap.size+1]? = some (.cells #[.string z0,.slice x1 z1.length y1,.int .i64 z2,.slice x3 z3.length y3,.slice none 0 0,.slice none 0 0,.int .i64 0] 62)):=gk hg HI4.out hn1;have HGa:=hid (Fx.grown_trans HG4.out hg);have K1:=hid (za9 K1.out hg (by omega));have K3:=hid (za9 K3.out hg (by omega));have HX5:Hid ((w5.setCell ⟨w.heap.size+1,4,none⟩ (.slice x4 z4.length y4)).heap[w.heap.size]? = some (.cells #[.string ⟨#[]⟩,.slice none 0 0,.int .i64 0,.slice none 0 0,.slice none 0 0,.slice none 0 0,.int .i64 0] 62)):=(zac (p:=⟨w.heap.size+1,4,none⟩) (by show w.heap.size≠w.heap.size+1;omega) _).trans HXa.out;have HI5:Hid ((w5.setCell ⟨w.heap.size+1,4,none⟩ (.slice x4 z4.length y4)).heap[w.heap.size+1]? = some (.cells #[.string z0,.slice x1 z1.length y1,.int .i64 z2,.slice x3 z3.length y3,.slice x4 z4.length y4,.slice none 0 0,.int .i64 0] 62)):=zaf HIa.out _
 have HR5:Hid (Fx.Rdr (w5.setCell ⟨w.heap.size+1,4,none⟩ (.slice x4 z4.length y4)) rb l5):=zbk hr hn1;have HG5:Hid (w.grownBy (w5.setCell ⟨w.heap.size+1,4,none⟩ (.slice x4 z4.length y4)) (some rb)):=zax HGa.out (by show w.heap.size<=w.heap.size+1;omega);have K1:=hid (za7 K1.out (a:=⟨w.heap.size+1,4,none⟩) (u:=.slice x4 z4.length y4) (by show w.heap.size+1<w.heap.size+2;omega));have K3:=hid (za7 K3.out (a:=⟨w.heap.size+1,4,none⟩) (u:=.slice x4 z4.length y4) (by show w.heap.size+1<w.heap.size+2;omega));have K4:=hid (za7 K4.out (a:=⟨w.heap.size+1,4,none⟩) (u:=.slice x4 z4.length y4) (by show w.heap.size+1<w.heap.size+2;omega));obtain ⟨i0,i1,i2,i3,i4,i5,i6,iz⟩:=zai HIa.out
 have ifz:∀ j,w5.frozen? ⟨w.heap.size+1,j,none⟩=false:=fun j=>vep HIa.out j
 clear hg hr hp hv HXa HIa HGa HX4 HI4 HR4 HG4 P4;go_wp2_with fail;clear i0 i1 i2 i3 i4 i5 i6 iz ifz;refine (z6c rb l5 _ HR5.out (by omega)).mono ?_;rintro e w6 ⟨hg,⟨hp,c,hc,rfl⟩ | ⟨z5,l6,v5,hp,rfl,hv,hr⟩⟩
 . exact ⟨rfl,Fx.grown_trans HG5.out hg,Or.inl ⟨by rw [P5.out,hp];rfl,c,hc,rfl⟩⟩
 obtain ⟨x5,y5,rfl,hcap5, -⟩:=zar hv;have K5:=hid (ztk (B':=w.heap.size+2) hv (by have:=HG5.out.size;have:=zab HI5.out;omega));have C5:=hid hcap5;clear hcap5;have A5:=hid (zjv zha hp)
 have P6:Hid (zn6 l0=(Fx.pNum l6).map fun g=>(⟨z0,z1,z2,z3,z4,z5,g.1⟩,g.2)):=by show _=_;rw [P5.out,hp];rfl
 have hln6:l6.length<=1000000:=by have:=A5.out.2;omega
 have HXa:Hid (w6.heap[w.heap.size]? = some (.cells #[.string ⟨#[]⟩,.slice none 0 0,.int .i64 0,.slice none 0 0,.slice none 0 0,.slice none 0 0,.int .i64 0] 62)):=gk hg HX5.out hn0;have HIa:Hid (w6.heap[w.heap.size+1]? = some (.cells #[.string z0,.slice x1 z1.length y1,.int .i64 z2,.slice x3 z3.length y3,.slice x4 z4.length y4,.slice none 0 0,.int .i64 0] 62)):=gk hg HI5.out hn1;have HGa:=hid (Fx.grown_trans HG5.out hg);have K1:=hid (za9 K1.out hg (by omega));have K3:=hid (za9 K3.out hg (by omega));have K4:=hid (za9 K4.out hg (by omega));have HX6:Hid ((w6.setCell ⟨w.heap.size+1,5,none⟩ (.slice x5 z5.length y5)).heap[w.heap.size]? = some (.cells #[.string ⟨#[]⟩,.slice none 0 0,.int .i64 0,.slice none 0 0,.slice none 0 0,.slice none 0 0,.int .i64 0] 62)):=(zac (p:=⟨w.heap.size+1,5,none⟩) (by show w.heap.size≠w.heap.size+1;omega) _).trans HXa.out
 have HI6:Hid ((w6.setCell ⟨w.heap.size+1,5,none⟩ (.slice x5 z5.length y5)).heap[w.heap.size+1]? = some (.cells #[.string z0,.slice x1 z1.length y1,.int .i64 z2,.slice x3 z3.length y3,.slice x4 z4.length y4,.slice x5 z5.length y5,.int .i64 0] 62)):=zaf HIa.out _;have HR6:Hid (Fx.Rdr (w6.setCell ⟨w.heap.size+1,5,none⟩ (.slice x5 z5.length y5)) rb l6):=zbk hr hn1;have HG6:Hid (w.grownBy (w6.setCell ⟨w.heap.size+1,5,none⟩ (.slice x5 z5.length y5)) (some rb)):=zax HGa.out (by show w.heap.size<=w.heap.size+1;omega);have K1:=hid (za7 K1.out (a:=⟨w.heap.size+1,5,none⟩) (u:=.slice x5 z5.length y5) (by show w.heap.size+1<w.heap.size+2;omega));have K3:=hid (za7 K3.out (a:=⟨w.heap.size+1,5,none⟩) (u:=.slice x5 z5.length y5) (by show w.heap.size+1<w.heap.size+2;omega));have K4:=hid (za7 K4.out (a:=⟨w.heap.size+1,5,none⟩) (u:=.slice x5 z5.length y5) (by show w.heap.size+1<w.heap.size+2;omega))
 have K5:=hid (za7 K5.out (a:=⟨w.heap.size+1,5,none⟩) (u:=.slice x5 z5.length y5) (by show w.heap.size+1<w.heap.size+2;omega));obtain ⟨i0,i1,i2,i3,i4,i5,i6,iz⟩:=zai HIa.out
 have ifz:∀ j,w6.frozen? ⟨w.heap.size+1,j,none⟩=false:=fun j=>vep HIa.out j
 clear hg hr hp hv HXa HIa HGa HX5 HI5 HR5 HG5 P5;go_wp2_with fail;clear i0 i1 i2 i3 i4 i5 i6 iz ifz;refine (zq6 rb l6 _ HR6.out (by omega)).mono ?_;rintro e w7 ⟨hg,⟨hp,c,hc,rfl⟩ | ⟨z6,l7,v6,hp,rfl,hv,hr⟩⟩
 . exact ⟨rfl,Fx.grown_trans HG6.out hg,Or.inl ⟨by rw [P6.out,hp];rfl,c,hc,rfl⟩⟩
 obtain rfl:v6 = .int .i64 z6:=hv;have A6:=hid (zha _ _ _ hp)
 have P7:Hid (zn6 l0=some (⟨z0,z1,z2,z3,z4,z5,z6⟩,l7)):=by show _=_;rw [P6.out,hp];rfl
 have hln7:l7.length<=1000000:=by have:=A6.out.2;omega
 have HXa:Hid (w7.heap[w.heap.size]? = some (.cells #[.string ⟨#[]⟩,.slice none 0 0,.int .i64 0,.slice none 0 0,.slice none 0 0,.slice none 0 0,.int .i64 0] 62)):=gk hg HX6.out hn0;have HIa:Hid (w7.heap[w.heap.size+1]? = some (.cells #[.string z0,.slice x1 z1.length y1,.int .i64 z2,.slice x3 z3.length y3,.slice x4 z4.length y4,.slice x5 z5.length y5,.int .i64 0] 62)):=gk hg HI6.out hn1;have HGa:=hid (Fx.grown_trans HG6.out hg);have K1:=hid (za9 K1.out hg (by omega));have K3:=hid (za9 K3.out hg (by omega));have K4:=hid (za9 K4.out hg (by omega));have K5:=hid (za9 K5.out hg (by omega));have HX7:Hid ((w7.setCell ⟨w.heap.size+1,6,none⟩ (.int .i64 z6)).heap[w.heap.size]? = some (.cells #[.string ⟨#[]⟩,.slice none 0 0,.int .i64 0,.slice none 0 0,.slice none 0 0,.slice none 0 0,.int .i64 0] 62)):=(zac (p:=⟨w.heap.size+1,6,none⟩) (by show w.heap.size≠w.heap.size+1;omega) _).trans HXa.out
 have HI7:Hid ((w7.setCell ⟨w.heap.size+1,6,none⟩ (.int .i64 z6)).heap[w.heap.size+1]? = some (.cells #[.string z0,.slice x1 z1.length y1,.int .i64 z2,.slice x3 z3.length y3,.slice x4 z4.length y4,.slice x5 z5.length y5,.int .i64 z6] 62)):=zaf HIa.out _;have HR7:Hid (Fx.Rdr (w7.setCell ⟨w.heap.size+1,6,none⟩ (.int .i64 z6)) rb l7):=zbk hr hn1;have HG7:Hid (w.grownBy (w7.setCell ⟨w.heap.size+1,6,none⟩ (.int .i64 z6)) (some rb)):=zax HGa.out (by show w.heap.size<=w.heap.size+1;omega);have K1:=hid (za7 K1.out (a:=⟨w.heap.size+1,6,none⟩) (u:=.int .i64 z6) (by show w.heap.size+1<w.heap.size+2;omega));have K3:=hid (za7 K3.out (a:=⟨w.heap.size+1,6,none⟩) (u:=.int .i64 z6) (by show w.heap.size+1<w.heap.size+2;omega));have K4:=hid (za7 K4.out (a:=⟨w.heap.size+1,6,none⟩) (u:=.int .i64 z6) (by show w.heap.size+1<w.heap.size+2;omega))
 have K5:=hid (za7 K5.out (a:=⟨w.heap.size+1,6,none⟩) (u:=.int .i64 z6) (by show w.heap.size+1<w.heap.size+2;omega));obtain ⟨i0,i1,i2,i3,i4,i5,i6,iz⟩:=zai HIa.out
 have ifz:∀ j,w7.frozen? ⟨w.heap.size+1,j,none⟩=false:=fun j=>vep HIa.out j
 obtain ⟨j0,j1,j2,j3,j4,j5,j6,jz⟩:=zai HXa.out
 have jfz:∀ j,w7.frozen? ⟨w.heap.size,j,none⟩=false:=fun j=>vep HXa.out j
 have hne:¬ (w.heap.size=w.heap.size+1):=by omega
 clear hg hr hp HXa HIa HGa;go_wp2_with fail;refine bodyPost_ret (v:=.agg #[.string z0,.slice x1 z1.length y1,.int .i64 z2,.slice x3 z3.length y3,.slice x4 z4.length y4,.slice x5 z5.length y5,.int .i64 z6]) (by simp [results,Tryz.results96,go_sem,j0,j1,j2,j3,j4,j5,j6,i0,i1,i2,i3,i4,i5,i6,jz,iz]) rfl ⟨?_,Or.inr ⟨_,l7,_,P7.out,rfl,⟨x1,y1,x3,y3,x4,y4,x5,y5,rfl,?_,C1.out⟩,?_⟩⟩
 . exact zax (zax (zax (zax (zax (zax (zax HG7.out (vaa _)) (vaa _)) (vaa _)) (vaa _)) (vaa _)) (vaa _)) (vaa _)
 . have f1:=z6f K1.out (.string z0) (.slice x1 z1.length y1) (.int .i64 z2) (.slice x3 z3.length y3) (.slice x4 z4.length y4) (.slice x5 z5.length y5) (.int .i64 z6) (b:=w.heap.size) (by omega)
   have f3:=z6f K3.out (.string z0) (.slice x1 z1.length y1) (.int .i64 z2) (.slice x3 z3.length y3) (.slice x4 z4.length y4) (.slice x5 z5.length y5) (.int .i64 z6) (b:=w.heap.size) (by omega);have f4:=z6f K4.out (.string z0) (.slice x1 z1.length y1) (.int .i64 z2) (.slice x3 z3.length y3) (.slice x4 z4.length y4) (.slice x5 z5.length y5) (.int .i64 z6) (b:=w.heap.size) (by omega);have f5:=z6f K5.out (.string z0) (.slice x1 z1.length y1) (.int .i64 z2) (.slice x3 z3.length y3) (.slice x4 z4.length y4) (.slice x5 z5.length y5) (.int .i64 z6) (b:=w.heap.size) (by omega);have b1:=A1.out.2;have b3:=A3.out.2;have b4:=A4.out.2;have b5:=A5.out.2;refine ⟨vai A0.out.1 (by decide),?_,A2.out.1,?_,?_,?_,A6.out.1⟩
   . exact ze1 f1 (by omega) (zkj _ (fun s hs=>vai (A1.out.1 s hs) (by decide))) (by simp [zam]) (by rw [show (zam z1).length=z1.length from by simp [zam]];omega)
   . exact ze1 f3 (by omega) (zn4 _ A3.out.1) (by rw [zgt];omega) (by rw [zgt];show z3.length*3<=_;omega)
   . exact ze1 f4 (by omega) (zn5 _ A4.out.1) (by rw [zgu];omega) (by rw [zgu];show z4.length*3<=_;omega)
   . exact ze1 f5 (by omega) (zki _ A5.out.1) (by simp [zjy]) (by rw [show (zjy z5).length=z5.length from by simp [zjy]];omega)
 . exact zbk (zbk (zbk (zbk (zbk (zbk (zbk HR7.out hn0) hn0) hn0) hn0) hn0) hn0) hn0
set_option maxHeartbeats 6400000
def noneO (w:World) (b:Nat):World:=((((((((w.alloc (.cells #[.string ⟨#[]⟩,.slice none 0 0,.int .i64 0,.slice none 0 0,.slice none 0 0,.slice none 0 0,.int .i64 0] 62)).setCell ⟨b,0,none⟩ (.string ⟨#[]⟩)).setCell ⟨b,1,none⟩ (.slice none 0 0)).setCell ⟨b,2,none⟩ (.int .i64 0)).setCell ⟨b,3,none⟩ (.slice none 0 0)).setCell ⟨b,4,none⟩ (.slice none 0 0)).setCell ⟨b,5,none⟩ (.slice none 0 0)).setCell ⟨b,6,none⟩ (.int .i64 0)).setCell ⟨b+1,0,none⟩ (.bool false)
def ztl (w:World) (b:Nat) (x0 x1 x2 x3 x4 x5 x6:Value):World:=(((((((w.setCell ⟨b,0,none⟩ (x0)).setCell ⟨b,1,none⟩ (x1)).setCell ⟨b,2,none⟩ (x2)).setCell ⟨b,3,none⟩ (x3)).setCell ⟨b,4,none⟩ (x4)).setCell ⟨b,5,none⟩ (x5)).setCell ⟨b,6,none⟩ (x6))
theorem zu4 {w:World} {b:Nat} {y0 y1 y2 y3 y4 y5 y6:Value} {t:TypeId} {f:Nat × Nat} (h:w.heap[b]? = some (.cells #[y0,y1,y2,y3,y4,y5,y6] t f)) (x0 x1 x2 x3 x4 x5 x6:Value):(ztl w b x0 x1 x2 x3 x4 x5 x6).heap[b]? = some (.cells #[x0,x1,x2,x3,x4,x5,x6] t f):=by
 have h0:(w.setCell ⟨b,0,none⟩ x0).heap[b]? = some (.cells #[x0,y1,y2,y3,y4,y5,y6] t f):=zaf h x0;have h1:((w.setCell ⟨b,0,none⟩ x0).setCell ⟨b,1,none⟩ x1).heap[b]? = some (.cells #[x0,x1,y2,y3,y4,y5,y6] t f):=zaf h0 x1;have h2:(((w.setCell ⟨b,0,none⟩ x0).setCell ⟨b,1,none⟩ x1).setCell ⟨b,2,none⟩ x2).heap[b]? = some (.cells #[x0,x1,x2,y3,y4,y5,y6] t f):=zaf h1 x2;have h3:((((w.setCell ⟨b,0,none⟩ x0).setCell ⟨b,1,none⟩ x1).setCell ⟨b,2,none⟩ x2).setCell ⟨b,3,none⟩ x3).heap[b]? = some (.cells #[x0,x1,x2,x3,y4,y5,y6] t f):=zaf h2 x3;have h4:(((((w.setCell ⟨b,0,none⟩ x0).setCell ⟨b,1,none⟩ x1).setCell ⟨b,2,none⟩ x2).setCell ⟨b,3,none⟩ x3).setCell ⟨b,4,none⟩ x4).heap[b]? = some (.cells #[x0,x1,x2,x3,x4,y5,y6] t f):=zaf h3 x4;have h5:((((((w.setCell ⟨b,0,none⟩ x0).setCell ⟨b,1,none⟩ x1).setCell ⟨b,2,none⟩ x2).setCell ⟨b,3,none⟩ x3).setCell ⟨b,4,none⟩ x4).setCell ⟨b,5,none⟩ x5).heap[b]? = some (.cells #[x0,x1,x2,x3,x4,x5,y6] t f):=zaf h4 x5
 have h6:(((((((w.setCell ⟨b,0,none⟩ x0).setCell ⟨b,1,none⟩ x1).setCell ⟨b,2,none⟩ x2).setCell ⟨b,3,none⟩ x3).setCell ⟨b,4,none⟩ x4).setCell ⟨b,5,none⟩ x5).setCell ⟨b,6,none⟩ x6).heap[b]? = some (.cells #[x0,x1,x2,x3,x4,x5,x6] t f):=zaf h5 x6;exact h6
theorem ze2 {w:World} {b k:Nat} (hn:k≠b) (x0 x1 x2 x3 x4 x5 x6:Value):(ztl w b x0 x1 x2 x3 x4 x5 x6).heap[k]? = w.heap[k]?:=
 (zac hn _).trans ((zac hn _).trans ((zac hn _).trans ((zac hn _).trans ((zac hn _).trans ((zac hn _).trans (zac hn _))))))
theorem zcg {B:Nat} {w w':World} {b:Nat} (h:Below B w w') (hb:B<=b) (x0 x1 x2 x3 x4 x5 x6:Value):Below B w (ztl w' b x0 x1 x2 x3 x4 x5 x6):=
 (((((((h.setCell (p:=⟨b,0,none⟩) hb _).setCell (p:=⟨b,1,none⟩) hb _).setCell (p:=⟨b,2,none⟩) hb _).setCell (p:=⟨b,3,none⟩) hb _).setCell (p:=⟨b,4,none⟩) hb _).setCell (p:=⟨b,5,none⟩) hb _).setCell (p:=⟨b,6,none⟩) hb _)
theorem zn7 (b:Nat) (x0 x1 x2 x3 x4 x5 x6:Value) (y:Bool) (u:TypeId) (pv:Value) (w:World) (hX:w.heap[b]? = some (.cells #[x0,x1,x2,x3,x4,x5,x6] 62 (0,0))) (hK:w.heap[b+1]? = some (.cells #[.bool y] 4 (0,0))) :
 CallsD Tryz.prog 136 #[.pointer (some ⟨b,0,none⟩),.pointer (some ⟨b+1,0,none⟩)] (.panicking [{ v:=.iface u pv,recovered:=false }]) w fun e u' w'=>
  e = .returned (.tuple #[])/\u' = .panicking [{ v:=.iface u pv,recovered:=true }]/\w'=noneO w b:=by
 have hX1:=zae (o:=.cells #[.string ⟨#[]⟩,.slice none 0 0,.int .i64 0,.slice none 0 0,.slice none 0 0,.slice none 0 0,.int .i64 0] 62) hX;have hK1:=zae (o:=.cells #[.string ⟨#[]⟩,.slice none 0 0,.int .i64 0,.slice none 0 0,.slice none 0 0,.slice none 0 0,.int .i64 0] 62) hK;obtain ⟨a0,a1,a2,a3,a4,a5,a6,az⟩:=zai hX1
 have afz:∀ j,(w.alloc (.cells #[.string ⟨#[]⟩,.slice none 0 0,.int .i64 0,.slice none 0 0,.slice none 0 0,.slice none 0 0,.int .i64 0] 62)).frozen? ⟨b,j,none⟩=false:=fun j=>vep hX1 j
 have k0:(w.alloc (.cells #[.string ⟨#[]⟩,.slice none 0 0,.int .i64 0,.slice none 0 0,.slice none 0 0,.slice none 0 0,.int .i64 0] 62)).cell? ⟨b+1,0,none⟩=some (.bool y):=by rw [veq hK1];rfl
 have kf:(w.alloc (.cells #[.string ⟨#[]⟩,.slice none 0 0,.int .i64 0,.slice none 0 0,.slice none 0 0,.slice none 0 0,.int .i64 0] 62)).frozen? ⟨b+1,0,none⟩=false:=vep hK1 0;obtain ⟨n0,n1,n2,n3,n4,n5,n6,nz⟩:=zai (heap_newP w (.cells #[.string ⟨#[]⟩,.slice none 0 0,.int .i64 0,.slice none 0 0,.slice none 0 0,.slice none 0 0,.int .i64 0] 62));have hE:noneO w b=((((((((w.alloc (.cells #[.string ⟨#[]⟩,.slice none 0 0,.int .i64 0,.slice none 0 0,.slice none 0 0,.slice none 0 0,.int .i64 0] 62)).setCell ⟨b,0,none⟩ (.string ⟨#[]⟩)).setCell ⟨b,1,none⟩ (.slice none 0 0)).setCell ⟨b,2,none⟩ (.int .i64 0)).setCell ⟨b,3,none⟩ (.slice none 0 0)).setCell ⟨b,4,none⟩ (.slice none 0 0)).setCell ⟨b,5,none⟩ (.slice none 0 0)).setCell ⟨b,6,none⟩ (.int .i64 0)).setCell ⟨b+1,0,none⟩ (.bool false):=rfl;rw [hE];clear hX hK hX1 hK1 hE
 refine callsD_of_wpS Tryz.func136 rfl fun c₀ cs hu=>?_
 apply wpS_seq
 apply wpS_region
 simp [wpOpsS,go_sem,recoverD,hu,Tryz.ntmps136,Exit.thenS];refine wpS_cond (t:=true) (by simp [Act.eval,Array.replicate]) ?_;simp only [if_true]
 apply wpS_seq
 apply wpS_region
 simp [wpOpsS,go_sem,Exit.thenS]
 apply wpS_region
 simp [wpOpsS,go_sem,n0,n1,n2,n3,n4,n5,n6,a0,a1,a2,a3,a4,a5,a6,afz,k0,kf,bodyPostS,results,Tryz.results136]
theorem zrn (p q:Addr) (w:World) :
 CallsD Tryz.prog 136 #[.pointer (some p),.pointer (some q)] .returning w fun e u' w'=>e = .returned (.tuple #[])/\u' = .returning/\w'=w:=by
 refine callsD_of_wpS Tryz.func136 rfl fun c₀ cs hu=>?_
 apply wpS_seq
 apply wpS_region
 simp [wpOpsS,go_sem,recoverD,hu,Tryz.ntmps136,Exit.thenS];refine wpS_cond (t:=false) (by simp [Act.eval,Array.replicate]) ?_;simp only [vcs,if_false];refine wpS_of_wp (wp_skip ?_)
 cases c₀
 simp_all [bodyPostS,results,Tryz.results136]
def wOk (l:L8):Option Ob:=match zn6 l with
 | some (o,[])=>some o
 | _=>none
theorem caught (u:TypeId) (pv:Value) (w W:World) (x0 x1 x2 x3 x4 x5 x6:Value) (y:Bool) (hX:W.heap[w.heap.size]? = some (.cells #[x0,x1,x2,x3,x4,x5,x6] 62 (0,0))) (hK:W.heap[w.heap.size+1]? = some (.cells #[.bool y] 4 (0,0))) (hB:Below w.heap.size w W) {R:Ending->World->Prop} (t:Array Value)
 (h4:t.getD 4 undef = .pointer (some ⟨w.heap.size,0,none⟩)) (h5:t.getD 5 undef = .pointer (some ⟨w.heap.size+1,0,none⟩))
 (hR:∀ W',Below w.heap.size w W'->R (.returned (.tuple #[.agg #[.string ⟨#[]⟩,.slice none 0 0,.int .i64 0,.slice none 0 0,.slice none 0 0,.slice none 0 0,.int .i64 0],.bool false])) W') :
 Leaves Tryz.prog Tryz.f95 t R [{ target:=Target.fn (Fn.func 136) #[Value.pointer (some ⟨w.heap.size,0,none⟩),Value.pointer (some ⟨w.heap.size+1,0,none⟩)],args:=#[] }] (.panicking [{ v:=.iface u pv,recovered:=false }]) W:=by
 refine leaves_cons (f:=136) (args:=#[.pointer (some ⟨w.heap.size,0,none⟩),.pointer (some ⟨w.heap.size+1,0,none⟩)]) (by simp) (by simp [go_sem]) ?_;refine (zn7 w.heap.size x0 x1 x2 x3 x4 x5 x6 y u pv W hX hK).mono ?_;rintro e u' w'' ⟨rfl,rfl,rfl⟩;have hX1:=zu4 (zae (o:=.cells #[.string ⟨#[]⟩,.slice none 0 0,.int .i64 0,.slice none 0 0,.slice none 0 0,.slice none 0 0,.int .i64 0] 62) hX) (.string ⟨#[]⟩) (.slice none 0 0) (.int .i64 0) (.slice none 0 0) (.slice none 0 0) (.slice none 0 0) (.int .i64 0);have hX2:(noneO W w.heap.size).heap[w.heap.size]? = some (.cells #[.string ⟨#[]⟩,.slice none 0 0,.int .i64 0,.slice none 0 0,.slice none 0 0,.slice none 0 0,.int .i64 0] 62 (0,0)):=(zac (p:=⟨w.heap.size+1,0,none⟩) (by show w.heap.size≠w.heap.size+1;omega) _).trans hX1;have hK2:(noneO W w.heap.size).heap[w.heap.size+1]? = some (.cells #[.bool false] 4 (0,0)):=zaf ((ze2 (by omega) _ _ _ _ _ _ _).trans (zae (o:=.cells #[.string ⟨#[]⟩,.slice none 0 0,.int .i64 0,.slice none 0 0,.slice none 0 0,.slice none 0 0,.int .i64 0] 62) hK)) _
 have hb:Below w.heap.size w (noneO W w.heap.size):=(zcg (hB.alloc hB.size _) (vaa _) _ _ _ _ _ _ _).setCell (p:=⟨w.heap.size+1,0,none⟩) (vdv _) _;obtain ⟨c0,c1,c2,c3,c4,c5,c6,_⟩:=zai hX2
 have k0:(noneO W w.heap.size).cell? ⟨w.heap.size+1,0,none⟩=some (.bool false):=by rw [veq hK2];rfl
 generalize noneO W w.heap.size=X at *
 have h4':t[4]?.getD undef = .pointer (some ⟨w.heap.size,0,none⟩):=by simpa using h4
 have h5':t[5]?.getD undef = .pointer (some ⟨w.heap.size+1,0,none⟩):=by simpa using h5
 refine ⟨.tuple #[.agg #[.string ⟨#[]⟩,.slice none 0 0,.int .i64 0,.slice none 0 0,.slice none 0 0,.slice none 0 0,.int .i64 0],.bool false],?_,hR X hb⟩;simp [results,Tryz.results95,go_sem,h4',h5',c0,c1,c2,c3,c4,c5,c6,k0]
def z76 (w:World) (r:Option Ob) (e:Ending) (w':World):Prop:=
 Below w.heap.size w w'/\((r=none/\e = .returned (.tuple #[.agg #[.string ⟨#[]⟩,.slice none 0 0,.int .i64 0,.slice none 0 0,.slice none 0 0,.slice none 0 0,.int .i64 0],.bool false]))\/∃ o v,r=some o/\e = .returned (.tuple #[v,.bool true])/\z40 w.heap.size w' o v)
theorem ztm {w X w':World} {rb:Nat} (h:Below w.heap.size w X) (hg:X.grownBy w' (some rb)) (hr:w.heap.size<=rb):Below w.heap.size w w':=h.grown hg h.size (fun k e=>by cases e;exact hr)
theorem zwr (l:L8) (w:World) (hl:l.length<=1000000) :
 Calls Tryz.prog 95 #[.string (Fx.strOf l),.func (.func 96) #[] #[]] w fun e w'=>z76 w (wOk l) e w':=by
 have hmf:∀ (fn:Fn) (first cap:Array Value) (w:World),(Instr.makeFunc fn first cap).run Tryz.prog w = .ok (.func fn first cap) w:=fun _ _ _ _=>rfl
 obtain ⟨W2,hW2⟩:∃ W2,W2=((w.alloc (.cells #[.string ⟨#[]⟩,.slice none 0 0,.int .i64 0,.slice none 0 0,.slice none 0 0,.slice none 0 0,.int .i64 0] 62)).alloc (.cells #[.bool false] 4)).alloc (.cells #[.string (Fx.strOf l)] 216):=⟨_,rfl⟩
 have hX:W2.heap[w.heap.size]? = some (.cells #[.string ⟨#[]⟩,.slice none 0 0,.int .i64 0,.slice none 0 0,.slice none 0 0,.slice none 0 0,.int .i64 0] 62 (0,0)):=by rw [hW2];exact zae (zae (heap_newP w _))
 have hK:W2.heap[w.heap.size+1]? = some (.cells #[.bool false] 4 (0,0)):=by rw [hW2];exact zae (zy9 w _ _)
 have hR2:W2.heap[w.heap.size+2]? = some (.cells #[.string (Fx.strOf l)] 216 (0,0)):=by
  rw [hW2];have:=heap_newP ((w.alloc (.cells #[.string ⟨#[]⟩,.slice none 0 0,.int .i64 0,.slice none 0 0,.slice none 0 0,.slice none 0 0,.int .i64 0] 62)).alloc (.cells #[.bool false] 4)) (.cells #[.string (Fx.strOf l)] 216);simpa using this
 have hRd:Fx.Rdr W2 (w.heap.size+2) l:=⟨zab hR2,by rw [veq hR2];rfl,vep hR2 0⟩
 have hBl:Below w.heap.size w W2:=by
  rw [hW2];exact (((vez _ _).alloc (vaa _) _).alloc (by simp) _).alloc (by simp;omega) _
 have HC:=hid (z6p (w.heap.size+2) l W2 hRd hl);have HP:Hid (wOk l=match zn6 l with | some (o,[])=>some o | _=>none):=rfl;have hz:=zab hR2;have HX:=hid hX;have HK:=hid hK;have HBl:=hid hBl;have HW:=hid hW2;clear hX hK hRd hBl hW2 hR2;go_enter_defers Tryz.func95,Tryz.ntmps95
 go_wp2_with (fail)
 rw [← HW.out];refine HC.out.mono ?_;rintro e w1 ⟨hg,⟨hp,c,hc,rfl⟩ | ⟨o,r,v,hp,rfl,hv,hr⟩⟩
 . have HN:Hid (wOk l=none):=by show _=_;rw [HP.out,hp]
   have h1:=gk hg HX.out (by omega);have h2:=gk hg HK.out (by omega);have h3:=ztm HBl.out hg (by omega)
   rcases hc with rfl | rfl
   . exact caught 9 _ w w1 _ _ _ _ _ _ _ _ h1 h2 h3 _ rfl rfl (fun W' h=>⟨h,Or.inl ⟨HN.out,rfl⟩⟩)
   . exact caught 9 _ w w1 _ _ _ _ _ _ _ _ h1 h2 h3 _ rfl rfl (fun W' h=>⟨h,Or.inl ⟨HN.out,rfl⟩⟩)
 obtain ⟨x1,y1,x3,y3,x4,y4,x5,y5,rfl,hO,hcp⟩:=hv;have HX1:=hid (gk hg HX.out (by omega));have HK1:=hid (gk hg HK.out (by omega));have HB1:=hid (ztm HBl.out hg (by omega));have HO:=hid hO;have HCp:=hid hcp;have hr0:=hr.c0;obtain ⟨j0,j1,j2,j3,j4,j5,j6,jz⟩:=zai HX1.out
 have jfz:∀ j,w1.frozen? ⟨w.heap.size,j,none⟩=false:=fun j=>vep HX1.out j
 have k0:w1.cell? ⟨w.heap.size+1,0,none⟩=some (.bool false):=by rw [veq HK1.out];rfl
 have kf:w1.frozen? ⟨w.heap.size+1,0,none⟩=false:=vep HK1.out 0;have kz:=zab HK1.out;have rz:=hr.lt
 cases r with
 | cons c r=>
   have HN:Hid (wOk l=none):=by show _=_;rw [HP.out,hp]
   have hE:=Lx.ne_empty (Fx.strOf (c :: r)) (by rw [Fx.strOf_size];exact Nat.succ_pos _);clear hg hr hp hO hcp;go_wp2_with fail;exact caught 9 _ w _ _ _ _ _ _ _ _ _ (zu4 HX1.out _ _ _ _ _ _ _) ((ze2 (by omega) _ _ _ _ _ _ _).trans HK1.out) (zcg HB1.out (vaa _) _ _ _ _ _ _ _) _ rfl rfl (fun W' h=>⟨h,Or.inl ⟨HN.out,rfl⟩⟩)
 | nil=>
   have HN:Hid (wOk l=some o):=by show _=_;rw [HP.out,hp]
   have e0:Fx.strOf ([]:L8)=⟨#[]⟩:=rfl;rw [e0] at hr0;clear hg hr hp hO hcp;go_wp2_with fail;refine leaves_cons (f:=136) (args:=#[.pointer (some ⟨w.heap.size,0,none⟩),.pointer (some ⟨w.heap.size+1,0,none⟩)]) (by simp) (by simp [go_sem]) ?_;refine (zrn ⟨w.heap.size,0,none⟩ ⟨w.heap.size+1,0,none⟩ _).mono ?_;rintro e u' w'' ⟨rfl,rfl,rfl⟩
   obtain ⟨F,hF⟩:∃ F,F=(ztl (ztl w1 w.heap.size (.string o.name) (.slice x1 o.uses.length y1) (.int .i64 o.data) (.slice x3 o.code.length y3) (.slice x4 o.fixes.length y4) (.slice x5 o.entries.length y5) (.int .i64 o.main)) w.heap.size (.string o.name) (.slice x1 o.uses.length y1) (.int .i64 o.data) (.slice x3 o.code.length y3) (.slice x4 o.fixes.length y4) (.slice x5 o.entries.length y5) (.int .i64 o.main)).setCell ⟨w.heap.size+1,0,none⟩ (.bool true):=⟨_,rfl⟩
   have hXF:F.heap[w.heap.size]? = some (.cells #[.string o.name,.slice x1 o.uses.length y1,.int .i64 o.data,.slice x3 o.code.length y3,.slice x4 o.fixes.length y4,.slice x5 o.entries.length y5,.int .i64 o.main] 62 (0,0)):=by rw [hF];exact (zac (p:=⟨w.heap.size+1,0,none⟩) (by show w.heap.size≠w.heap.size+1;omega) _).trans (zu4 (zu4 HX1.out _ _ _ _ _ _ _) _ _ _ _ _ _ _)
   have hKF:F.heap[w.heap.size+1]? = some (.cells #[.bool true] 4 (0,0)):=by rw [hF];exact zaf ((ze2 (by omega) _ _ _ _ _ _ _).trans ((ze2 (by omega) _ _ _ _ _ _ _).trans HK1.out)) _
   have hBF:Below w.heap.size w F:=by rw [hF];exact (zcg (zcg HB1.out (vaa _) _ _ _ _ _ _ _) (vaa _) _ _ _ _ _ _ _).setCell (p:=⟨w.heap.size+1,0,none⟩) (vdv _) _
   have hOF:OvLo F w.heap.size o x1 x3 x4 x5:=HO.out.moves ⟨by rw [hF];simp [ztl],fun b hb hlo=>⟨vai (by omega) hlo,by
    rw [hF]
    exact (zac (p:=⟨w.heap.size+1,0,none⟩) (by show b≠w.heap.size+1;omega) _).trans ((ze2 (by omega) _ _ _ _ _ _ _).trans (ze2 (by omega) _ _ _ _ _ _ _))⟩⟩
   obtain ⟨c0,c1,c2,c3,c4,c5,c6,_⟩:=zai hXF
   have kF:F.cell? ⟨w.heap.size+1,0,none⟩=some (.bool true):=by rw [veq hKF];rfl
   unfold ztl at hF;refine ⟨.tuple #[.agg #[.string o.name,.slice x1 o.uses.length y1,.int .i64 o.data,.slice x3 o.code.length y3,.slice x4 o.fixes.length y4,.slice x5 o.entries.length y5,.int .i64 o.main],.bool true],?_,?_⟩
   . rw [← hF]
     simp [results,Tryz.results95,go_sem,c0,c1,c2,c3,c4,c5,c6,kF]
   . rw [← hF]
     exact ⟨hBF,Or.inr ⟨o,_,HN.out,rfl,x1,y1,x3,y3,x4,y4,x5,y5,rfl,hOF,HCp.out⟩⟩
def rdO (l:L8):Option Ob:=match wOk l with
 | some o=>if oChk o=0 then some o else none
 | none=>none
def z49 (w:World) (l:L8) (e:Ending) (w':World):Prop:=
 Below w.heap.size w w'/\((32768<l.length/\e = .returned (.tuple #[.agg #[.string ⟨#[]⟩,.slice none 0 0,.int .i64 0,.slice none 0 0,.slice none 0 0,.slice none 0 0,.int .i64 0],.int .i64 2]))\/(l.length<=32768/\rdO l=none/\e = .returned (.tuple #[.agg #[.string ⟨#[]⟩,.slice none 0 0,.int .i64 0,.slice none 0 0,.slice none 0 0,.slice none 0 0,.int .i64 0],.int .i64 1]))\/(l.length<=32768/\∃ o v,rdO l=some o/\e = .returned (.tuple #[v,.int .i64 0])/\z40 w.heap.size w' o v))
theorem zz7 (w:World):OvAt w ⟨⟨#[]⟩,[],0,[],[],[],0⟩ none none none none:=⟨by decide,⟨by decide,by decide,Or.inl rfl⟩,by decide,⟨by decide,by decide,Or.inl rfl⟩,⟨by decide,by decide,Or.inl rfl⟩,⟨by decide,by decide,Or.inl rfl⟩,by decide⟩
theorem zhb (l:L8) (w:World) (hl:l.length<=9223372036854775807) :
 Calls Tryz.prog 37 #[.string (Fx.strOf l)] w fun e w'=>z49 w l e w':=by
 have hz:(Fx.strOf l).size=l.length:=Fx.strOf_size l
 obtain ⟨s,hs⟩:∃ s,s=Fx.strOf l:=⟨_,rfl⟩
 rw [← hs] at hz ⊢
 by_cases hc:32768<l.length
 . have HC:=hid hc
   clear hs;go_enter Tryz.func37,Tryz.ntmps37;go_wp2_with fail;refine bodyPost_ret (v:=.tuple #[.agg #[.string ⟨#[]⟩,.slice none 0 0,.int .i64 0,.slice none 0 0,.slice none 0 0,.slice none 0 0,.int .i64 0],.int .i64 2]) (by simp [results,Tryz.results37,go_sem]) rfl ⟨?_,Or.inl ⟨HC.out,rfl⟩⟩;exact al1 _ _
 . have HC:Hid (l.length<=32768):=by show _<=_;omega
   have HW:=hid (zwr l (w.alloc (.cells #[.string ⟨#[]⟩,.slice none 0 0,.int .i64 0,.slice none 0 0,.slice none 0 0,.slice none 0 0,.int .i64 0] 62)) (by omega));rw [← hs] at HW;have HP:Hid (rdO l=match wOk l with | some o=>if oChk o=0 then some o else none | none=>none):=rfl;clear hs;go_enter Tryz.func37,Tryz.ntmps37;go_wp2_with fail;refine HW.out.mono ?_;rintro e w1 ⟨hb1,⟨hn,rfl⟩ | ⟨o,v,hn,rfl,hv⟩⟩
   . have HN:Hid (rdO l=none):=by show _=_;rw [HP.out,hn]
     have HB1:=hid (thenB (al1 w _) hb1);have HX1:=hid (zaj (heap_newP w (.cells #[.string ⟨#[]⟩,.slice none 0 0,.int .i64 0,.slice none 0 0,.slice none 0 0,.slice none 0 0,.int .i64 0] 62)) hb1);obtain ⟨q0,q1,q2,q3,q4,q5,q6,qz⟩:=zai HX1.out
     have qf:∀ j,w1.frozen? ⟨w.heap.size,j,none⟩=false:=fun j=>vep HX1.out j
     clear hb1 hn q0 q1 q2 q3 q4 q5 q6 qz qf;go_upto_region 4 with fail
     obtain ⟨W1,hW1⟩:∃ W1,W1=w1.alloc (.cells #[.string ⟨#[]⟩,.slice none 0 0,.int .i64 0,.slice none 0 0,.slice none 0 0,.slice none 0 0,.int .i64 0] 62):=⟨_,rfl⟩
     have hBW:Below w1.heap.size w1 W1:=by rw [hW1];exact al1 _ _
     have HBW:=hid (thenB HB1.out hBW);have HXW:=hid (zaj HX1.out hBW)
     try rw [← hW1]
     clear hW1 hBW HX1 HB1;obtain ⟨q0,q1,q2,q3,q4,q5,q6,qz⟩:=zai HXW.out
     have qf:∀ j,W1.frozen? ⟨w.heap.size,j,none⟩=false:=fun j=>vep HXW.out j
     go_wp2_with fail;refine bodyPost_ret (v:=.tuple #[.agg #[.string ⟨#[]⟩,.slice none 0 0,.int .i64 0,.slice none 0 0,.slice none 0 0,.slice none 0 0,.int .i64 0],.int .i64 1]) (by simp [results,Tryz.results37,go_sem,q0,q1,q2,q3,q4,q5,q6,qz]) rfl ⟨?_,Or.inr (Or.inl ⟨HC.out,HN.out,rfl⟩)⟩;exact zcg HBW.out (vaa _) _ _ _ _ _ _ _
   . obtain ⟨x1,y1,x3,y3,x4,y4,x5,y5,rfl,hO,hcp⟩:=hv
     have HB1:=hid (thenB (al1 w _) hb1);have HX1:=hid (zaj (heap_newP w (.cells #[.string ⟨#[]⟩,.slice none 0 0,.int .i64 0,.slice none 0 0,.slice none 0 0,.slice none 0 0,.int .i64 0] 62)) hb1);have HO1:=hid hO;have HCp:=hid hcp
     have HPn:Hid (rdO l=if oChk o=0 then some o else none):=by show _=_;rw [HP.out,hn]
     clear hb1 hn hO hcp;go_upto_region 4 with fail
     obtain ⟨W1,hW1⟩:∃ W1,W1=w1.alloc (.cells #[.string o.name,.slice x1 o.uses.length y1,.int .i64 o.data,.slice x3 o.code.length y3,.slice x4 o.fixes.length y4,.slice x5 o.entries.length y5,.int .i64 o.main] 62):=⟨_,rfl⟩
     have hBW:Below w1.heap.size w1 W1:=by rw [hW1];exact al1 _ _
     have HYW:Hid (W1.heap[w1.heap.size]? = some (.cells #[.string o.name,.slice x1 o.uses.length y1,.int .i64 o.data,.slice x3 o.code.length y3,.slice x4 o.fixes.length y4,.slice x5 o.entries.length y5,.int .i64 o.main] 62 (0,0))):=by rw [hW1];exact heap_newP _ _
     have HBW:=hid (thenB HB1.out hBW);have HXW:=hid (zaj HX1.out hBW);have HOW:=hid (HO1.out.moves (w':=W1) (lo':=w.heap.size+1) ⟨hBW.size,fun b hb hlo=>⟨by simpa using hlo,hBW.block b hb⟩⟩)
     have hne:w.heap.size≠w1.heap.size:=by have:=zab HX1.out;omega
     try rw [← hW1]
     clear hW1 hBW HX1 HB1 HO1;have HCk:=hid (zf6 o x1 y1 x3 y3 x4 y4 x5 y5 W1 HOW.out.ov HCp.out);obtain ⟨u0,u1,u2,u3,u4,u5,u6,uz⟩:=zai HYW.out;go_wp2_with fail;refine HCk.out.mono ?_;rintro e w2 ⟨rfl,hb2⟩;have HB2:=hid (thenB HBW.out hb2);have HX2:=hid (zaj HXW.out hb2);have HY2:=hid (zaj HYW.out hb2);have HO2:=hid (HOW.out.moves (w':=w2) (lo':=w.heap.size+1) ⟨hb2.size,fun b hb hlo=>⟨hlo,hb2.block b hb⟩⟩);clear hb2 u0 u1 u2 u3 u4 u5 u6 uz HBW HXW HYW HOW HCk;obtain ⟨u0,u1,u2,u3,u4,u5,u6,uz⟩:=zai HY2.out;obtain ⟨q0,q1,q2,q3,q4,q5,q6,qz⟩:=zai HX2.out
     have qf:∀ j,w2.frozen? ⟨w.heap.size,j,none⟩=false:=fun j=>vep HX2.out j
     by_cases h0:oChk o=0
     . have HN:Hid (rdO l=some o):=by show _=_;rw [HPn.out,if_pos h0]
       rw [h0];clear h0;go_wp2_with fail;refine bodyPost_ret (v:=.tuple #[.agg #[.string o.name,.slice x1 o.uses.length y1,.int .i64 o.data,.slice x3 o.code.length y3,.slice x4 o.fixes.length y4,.slice x5 o.entries.length y5,.int .i64 o.main],.int .i64 0]) (by simp [results,Tryz.results37,go_sem,q0,q1,q2,q3,q4,q5,q6,qz,hne,hne.symm]) rfl ⟨zcg HB2.out (vaa _) _ _ _ _ _ _ _,Or.inr (Or.inr ⟨HC.out,o,_,HN.out,rfl,x1,y1,x3,y3,x4,y4,x5,y5,rfl,?_,HCp.out⟩)⟩;exact HO2.out.moves ⟨by simp,fun b hb hlo=>⟨by omega,ze2 (by omega) (.string o.name) (.slice x1 o.uses.length y1) (.int .i64 o.data) (.slice x3 o.code.length y3) (.slice x4 o.fixes.length y4) (.slice x5 o.entries.length y5) (.int .i64 o.main)⟩⟩
     . have HN:Hid (rdO l=none):=by show _=_;rw [HPn.out,if_neg h0]
       have hb0:(oChk o != 0)=true:=by rw [bne_iff_ne];exact h0
       generalize oChk o=E at *;clear h0;go_wp2_with fail;refine bodyPost_ret (v:=.tuple #[.agg #[.string ⟨#[]⟩,.slice none 0 0,.int .i64 0,.slice none 0 0,.slice none 0 0,.slice none 0 0,.int .i64 0],.int .i64 1]) (by simp [results,Tryz.results37,go_sem,q0,q1,q2,q3,q4,q5,q6,qz]) rfl ⟨zcg HB2.out (vaa _) _ _ _ _ _ _ _,Or.inr (Or.inl ⟨HC.out,HN.out,rfl⟩)⟩
end Go.Proofs.YtndkhgakfodldaaGreatDoor

namespace Go.Proofs.YtndkhgakfodldaaGreatDoor
set_option linter.unusedSimpArgs false
set_option linter.unusedVariables false
theorem ztn (s:ByteArray) (r:L8) (h:s.size<=255):pTx (Fx.textB s++r)=some (s,r):=by
 unfold pTx;rw [Fx.pText_there s r h];simp [Fx.strOf_back]
theorem zws {l r:L8} {s:ByteArray} (h:pTx l=some (s,r)):l=Fx.textB s++r:=by
 unfold pTx at h
 cases hq:Fx.pText l with
 | none=>rw [hq] at h;cases h
 | some q=>
   rw [hq] at h;cases h;exact Fx.pText_back (x:=q.1) (r:=q.2) hq
theorem zd6 {n:Int} (h:W64 n) (r:L8):Fx.pNum (Fx.numB n++r)=some (n,r):=by
 have:=z1d h;exact Fx.pNum_there n r this.1 this.2
theorem zmu {n:Int} (h0:0<=n) (h1:n<=255) (r:L8):Fx.pByte (Fx.byteOf n :: r)=some (n,r):=by
 rw [Fx.pByte_cons,Fx.byteOf_nat,Int.emod_eq_of_lt h0 (by omega)]
theorem zwt {n:Nat} (h:n<=1000000) (r:L8):zno (Fx.numB n++r)=some (n,r):=by
 unfold zno;rw [zd6 (zkh (by omega)) r];simp
theorem zmv {α:Type} {p:L8->Option (α × L8)} {g:α->L8}:∀ (xs:List α),(∀ x ∈ xs,∀ r,p (g x++r)=some (x,r))->∀ r,zb6 p xs.length (xs.flatMap g++r)=some (xs,r)
 | [],_,r=>rfl
 | x :: t,h,r=>by
   rw [vbg,vaq,vas];unfold zb6;rw [h x (vam ..)];simp only [vaw];rw [zmv t (fun y hy=>h y (vaf _ hy)) r]
   rfl
theorem zht {α:Type} {p:L8->Option (α × L8)} {g:α->L8} (xs:List α) (h:∀ x ∈ xs,∀ r,p (g x++r)=some (x,r)) (hl:xs.length<=1000000) (r:L8):zds p (listB g xs++r)=some (xs,r):=by
 unfold zds listB;rw [vaq,zwt hl];exact zmv xs h r
theorem zpy {α:Type} {p:L8->Option (α × L8)} {g:α->L8} (h:∀ l x r,p l=some (x,r)->l=g x++r):∀ (n:Nat) (l:L8) (xs:List α) (r:L8),zb6 p n l=some (xs,r)->xs.length=n/\l=xs.flatMap g++r
 | 0,l,xs,r,e=>by cases e;exact ⟨rfl,rfl⟩
 | n + 1,l,xs,r,e=>by
   unfold zb6 at e
   cases h1:p l with
   | none=>rw [h1] at e;cases e
   | some a=>
     rw [h1] at e
     cases h2:zb6 p n a.2 with
     | none=>simp [h2] at e
     | some b=>
       simp [h2] at e;obtain ⟨q1,q2⟩:=zpy h n a.2 b.1 b.2 h2;rw [← e.1,← e.2,h l a.1 a.2 h1,q2];exact ⟨by rw [vas,q1],by rw [vbg,vaq]⟩
theorem zz8 {l r:L8} {n:Nat} (h:zno l=some (n,r)):l=Fx.numB n++r:=by
 unfold zno at h
 cases hq:Fx.pNum l with
 | none=>rw [hq] at h;cases h
 | some q=>
   rw [hq] at h;simp only [vaw] at h
   split at h
   . cases h
   . rename_i h0
     cases h;have:=Fx.pNum_back (n:=q.1) (r:=q.2) hq;rw [vdk (by omega)];exact this
theorem zjw {α:Type} {p:L8->Option (α × L8)} {g:α->L8} (h:∀ l x r,p l=some (x,r)->l=g x++r) {l r:L8} {xs:List α} (e:zds p l=some (xs,r)):l=listB g xs++r:=by
 unfold zds at e
 cases h1:zno l with
 | none=>rw [h1] at e;cases e
 | some q=>
   rw [h1] at e;obtain ⟨q1,q2⟩:=zpy h q.1 q.2 xs r e;rw [zz8 (n:=q.1) (r:=q.2) h1,q2];unfold listB;rw [q1,vaq]
theorem zro {i:Gi} (h0:0<=i.op/\i.op<=255) (h1:W64 i.a) (h2:W64 i.b) (r:L8):zbj (instrB i++r)=some (i,r):=by
 unfold zbj instrB;rw [vcn,zmu h0.1 h0.2,vaq];simp only [vaw];rw [zd6 h1];simp only [vaw];rw [zd6 h2]
 rfl
theorem zwu {i:Gf} (h0:0<=i.kind/\i.kind<=255) (h1:W64 i.at_) (h2:W64 i.m) (r:L8):zce (fixBy i++r)=some (i,r):=by
 unfold zce fixBy;rw [vaq,zd6 h1];simp only [vaw];rw [vcn,zmu h0.1 h0.2];simp only [vaw];rw [zd6 h2]
 rfl
theorem zu5 (l:L8) (x:Gi) (r:L8) (h:zbj l=some (x,r)):l=instrB x++r:=by
 unfold zbj at h
 cases h1:Fx.pByte l with
 | none=>rw [h1] at h;cases h
 | some a=>
   rw [h1] at h
   cases h2:Fx.pNum a.2 with
   | none=>simp [h2] at h
   | some b=>
     cases h3:Fx.pNum b.2 with
     | none=>simp [h2,h3] at h
     | some c=>
       simp [h2,h3] at h;rw [← h.1,← h.2,Fx.pByte_back (n:=a.1) (r:=a.2) h1,Fx.pNum_back (n:=b.1) (r:=b.2) h2,Fx.pNum_back (n:=c.1) (r:=c.2) h3];unfold instrB;rw [vcn,vaq]
theorem zz9 (l:L8) (x:Gf) (r:L8) (h:zce l=some (x,r)):l=fixBy x++r:=by
 unfold zce at h
 cases h1:Fx.pNum l with
 | none=>rw [h1] at h;cases h
 | some a=>
   rw [h1] at h
   cases h2:Fx.pByte a.2 with
   | none=>simp [h2] at h
   | some b=>
     cases h3:Fx.pNum b.2 with
     | none=>simp [h2,h3] at h
     | some c=>
       simp [h2,h3] at h;rw [← h.1,← h.2,Fx.pNum_back (n:=a.1) (r:=a.2) h1,Fx.pByte_back (n:=b.1) (r:=b.2) h2,Fx.pNum_back (n:=c.1) (r:=c.2) h3];unfold fixBy;rw [vaq,vcn]
structure Fits (o:Ob):Prop where
 data:W64 o.data
 code:∀ i ∈ o.code,W64 i.op/\W64 i.a/\W64 i.b
 fixes:∀ f ∈ o.fixes,W64 f.at_/\W64 f.kind/\W64 f.m
 entries:∀ x ∈ o.entries,W64 x
 main:W64 o.main
theorem OvAt.fits {w:World} {o:Ob} {x1 x3 x4 x5:OA} (h:OvAt w o x1 x3 x4 x5):Fits o:=by
 refine ⟨h.wd,fun i hi=>?_,fun f hf=>?_,fun x hx=>?_,h.wm⟩
 . obtain ⟨k,hk,rfl⟩:=vbd hi
   obtain ⟨_,_,_,hx⟩:=h.code.gi k hk;exact ⟨hx.w0,hx.w1,hx.w2⟩
 . obtain ⟨k,hk,rfl⟩:=vbd hf
   obtain ⟨_,_,_,hx⟩:=h.fixes.gf k hk;exact ⟨hx.w0,hx.w1,hx.w2⟩
 . obtain ⟨k,hk,rfl⟩:=vbd hx
   obtain ⟨_,_,_,_,_,hx⟩:=h.entries.num k hk;exact hx
theorem zto (o:Ob) (r:L8):objB o++r=Fx.textB o.name++(listB Fx.textB o.uses++(Fx.numB o.data++(listB instrB o.code++(listB fixBy o.fixes++(listB Fx.numB o.entries++(Fx.numB o.main++r)))))):=by
 unfold objB;generalize Fx.textB o.name=a1;generalize listB Fx.textB o.uses=a2;generalize Fx.numB o.data=a3;generalize listB instrB o.code=a4;generalize listB fixBy o.fixes=a5;generalize listB Fx.numB o.entries=a6;generalize Fx.numB o.main=a7;simp only [vaq]
theorem zwv {l0 l1 l2 l3 l4 l5 l6 l7:L8} {a:ByteArray} {b:List ByteArray} {c:Int} {d:List Gi} {e:List Gf} {f:List Int} {g:Int} (h1:pTx l0=some (a,l1)) (h2:zds pTx l1=some (b,l2)) (h3:Fx.pNum l2=some (c,l3)) (h4:zds zbj l3=some (d,l4)) (h5:zds zce l4=some (e,l5)) (h6:zds Fx.pNum l5=some (f,l6)) (h7:Fx.pNum l6=some (g,l7)):zn6 l0=some (⟨a,b,c,d,e,f,g⟩,l7):=by
 unfold zn6;rw [h1];simp only [vaw];rw [h2];simp only [vaw];rw [h3];simp only [vaw];rw [h4];simp only [vaw];rw [h5];simp only [vaw];rw [h6];simp only [vaw];rw [h7]
 rfl
theorem zww {o:Ob} (h:oChk o=0) (hf:Fits o) (r:L8):zn6 (objB o++r)=some (o,r):=by
 obtain ⟨k1,k2,k3,k4,k5,k6⟩:=zfx h;obtain ⟨_,_,hc,hx⟩:=znq h
 have hops:∀ i ∈ o.code,0<=i.op/\i.op<=255:=fun i hi=>by
  obtain ⟨k,hk,rfl⟩:=vbd hi;unfold zdp at hc;rw [vad] at hc;have:=zbg.1 hc.1 k hk;unfold z0g opB at this;rw [vaj hk] at this;have:=of_decide_eq_true this;omega
 have hks:∀ f ∈ o.fixes,0<=f.kind/\f.kind<=255:=fun f hf=>by
  obtain ⟨k,hk,rfl⟩:=vbd hf;have:=zbg.1 hx k hk;unfold zf5 at this;rw [vaj hk] at this;simp only [vad] at this;have h3:=this.2.2;unfold zw6 at h3
  split at h3
  . omega
  . split at h3
    . omega
    . cases h3
 rw [zto];exact zwv (ztn _ _ (by omega)) (zht o.uses (fun s hs r=>ztn s r (by have:=k2 s hs;omega)) (by omega) _) (zd6 hf.data _) (zht o.code (fun i hi r=>zro (hops i hi) (hf.code i hi).2.1 (hf.code i hi).2.2 r) (by omega) _) (zht o.fixes (fun i hi r=>zwu (hks i hi) (hf.fixes i hi).1 (hf.fixes i hi).2.2 r) (by omega) _) (zht o.entries (fun i hi r=>zd6 (hf.entries i hi) r) (by omega) _) (zd6 hf.main r)
theorem z0a {l r:L8} {o:Ob} (h:zn6 l=some (o,r)):l=objB o++r:=by
 unfold zn6 at h
 cases h1:pTx l with
 | none=>rw [h1] at h;cases h
 | some a=>
 rw [h1] at h;simp only [vaw] at h
 cases h2:zds pTx a.2 with
 | none=>rw [h2] at h;cases h
 | some b=>
 rw [h2] at h;simp only [vaw] at h
 cases h3:Fx.pNum b.2 with
 | none=>rw [h3] at h;cases h
 | some c=>
 rw [h3] at h;simp only [vaw] at h
 cases h4:zds zbj c.2 with
 | none=>rw [h4] at h;cases h
 | some d=>
 rw [h4] at h;simp only [vaw] at h
 cases h5:zds zce d.2 with
 | none=>rw [h5] at h;cases h
 | some e=>
 rw [h5] at h;simp only [vaw] at h
 cases h6:zds Fx.pNum e.2 with
 | none=>rw [h6] at h;cases h
 | some f=>
 rw [h6] at h;simp only [vaw] at h
 cases h7:Fx.pNum f.2 with
 | none=>rw [h7] at h;cases h
 | some g=>
 rw [h7] at h;cases h;rw [zws (s:=a.1) (r:=a.2) h1,zjw (g:=Fx.textB) (fun _ _ _=>zws) (xs:=b.1) (r:=b.2) h2,Fx.pNum_back (n:=c.1) (r:=c.2) h3,zjw zu5 (xs:=d.1) (r:=d.2) h4,zjw zz9 (xs:=e.1) (r:=e.2) h5,zjw (g:=Fx.numB) (fun _ _ _=>Fx.pNum_back) (xs:=f.1) (r:=f.2) h6,Fx.pNum_back (n:=g.1) (r:=g.2) h7];have:=zto ⟨a.1,b.1,c.1,d.1,e.1,f.1,g.1⟩ g.2;exact this.symm
end Go.Proofs.YtndkhgakfodldaaGreatDoor
