import Derived.Test.YtndkhgakfodldaaGreatDoorUt
namespace Go.Proofs.YtndkhgakfodldaaGreatDoor
set_option maxRecDepth 100000
set_option maxHeartbeats 12800000
open Go.RowKit Go.Shelf
set_option linter.unusedSimpArgs false
set_option linter.unusedVariables false
abbrev zC:Obj:=.cells #[.string ⟨#[]⟩,.slice none 0 0,.int .i64 0,.slice none 0 0,.slice none 0 0,.slice none 0 0,.int .i64 0] 62
abbrev zV:Value:=.agg #[.string ⟨#[]⟩,.slice none 0 0,.int .i64 0,.slice none 0 0,.slice none 0 0,.slice none 0 0,.int .i64 0]
theorem zlt {n:Int} (h : -9223372036854775808<=n/\n<=9223372036854775807):(Lit.int .i64 n).wf=true:=by
 have h1:IntKind.i64.min = -9223372036854775808:=by decide
 have h2:IntKind.i64.max=9223372036854775807:=by decide
 simp [Lit.wf,h1,h2];omega
def W64 (n:Int):Prop:=(Lit.int .i64 n).wf=true
theorem zpu {W:World} {A:Nat->Prop}:∀ (l:List Gi),(∀ i ∈ l,W64 i.op/\W64 i.a/\W64 i.b)->zav W A (zri l) (zln l)
 | [],_=>zav.nil
 | i :: r,h=>by
   have h1:=h i (vam ..);simp only [zri,zln,vbg];exact zav.append (.cons (zdk h1.1) (.cons (zdk h1.2.1) (.cons (zdk h1.2.2) .nil))) (zpu r (fun j hj=>h j (vaf _ hj)))
theorem zpv {W:World} {A:Nat->Prop}:∀ (l:List Gf),(∀ i ∈ l,W64 i.at_/\W64 i.kind/\W64 i.m)->zav W A (zyi l) (ztc l)
 | [],_=>zav.nil
 | i :: r,h=>by
   have h1:=h i (vam ..);simp only [zyi,ztc,vbg];exact zav.append (.cons (zdk h1.1) (.cons (zdk h1.2.1) (.cons (zdk h1.2.2) .nil))) (zpv r (fun j hj=>h j (vaf _ hj)))
theorem zlu {W:World} {A:Nat->Prop}:∀ (l:List Int),(∀ i ∈ l,W64 i)->zav W A (zk8 l) (intV l)
 | [],_=>zav.nil
 | i :: r,h=>.cons (zdk (h i (vam ..))) (zlu r (fun j hj=>h j (vaf _ hj)))
theorem zlv {W:World} {A:Nat->Prop}:∀ (l:List ByteArray),(∀ s ∈ l,s.size<=maxLen)->zav W A (zao l) (strV l)
 | [],_=>zav.nil
 | i :: r,h=>.cons (zfl (h i (vam ..))) (zlv r (fun j hj=>h j (vaf _ hj)))
theorem zfn {W:World} {base lo:Nat} {t:TypeId} {sz:Nat} {a:OA} {n cap:Nat} {xs:List Value} {ds:List D} (h:W.ownsRow base t sz (.slice a n cap) n xs) (hlo:lo<=base) (hx:zav W (lo<=·) ds xs) (h1:n<=ds.length) (h2:ds.length<=17592186044416):DAt W (lo<=·) a n ds:=by
 refine ⟨h1,h2,?_⟩
 rcases h.2 with ⟨e,h0⟩ | ⟨g,cap',cur,e,hB,hg,_⟩
 . exact Or.inl h0
 . cases e
   refine Or.inr ⟨g,0,xs,rfl,vai hlo hB,zab hg,fun j u hj=>?_,hx⟩;have:=h.cells (g:=g) rfl j u hj;rw [show (⟨g,0,none⟩:Addr).add j=⟨g,j,none⟩ from by unfold Addr.add;split<;>simp_all] at this
   rw [vbq];exact this
structure OvLo (w:World) (lo:Nat) (o:Ob) (x1:OA) (x3:OA) (x4:OA) (x5:OA):Prop where
 wn:o.name.size<=maxLen
 uses:DAt w (lo<=·) x1 o.uses.length (zao o.uses)
 wd:(Lit.int .i64 o.data).wf=true
 code:DAt w (lo<=·) x3 o.code.length (zri o.code)
 fixes:DAt w (lo<=·) x4 o.fixes.length (zyi o.fixes)
 entries:DAt w (lo<=·) x5 o.entries.length (zk8 o.entries)
 wm:(Lit.int .i64 o.main).wf=true
theorem OvLo.moves {w w':World} {lo lo':Nat} {o:Ob} {x1 x3 x4 x5:OA} (h:OvLo w lo o x1 x3 x4 x5) (m:zai w (lo<=·) w' (lo'<=·)):OvLo w' lo' o x1 x3 x4 x5:=
 ⟨h.wn,h.uses.moves m,h.wd,h.code.moves m,h.fixes.moves m,h.entries.moves m,h.wm⟩
theorem OvLo.ov {w:World} {lo:Nat} {o:Ob} {x1 x3 x4 x5:OA} (h:OvLo w lo o x1 x3 x4 x5):OvAt w o x1 x3 x4 x5:=
 have m:zai w (lo<=·) w Tt:=⟨vaa _,fun b hb _=>⟨trivial,rfl⟩⟩
 ⟨h.wn,h.uses.moves m,h.wd,h.code.moves m,h.fixes.moves m,h.entries.moves m,h.wm⟩
theorem zrs {α:Type} {p:L8->Option (α × L8)} {Q:α->Prop} (hQ:∀ l x r,p l=some (x,r)->Q x/\r.length+1<=l.length):∀ (n:Nat) (l:L8) (xs:List α) (r:L8),zcc p n l=some (xs,r)->(∀ x ∈ xs,Q x)/\xs.length+r.length<=l.length
 | 0,l,xs,r,h=>by
   cases h;exact ⟨fun x hx=>(by cases hx),by simp⟩
 | n + 1,l,xs,r,h=>by
   unfold zcc at h
   cases h1:p l with
   | none=>rw [h1] at h;cases h
   | some a=>
     rw [h1] at h
     cases h2:zcc p n a.2 with
     | none=>simp [h2] at h
     | some b=>
       simp [h2] at h;obtain ⟨q1,q2⟩:=hQ l a.1 a.2 h1;obtain ⟨q3,q4⟩:=zrs hQ n a.2 b.1 b.2 h2;rw [← h.1,← h.2];refine ⟨fun x hx=>?_,by rw [vas];omega⟩
       rcases vcm.1 hx with rfl | hx
       . exact q1
       . exact q3 x hx
theorem zk5 {α:Type} {p:L8->Option (α × L8)} {Q:α->Prop} (hQ:∀ l x r,p l=some (x,r)->Q x/\r.length+1<=l.length) {l r:L8} {xs:List α} (h:zd6 p l=some (xs,r)):(∀ x ∈ xs,Q x)/\xs.length+r.length<=l.length:=by
 unfold zd6 at h
 cases h1:zpd l with
 | none=>rw [h1] at h;cases h
 | some q=>
   rw [h1] at h;have h2:=zrs hQ q.1 q.2 xs r h;have h3:=(zjq (n:=q.1) (r:=q.2) h1).1;exact ⟨h2.1,by omega⟩
theorem z48 (l:L8) (x:ByteArray) (r:L8) (h:pTx l=some (x,r)):x.size<=255/\r.length+1<=l.length:=by
 refine ⟨?_,z1h h⟩;unfold pTx at h
 cases hq:Fx.zf2 l with
 | none=>rw [hq] at h;cases h
 | some q=>
   rw [hq] at h;cases h;rw [Fx.strOf_size];unfold Fx.zf2 at hq
   cases hb:Fx.zdm l with
   | none=>rw [hb] at hq;cases hq
   | some z=>
     rw [hb] at hq;have h1:=Fx.zju (n:=z.1) (r:=z.2) hb;have h2:=(Fx.zfk (n:=z.1.toNat) (l:=z.2) (x:=q.1) (r:=q.2) hq).1;omega
theorem zh9 (l:L8) (x:Int) (r:L8) (h:Fx.pNum l=some (x,r)):W64 x/\r.length+1<=l.length:=⟨zlt (zww h),by have:=zfa h;omega⟩
theorem zyz {l r:L8} {x:Int} (h:Fx.zdm l=some (x,r)):W64 x:=zlt (by have:=Fx.zju h;omega)
theorem zy0 (l:L8) (x:Gi) (r:L8) (h:zbn l=some (x,r)):(W64 x.op/\W64 x.a/\W64 x.b)/\r.length+1<=l.length:=by
 refine ⟨?_,zph h⟩;unfold zbn at h
 cases h1:Fx.zdm l with
 | none=>rw [h1] at h;cases h
 | some a=>
   rw [h1] at h
   cases h2:Fx.pNum a.2 with
   | none=>simp [h2] at h
   | some b=>
     cases h3:Fx.pNum b.2 with
     | none=>simp [h2,h3] at h
     | some c=>
       simp [h2,h3] at h;rw [← h.1];exact ⟨zyz (x:=a.1) (r:=a.2) h1,(zh9 _ b.1 b.2 h2).1,(zh9 _ c.1 c.2 h3).1⟩
theorem z5z (l:L8) (x:Gf) (r:L8) (h:zcl l=some (x,r)):(W64 x.at_/\W64 x.kind/\W64 x.m)/\r.length+1<=l.length:=by
 refine ⟨?_,zw0 h⟩;unfold zcl at h
 cases h1:Fx.pNum l with
 | none=>rw [h1] at h;cases h
 | some a=>
   rw [h1] at h
   cases h2:Fx.zdm a.2 with
   | none=>simp [h2] at h
   | some b=>
     cases h3:Fx.pNum b.2 with
     | none=>simp [h2,h3] at h
     | some c=>
       simp [h2,h3] at h;rw [← h.1];exact ⟨(zh9 _ a.1 a.2 h1).1,zyz (x:=b.1) (r:=b.2) h2,(zh9 _ c.1 c.2 h3).1⟩
def zpw (l:L8):Option (Ob × L8):=(pTx l).bind fun a=>(zd6 pTx a.2).bind fun b=>(Fx.pNum b.2).bind fun c=>(zd6 zbn c.2).bind fun d=>(zd6 zcl d.2).bind fun e=>(zd6 Fx.pNum e.2).bind fun f=>(Fx.pNum f.2).map fun g=>(⟨a.1,b.1,c.1,d.1,e.1,f.1,g.1⟩,g.2)
def z7s (lo:Nat) (W:World) (o:Ob) (v:Value):Prop:=∃ x1 y1 x3 y3 x4 y4 x5 y5,v = .agg #[.string o.name,.slice x1 o.uses.length y1,.int .i64 o.data,.slice x3 o.code.length y3,.slice x4 o.fixes.length y4,.slice x5 o.entries.length y5,.int .i64 o.main]/\OvLo W lo o x1 x3 x4 x5/\o.uses.length<=y1
theorem zba {W:World} {B:Nat} {e:TypeId} {size:Nat} {v:Value} {n:Nat} {xs:List Value} (h:W.ownsRow B e size v n xs) {a:Addr} {u:Value} (ha:a.block<B):(W.setCell a u).ownsRow B e size v n xs:=
 zbd h (fun k hk=>zac (by have:=(h.lt k hk).1;omega) u)
theorem zvm {W:World} {B B':Nat} {e:TypeId} {sz:Nat} {v:Value} {n:Nat} {xs:List Value} (h:W.ownsRow B e sz v n xs) (hb:B'<=B):W.ownsRow B' e sz v n xs:=zcp h hb
theorem z88 {W:World} {B b:Nat} {e:TypeId} {sz:Nat} {v:Value} {n:Nat} {xs:List Value} (h:W.ownsRow B e sz v n xs) (v0 v1 v2 v3 v4 v5 v6:Value) (hb:b<B) :
 (((((((W.setCell ⟨b,0,none⟩ v0).setCell ⟨b,1,none⟩ v1).setCell ⟨b,2,none⟩ v2).setCell ⟨b,3,none⟩ v3).setCell ⟨b,4,none⟩ v4).setCell ⟨b,5,none⟩ v5).setCell ⟨b,6,none⟩ v6).ownsRow B e sz v n xs:=
 zba (zba (zba (zba (zba (zba (zba h (a:=⟨b,0,none⟩) hb) (a:=⟨b,1,none⟩) hb) (a:=⟨b,2,none⟩) hb) (a:=⟨b,3,none⟩) hb) (a:=⟨b,4,none⟩) hb) (a:=⟨b,5,none⟩) hb) (a:=⟨b,6,none⟩) hb
theorem z9i (rb:Nat) (l0:L8) (w:World) (h:Fx.Rdr w rb l0) (hl:l0.length<=1000000):Calls Tryz.prog 96 #[.pointer (some ⟨rb,0,none⟩)] w fun e w'=>Rdd rb w (zpw l0) (z7s w.heap.size) e w':=by
 have hlt:=h.lt
 have hn0:w.heap.size≠rb:=by omega
 have hn1:w.heap.size+1≠rb:=by omega
 have hb0:=bl2 w zC zC;have P0:Hid (zpw l0=(pTx l0).bind fun a=>(zd6 pTx a.2).bind fun b=>(Fx.pNum b.2).bind fun c=>(zd6 zbn c.2).bind fun d=>(zd6 zcl d.2).bind fun e=>(zd6 Fx.pNum e.2).bind fun f=>(Fx.pNum f.2).map fun g=>(⟨a.1,b.1,c.1,d.1,e.1,f.1,g.1⟩,g.2)):=rfl;have HX0:=hid (zae (o:=.cells #[.string ⟨#[]⟩,.slice none 0 0,.int .i64 0,.slice none 0 0,.slice none 0 0,.slice none 0 0,.int .i64 0] 62) (heap_newP w zC));have HI0:=hid (z1o w zC zC);have HR0:=hid (h.below hb0);have HG0:Hid (w.grownBy ((w.alloc zC).alloc zC) (some rb)):=zcb hb0 (Fx.zcf _ _);clear h hb0;go_enter Tryz.func96,Tryz.ntmps96;go_wp2_with fail;refine (z5o rb l0 _ HR0.out (by omega)).mono ?_;rintro e w1 ⟨hg,⟨hp,c,hc,rfl⟩ | ⟨z0,l1,v0,hp,rfl,hv,hr⟩⟩
 . exact ⟨rfl,Fx.zaf HG0.out hg,Or.inl ⟨by rw [P0.out,hp];rfl,c,hc,rfl⟩⟩
 obtain rfl:v0 = .string z0:=hv;have A0:=hid (z48 _ _ _ hp)
 have P1:Hid (zpw l0=(zd6 pTx l1).bind fun b=>(Fx.pNum b.2).bind fun c=>(zd6 zbn c.2).bind fun d=>(zd6 zcl d.2).bind fun e=>(zd6 Fx.pNum e.2).bind fun f=>(Fx.pNum f.2).map fun g=>(⟨z0,b.1,c.1,d.1,e.1,f.1,g.1⟩,g.2)):=by show _=_;rw [P0.out,hp];rfl
 have hln1:l1.length<=1000000:=by have:=A0.out.2;omega
 have HXa:Hid (w1.heap[w.heap.size]? = some zC):=gk hg HX0.out hn0;have HIa:Hid (w1.heap[w.heap.size+1]? = some zC):=gk hg HI0.out hn1;have HGa:=hid (Fx.zaf HG0.out hg);have HX1:Hid ((w1.setCell ⟨w.heap.size+1,0,none⟩ (.string z0)).heap[w.heap.size]? = some zC):=(zac (p:=⟨w.heap.size+1,0,none⟩) (by show w.heap.size≠w.heap.size+1;omega) _).trans HXa.out;have HI1:Hid ((w1.setCell ⟨w.heap.size+1,0,none⟩ (.string z0)).heap[w.heap.size+1]? = some (.cells #[.string z0,.slice none 0 0,.int .i64 0,.slice none 0 0,.slice none 0 0,.slice none 0 0,.int .i64 0] 62)):=zag HIa.out _;have HR1:Hid (Fx.Rdr (w1.setCell ⟨w.heap.size+1,0,none⟩ (.string z0)) rb l1):=zbo hr hn1;have HG1:Hid (w.grownBy (w1.setCell ⟨w.heap.size+1,0,none⟩ (.string z0)) (some rb)):=za0 HGa.out (by show w.heap.size<=w.heap.size+1;omega)
 obtain ⟨i0,i1,i2,i3,i4,i5,i6,iz⟩:=zaj HIa.out
 have ifz:∀ j,w1.frozen? ⟨w.heap.size+1,j,none⟩=false:=fun j=>vep HIa.out j
 clear hg hr hp HXa HIa HGa HX0 HI0 HR0 HG0 P0;go_wp2_with fail;clear i0 i1 i2 i3 i4 i5 i6 iz ifz;refine (z7g rb l1 _ HR1.out (by omega)).mono ?_;rintro e w2 ⟨hg,⟨hp,c,hc,rfl⟩ | ⟨z1,l2,v1,hp,rfl,hv,hr⟩⟩
 . exact ⟨rfl,Fx.zaf HG1.out hg,Or.inl ⟨by rw [P1.out,hp];rfl,c,hc,rfl⟩⟩
 obtain ⟨x1,y1,rfl,hcap1, -⟩:=zau hv;have K1:=hid (zvm (B':=w.heap.size+2) hv (by have:=HG1.out.size;have:=zab HI1.out;omega));have C1:=hid hcap1;clear hcap1;have A1:=hid (zk5 z48 hp)
 have P2:Hid (zpw l0=(Fx.pNum l2).bind fun c=>(zd6 zbn c.2).bind fun d=>(zd6 zcl d.2).bind fun e=>(zd6 Fx.pNum e.2).bind fun f=>(Fx.pNum f.2).map fun g=>(⟨z0,z1,c.1,d.1,e.1,f.1,g.1⟩,g.2)):=by show _=_;rw [P1.out,hp];rfl
 have hln2:l2.length<=1000000:=by have:=A1.out.2;omega
 have HXa:Hid (w2.heap[w.heap.size]? = some zC):=gk hg HX1.out hn0;have HIa:Hid (w2.heap[w.heap.size+1]? = some (.cells #[.string z0,.slice none 0 0,.int .i64 0,.slice none 0 0,.slice none 0 0,.slice none 0 0,.int .i64 0] 62)):=gk hg HI1.out hn1;have HGa:=hid (Fx.zaf HG1.out hg);have HX2:Hid ((w2.setCell ⟨w.heap.size+1,1,none⟩ (.slice x1 z1.length y1)).heap[w.heap.size]? = some zC):=(zac (p:=⟨w.heap.size+1,1,none⟩) (by show w.heap.size≠w.heap.size+1;omega) _).trans HXa.out;have HI2:Hid ((w2.setCell ⟨w.heap.size+1,1,none⟩ (.slice x1 z1.length y1)).heap[w.heap.size+1]? = some (.cells #[.string z0,.slice x1 z1.length y1,.int .i64 0,.slice none 0 0,.slice none 0 0,.slice none 0 0,.int .i64 0] 62)):=zag HIa.out _;have HR2:Hid (Fx.Rdr (w2.setCell ⟨w.heap.size+1,1,none⟩ (.slice x1 z1.length y1)) rb l2):=zbo hr hn1
 have HG2:Hid (w.grownBy (w2.setCell ⟨w.heap.size+1,1,none⟩ (.slice x1 z1.length y1)) (some rb)):=za0 HGa.out (by show w.heap.size<=w.heap.size+1;omega);have K1:=hid (zba K1.out (a:=⟨w.heap.size+1,1,none⟩) (u:=.slice x1 z1.length y1) (by show w.heap.size+1<w.heap.size+2;omega));obtain ⟨i0,i1,i2,i3,i4,i5,i6,iz⟩:=zaj HIa.out
 have ifz:∀ j,w2.frozen? ⟨w.heap.size+1,j,none⟩=false:=fun j=>vep HIa.out j
 clear hg hr hp hv HXa HIa HGa HX1 HI1 HR1 HG1 P1;go_wp2_with fail;clear i0 i1 i2 i3 i4 i5 i6 iz ifz;refine (zs5 rb l2 _ HR2.out (by omega)).mono ?_;rintro e w3 ⟨hg,⟨hp,c,hc,rfl⟩ | ⟨z2,l3,v2,hp,rfl,hv,hr⟩⟩
 . exact ⟨rfl,Fx.zaf HG2.out hg,Or.inl ⟨by rw [P2.out,hp];rfl,c,hc,rfl⟩⟩
 obtain rfl:v2 = .int .i64 z2:=hv;have A2:=hid (zh9 _ _ _ hp)
 have P3:Hid (zpw l0=(zd6 zbn l3).bind fun d=>(zd6 zcl d.2).bind fun e=>(zd6 Fx.pNum e.2).bind fun f=>(Fx.pNum f.2).map fun g=>(⟨z0,z1,z2,d.1,e.1,f.1,g.1⟩,g.2)):=by show _=_;rw [P2.out,hp];rfl
 have hln3:l3.length<=1000000:=by have:=A2.out.2;omega
 have HXa:Hid (w3.heap[w.heap.size]? = some zC):=gk hg HX2.out hn0;have HIa:Hid (w3.heap[w.heap.size+1]? = some (.cells #[.string z0,.slice x1 z1.length y1,.int .i64 0,.slice none 0 0,.slice none 0 0,.slice none 0 0,.int .i64 0] 62)):=gk hg HI2.out hn1;have HGa:=hid (Fx.zaf HG2.out hg);have K1:=hid (zbc K1.out hg (by omega));have HX3:Hid ((w3.setCell ⟨w.heap.size+1,2,none⟩ (.int .i64 z2)).heap[w.heap.size]? = some zC):=(zac (p:=⟨w.heap.size+1,2,none⟩) (by show w.heap.size≠w.heap.size+1;omega) _).trans HXa.out;have HI3:Hid ((w3.setCell ⟨w.heap.size+1,2,none⟩ (.int .i64 z2)).heap[w.heap.size+1]? = some (.cells #[.string z0,.slice x1 z1.length y1,.int .i64 z2,.slice none 0 0,.slice none 0 0,.slice none 0 0,.int .i64 0] 62)):=zag HIa.out _;have HR3:Hid (Fx.Rdr (w3.setCell ⟨w.heap.size+1,2,none⟩ (.int .i64 z2)) rb l3):=zbo hr hn1
 have HG3:Hid (w.grownBy (w3.setCell ⟨w.heap.size+1,2,none⟩ (.int .i64 z2)) (some rb)):=za0 HGa.out (by show w.heap.size<=w.heap.size+1;omega);have K1:=hid (zba K1.out (a:=⟨w.heap.size+1,2,none⟩) (u:=.int .i64 z2) (by show w.heap.size+1<w.heap.size+2;omega));obtain ⟨i0,i1,i2,i3,i4,i5,i6,iz⟩:=zaj HIa.out
 have ifz:∀ j,w3.frozen? ⟨w.heap.size+1,j,none⟩=false:=fun j=>vep HIa.out j
 clear hg hr hp HXa HIa HGa HX2 HI2 HR2 HG2 P2;go_wp2_with fail;clear i0 i1 i2 i3 i4 i5 i6 iz ifz;refine (z4u rb l3 _ HR3.out (by omega)).mono ?_;rintro e w4 ⟨hg,⟨hp,c,hc,rfl⟩ | ⟨z3,l4,v3,hp,rfl,hv,hr⟩⟩
 . exact ⟨rfl,Fx.zaf HG3.out hg,Or.inl ⟨by rw [P3.out,hp];rfl,c,hc,rfl⟩⟩
 obtain ⟨x3,y3,rfl,hcap3, -⟩:=zau hv;have K3:=hid (zvm (B':=w.heap.size+2) hv (by have:=HG3.out.size;have:=zab HI3.out;omega));have C3:=hid hcap3;clear hcap3;have A3:=hid (zk5 zy0 hp)
 have P4:Hid (zpw l0=(zd6 zcl l4).bind fun e=>(zd6 Fx.pNum e.2).bind fun f=>(Fx.pNum f.2).map fun g=>(⟨z0,z1,z2,z3,e.1,f.1,g.1⟩,g.2)):=by show _=_;rw [P3.out,hp];rfl
 have hln4:l4.length<=1000000:=by have:=A3.out.2;omega
 have HXa:Hid (w4.heap[w.heap.size]? = some zC):=gk hg HX3.out hn0;have HIa:Hid (w4.heap[w.heap.size+1]? = some (.cells #[.string z0,.slice x1 z1.length y1,.int .i64 z2,.slice none 0 0,.slice none 0 0,.slice none 0 0,.int .i64 0] 62)):=gk hg HI3.out hn1;have HGa:=hid (Fx.zaf HG3.out hg);have K1:=hid (zbc K1.out hg (by omega));have HX4:Hid ((w4.setCell ⟨w.heap.size+1,3,none⟩ (.slice x3 z3.length y3)).heap[w.heap.size]? = some zC):=(zac (p:=⟨w.heap.size+1,3,none⟩) (by show w.heap.size≠w.heap.size+1;omega) _).trans HXa.out;have HI4:Hid ((w4.setCell ⟨w.heap.size+1,3,none⟩ (.slice x3 z3.length y3)).heap[w.heap.size+1]? = some (.cells #[.string z0,.slice x1 z1.length y1,.int .i64 z2,.slice x3 z3.length y3,.slice none 0 0,.slice none 0 0,.int .i64 0] 62)):=zag HIa.out _;have HR4:Hid (Fx.Rdr (w4.setCell ⟨w.heap.size+1,3,none⟩ (.slice x3 z3.length y3)) rb l4):=zbo hr hn1
 have HG4:Hid (w.grownBy (w4.setCell ⟨w.heap.size+1,3,none⟩ (.slice x3 z3.length y3)) (some rb)):=za0 HGa.out (by show w.heap.size<=w.heap.size+1;omega);have K1:=hid (zba K1.out (a:=⟨w.heap.size+1,3,none⟩) (u:=.slice x3 z3.length y3) (by show w.heap.size+1<w.heap.size+2;omega));have K3:=hid (zba K3.out (a:=⟨w.heap.size+1,3,none⟩) (u:=.slice x3 z3.length y3) (by show w.heap.size+1<w.heap.size+2;omega));obtain ⟨i0,i1,i2,i3,i4,i5,i6,iz⟩:=zaj HIa.out
 have ifz:∀ j,w4.frozen? ⟨w.heap.size+1,j,none⟩=false:=fun j=>vep HIa.out j
 clear hg hr hp hv HXa HIa HGa HX3 HI3 HR3 HG3 P3;go_wp2_with fail;clear i0 i1 i2 i3 i4 i5 i6 iz ifz;refine (z7i rb l4 _ HR4.out (by omega)).mono ?_;rintro e w5 ⟨hg,⟨hp,c,hc,rfl⟩ | ⟨z4,l5,v4,hp,rfl,hv,hr⟩⟩
 . exact ⟨rfl,Fx.zaf HG4.out hg,Or.inl ⟨by rw [P4.out,hp];rfl,c,hc,rfl⟩⟩
 obtain ⟨x4,y4,rfl,hcap4, -⟩:=zau hv;have K4:=hid (zvm (B':=w.heap.size+2) hv (by have:=HG4.out.size;have:=zab HI4.out;omega));have C4:=hid hcap4;clear hcap4;have A4:=hid (zk5 z5z hp)
 have P5:Hid (zpw l0=(zd6 Fx.pNum l5).bind fun f=>(Fx.pNum f.2).map fun g=>(⟨z0,z1,z2,z3,z4,f.1,g.1⟩,g.2)):=by show _=_;rw [P4.out,hp];rfl
 have hln5:l5.length<=1000000:=by have:=A4.out.2;omega
 have HXa:Hid (w5.heap[w.heap.size]? = some zC):=gk hg HX4.out hn0;have HIa:Hid (w5.heap[w.heap.size+1]? = some (.cells #[.string z0,.slice x1 z1.length y1,.int .i64 z2,.slice x3 z3.length y3,.slice none 0 0,.slice none 0 0,.int .i64 0] 62)):=gk hg HI4.out hn1;have HGa:=hid (Fx.zaf HG4.out hg);have K1:=hid (zbc K1.out hg (by omega));have K3:=hid (zbc K3.out hg (by omega));have HX5:Hid ((w5.setCell ⟨w.heap.size+1,4,none⟩ (.slice x4 z4.length y4)).heap[w.heap.size]? = some zC):=(zac (p:=⟨w.heap.size+1,4,none⟩) (by show w.heap.size≠w.heap.size+1;omega) _).trans HXa.out;have HI5:Hid ((w5.setCell ⟨w.heap.size+1,4,none⟩ (.slice x4 z4.length y4)).heap[w.heap.size+1]? = some (.cells #[.string z0,.slice x1 z1.length y1,.int .i64 z2,.slice x3 z3.length y3,.slice x4 z4.length y4,.slice none 0 0,.int .i64 0] 62)):=zag HIa.out _
 have HR5:Hid (Fx.Rdr (w5.setCell ⟨w.heap.size+1,4,none⟩ (.slice x4 z4.length y4)) rb l5):=zbo hr hn1;have HG5:Hid (w.grownBy (w5.setCell ⟨w.heap.size+1,4,none⟩ (.slice x4 z4.length y4)) (some rb)):=za0 HGa.out (by show w.heap.size<=w.heap.size+1;omega);have K1:=hid (zba K1.out (a:=⟨w.heap.size+1,4,none⟩) (u:=.slice x4 z4.length y4) (by show w.heap.size+1<w.heap.size+2;omega));have K3:=hid (zba K3.out (a:=⟨w.heap.size+1,4,none⟩) (u:=.slice x4 z4.length y4) (by show w.heap.size+1<w.heap.size+2;omega));have K4:=hid (zba K4.out (a:=⟨w.heap.size+1,4,none⟩) (u:=.slice x4 z4.length y4) (by show w.heap.size+1<w.heap.size+2;omega));obtain ⟨i0,i1,i2,i3,i4,i5,i6,iz⟩:=zaj HIa.out
 have ifz:∀ j,w5.frozen? ⟨w.heap.size+1,j,none⟩=false:=fun j=>vep HIa.out j
 clear hg hr hp hv HXa HIa HGa HX4 HI4 HR4 HG4 P4;go_wp2_with fail;clear i0 i1 i2 i3 i4 i5 i6 iz ifz;refine (z84 rb l5 _ HR5.out (by omega)).mono ?_;rintro e w6 ⟨hg,⟨hp,c,hc,rfl⟩ | ⟨z5,l6,v5,hp,rfl,hv,hr⟩⟩
 . exact ⟨rfl,Fx.zaf HG5.out hg,Or.inl ⟨by rw [P5.out,hp];rfl,c,hc,rfl⟩⟩
 obtain ⟨x5,y5,rfl,hcap5, -⟩:=zau hv;have K5:=hid (zvm (B':=w.heap.size+2) hv (by have:=HG5.out.size;have:=zab HI5.out;omega));have C5:=hid hcap5;clear hcap5;have A5:=hid (zk5 zh9 hp)
 have P6:Hid (zpw l0=(Fx.pNum l6).map fun g=>(⟨z0,z1,z2,z3,z4,z5,g.1⟩,g.2)):=by show _=_;rw [P5.out,hp];rfl
 have hln6:l6.length<=1000000:=by have:=A5.out.2;omega
 have HXa:Hid (w6.heap[w.heap.size]? = some zC):=gk hg HX5.out hn0;have HIa:Hid (w6.heap[w.heap.size+1]? = some (.cells #[.string z0,.slice x1 z1.length y1,.int .i64 z2,.slice x3 z3.length y3,.slice x4 z4.length y4,.slice none 0 0,.int .i64 0] 62)):=gk hg HI5.out hn1;have HGa:=hid (Fx.zaf HG5.out hg);have K1:=hid (zbc K1.out hg (by omega));have K3:=hid (zbc K3.out hg (by omega));have K4:=hid (zbc K4.out hg (by omega));have HX6:Hid ((w6.setCell ⟨w.heap.size+1,5,none⟩ (.slice x5 z5.length y5)).heap[w.heap.size]? = some zC):=(zac (p:=⟨w.heap.size+1,5,none⟩) (by show w.heap.size≠w.heap.size+1;omega) _).trans HXa.out;have HI6:Hid ((w6.setCell ⟨w.heap.size+1,5,none⟩ (.slice x5 z5.length y5)).heap[w.heap.size+1]? = some (.cells #[.string z0,.slice x1 z1.length y1,.int .i64 z2,.slice x3 z3.length y3,.slice x4 z4.length y4,.slice x5 z5.length y5,.int .i64 0] 62)):=zag HIa.out _
 have HR6:Hid (Fx.Rdr (w6.setCell ⟨w.heap.size+1,5,none⟩ (.slice x5 z5.length y5)) rb l6):=zbo hr hn1;have HG6:Hid (w.grownBy (w6.setCell ⟨w.heap.size+1,5,none⟩ (.slice x5 z5.length y5)) (some rb)):=za0 HGa.out (by show w.heap.size<=w.heap.size+1;omega);have K1:=hid (zba K1.out (a:=⟨w.heap.size+1,5,none⟩) (u:=.slice x5 z5.length y5) (by show w.heap.size+1<w.heap.size+2;omega));have K3:=hid (zba K3.out (a:=⟨w.heap.size+1,5,none⟩) (u:=.slice x5 z5.length y5) (by show w.heap.size+1<w.heap.size+2;omega));have K4:=hid (zba K4.out (a:=⟨w.heap.size+1,5,none⟩) (u:=.slice x5 z5.length y5) (by show w.heap.size+1<w.heap.size+2;omega));have K5:=hid (zba K5.out (a:=⟨w.heap.size+1,5,none⟩) (u:=.slice x5 z5.length y5) (by show w.heap.size+1<w.heap.size+2;omega));obtain ⟨i0,i1,i2,i3,i4,i5,i6,iz⟩:=zaj HIa.out
 have ifz:∀ j,w6.frozen? ⟨w.heap.size+1,j,none⟩=false:=fun j=>vep HIa.out j
 clear hg hr hp hv HXa HIa HGa HX5 HI5 HR5 HG5 P5;go_wp2_with fail;clear i0 i1 i2 i3 i4 i5 i6 iz ifz;refine (zs5 rb l6 _ HR6.out (by omega)).mono ?_;rintro e w7 ⟨hg,⟨hp,c,hc,rfl⟩ | ⟨z6,l7,v6,hp,rfl,hv,hr⟩⟩
 . exact ⟨rfl,Fx.zaf HG6.out hg,Or.inl ⟨by rw [P6.out,hp];rfl,c,hc,rfl⟩⟩
 obtain rfl:v6 = .int .i64 z6:=hv;have A6:=hid (zh9 _ _ _ hp)
 have P7:Hid (zpw l0=some (⟨z0,z1,z2,z3,z4,z5,z6⟩,l7)):=by show _=_;rw [P6.out,hp];rfl
 have hln7:l7.length<=1000000:=by have:=A6.out.2;omega
 have HXa:Hid (w7.heap[w.heap.size]? = some zC):=gk hg HX6.out hn0;have HIa:Hid (w7.heap[w.heap.size+1]? = some (.cells #[.string z0,.slice x1 z1.length y1,.int .i64 z2,.slice x3 z3.length y3,.slice x4 z4.length y4,.slice x5 z5.length y5,.int .i64 0] 62)):=gk hg HI6.out hn1;have HGa:=hid (Fx.zaf HG6.out hg);have K1:=hid (zbc K1.out hg (by omega));have K3:=hid (zbc K3.out hg (by omega));have K4:=hid (zbc K4.out hg (by omega));have K5:=hid (zbc K5.out hg (by omega));have HX7:Hid ((w7.setCell ⟨w.heap.size+1,6,none⟩ (.int .i64 z6)).heap[w.heap.size]? = some zC):=(zac (p:=⟨w.heap.size+1,6,none⟩) (by show w.heap.size≠w.heap.size+1;omega) _).trans HXa.out;have HI7:Hid ((w7.setCell ⟨w.heap.size+1,6,none⟩ (.int .i64 z6)).heap[w.heap.size+1]? = some (.cells #[.string z0,.slice x1 z1.length y1,.int .i64 z2,.slice x3 z3.length y3,.slice x4 z4.length y4,.slice x5 z5.length y5,.int .i64 z6] 62)):=zag HIa.out _
 have HR7:Hid (Fx.Rdr (w7.setCell ⟨w.heap.size+1,6,none⟩ (.int .i64 z6)) rb l7):=zbo hr hn1;have HG7:Hid (w.grownBy (w7.setCell ⟨w.heap.size+1,6,none⟩ (.int .i64 z6)) (some rb)):=za0 HGa.out (by show w.heap.size<=w.heap.size+1;omega);have K1:=hid (zba K1.out (a:=⟨w.heap.size+1,6,none⟩) (u:=.int .i64 z6) (by show w.heap.size+1<w.heap.size+2;omega));have K3:=hid (zba K3.out (a:=⟨w.heap.size+1,6,none⟩) (u:=.int .i64 z6) (by show w.heap.size+1<w.heap.size+2;omega));have K4:=hid (zba K4.out (a:=⟨w.heap.size+1,6,none⟩) (u:=.int .i64 z6) (by show w.heap.size+1<w.heap.size+2;omega));have K5:=hid (zba K5.out (a:=⟨w.heap.size+1,6,none⟩) (u:=.int .i64 z6) (by show w.heap.size+1<w.heap.size+2;omega));obtain ⟨i0,i1,i2,i3,i4,i5,i6,iz⟩:=zaj HIa.out
 have ifz:∀ j,w7.frozen? ⟨w.heap.size+1,j,none⟩=false:=fun j=>vep HIa.out j
 obtain ⟨j0,j1,j2,j3,j4,j5,j6,jz⟩:=zaj HXa.out
 have jfz:∀ j,w7.frozen? ⟨w.heap.size,j,none⟩=false:=fun j=>vep HXa.out j
 have hne:¬ (w.heap.size=w.heap.size+1):=by omega
 clear hg hr hp HXa HIa HGa;go_wp2_with fail;refine bodyPost_ret (v:=.agg #[.string z0,.slice x1 z1.length y1,.int .i64 z2,.slice x3 z3.length y3,.slice x4 z4.length y4,.slice x5 z5.length y5,.int .i64 z6]) (by simp [results,Tryz.results96,go_sem,j0,j1,j2,j3,j4,j5,j6,i0,i1,i2,i3,i4,i5,i6,jz,iz]) rfl ⟨?_,Or.inr ⟨_,l7,_,P7.out,rfl,⟨x1,y1,x3,y3,x4,y4,x5,y5,rfl,?_,C1.out⟩,?_⟩⟩
 . exact za0 (za0 (za0 (za0 (za0 (za0 (za0 HG7.out (vaa _)) (vaa _)) (vaa _)) (vaa _)) (vaa _)) (vaa _)) (vaa _)
 . have f1:=z88 K1.out (.string z0) (.slice x1 z1.length y1) (.int .i64 z2) (.slice x3 z3.length y3) (.slice x4 z4.length y4) (.slice x5 z5.length y5) (.int .i64 z6) (b:=w.heap.size) (by omega)
   have f3:=z88 K3.out (.string z0) (.slice x1 z1.length y1) (.int .i64 z2) (.slice x3 z3.length y3) (.slice x4 z4.length y4) (.slice x5 z5.length y5) (.int .i64 z6) (b:=w.heap.size) (by omega);have f4:=z88 K4.out (.string z0) (.slice x1 z1.length y1) (.int .i64 z2) (.slice x3 z3.length y3) (.slice x4 z4.length y4) (.slice x5 z5.length y5) (.int .i64 z6) (b:=w.heap.size) (by omega);have f5:=z88 K5.out (.string z0) (.slice x1 z1.length y1) (.int .i64 z2) (.slice x3 z3.length y3) (.slice x4 z4.length y4) (.slice x5 z5.length y5) (.int .i64 z6) (b:=w.heap.size) (by omega);have b1:=A1.out.2;have b3:=A3.out.2;have b4:=A4.out.2;have b5:=A5.out.2;refine ⟨vai A0.out.1 (by decide),?_,A2.out.1,?_,?_,?_,A6.out.1⟩
   . exact zfn f1 (by omega) (zlv _ (fun s hs=>vai (A1.out.1 s hs) (by decide))) (by simp [zao]) (by rw [show (zao z1).length=z1.length from by simp [zao]];omega)
   . exact zfn f3 (by omega) (zpu _ A3.out.1) (by rw [zhr];omega) (by rw [zhr];show z3.length*3<=_;omega)
   . exact zfn f4 (by omega) (zpv _ A4.out.1) (by rw [zhs];omega) (by rw [zhs];show z4.length*3<=_;omega)
   . exact zfn f5 (by omega) (zlu _ A5.out.1) (by simp [zk8]) (by rw [show (zk8 z5).length=z5.length from by simp [zk8]];omega)
 . exact zbo (zbo (zbo (zbo (zbo (zbo (zbo HR7.out hn0) hn0) hn0) hn0) hn0) hn0) hn0
set_option maxHeartbeats 6400000
def noneO (w:World) (b:Nat):World:=((((((((w.alloc zC).setCell ⟨b,0,none⟩ (.string ⟨#[]⟩)).setCell ⟨b,1,none⟩ (.slice none 0 0)).setCell ⟨b,2,none⟩ (.int .i64 0)).setCell ⟨b,3,none⟩ (.slice none 0 0)).setCell ⟨b,4,none⟩ (.slice none 0 0)).setCell ⟨b,5,none⟩ (.slice none 0 0)).setCell ⟨b,6,none⟩ (.int .i64 0)).setCell ⟨b+1,0,none⟩ (.bool false)
def zvn (w:World) (b:Nat) (x0 x1 x2 x3 x4 x5 x6:Value):World:=(((((((w.setCell ⟨b,0,none⟩ (x0)).setCell ⟨b,1,none⟩ (x1)).setCell ⟨b,2,none⟩ (x2)).setCell ⟨b,3,none⟩ (x3)).setCell ⟨b,4,none⟩ (x4)).setCell ⟨b,5,none⟩ (x5)).setCell ⟨b,6,none⟩ (x6))
theorem zxa {w:World} {b:Nat} {y0 y1 y2 y3 y4 y5 y6:Value} {t:TypeId} {f:Nat × Nat} (h:w.heap[b]? = some (.cells #[y0,y1,y2,y3,y4,y5,y6] t f)) (x0 x1 x2 x3 x4 x5 x6:Value):(zvn w b x0 x1 x2 x3 x4 x5 x6).heap[b]? = some (.cells #[x0,x1,x2,x3,x4,x5,x6] t f):=by
 have h0:(w.setCell ⟨b,0,none⟩ x0).heap[b]? = some (.cells #[x0,y1,y2,y3,y4,y5,y6] t f):=zag h x0;have h1:((w.setCell ⟨b,0,none⟩ x0).setCell ⟨b,1,none⟩ x1).heap[b]? = some (.cells #[x0,x1,y2,y3,y4,y5,y6] t f):=zag h0 x1;have h2:(((w.setCell ⟨b,0,none⟩ x0).setCell ⟨b,1,none⟩ x1).setCell ⟨b,2,none⟩ x2).heap[b]? = some (.cells #[x0,x1,x2,y3,y4,y5,y6] t f):=zag h1 x2;have h3:((((w.setCell ⟨b,0,none⟩ x0).setCell ⟨b,1,none⟩ x1).setCell ⟨b,2,none⟩ x2).setCell ⟨b,3,none⟩ x3).heap[b]? = some (.cells #[x0,x1,x2,x3,y4,y5,y6] t f):=zag h2 x3;have h4:(((((w.setCell ⟨b,0,none⟩ x0).setCell ⟨b,1,none⟩ x1).setCell ⟨b,2,none⟩ x2).setCell ⟨b,3,none⟩ x3).setCell ⟨b,4,none⟩ x4).heap[b]? = some (.cells #[x0,x1,x2,x3,x4,y5,y6] t f):=zag h3 x4;have h5:((((((w.setCell ⟨b,0,none⟩ x0).setCell ⟨b,1,none⟩ x1).setCell ⟨b,2,none⟩ x2).setCell ⟨b,3,none⟩ x3).setCell ⟨b,4,none⟩ x4).setCell ⟨b,5,none⟩ x5).heap[b]? = some (.cells #[x0,x1,x2,x3,x4,x5,y6] t f):=zag h4 x5
 have h6:(((((((w.setCell ⟨b,0,none⟩ x0).setCell ⟨b,1,none⟩ x1).setCell ⟨b,2,none⟩ x2).setCell ⟨b,3,none⟩ x3).setCell ⟨b,4,none⟩ x4).setCell ⟨b,5,none⟩ x5).setCell ⟨b,6,none⟩ x6).heap[b]? = some (.cells #[x0,x1,x2,x3,x4,x5,x6] t f):=zag h5 x6;exact h6
theorem zfo {w:World} {b k:Nat} (hn:k≠b) (x0 x1 x2 x3 x4 x5 x6:Value):(zvn w b x0 x1 x2 x3 x4 x5 x6).heap[k]? = w.heap[k]?:=
 (zac hn _).trans ((zac hn _).trans ((zac hn _).trans ((zac hn _).trans ((zac hn _).trans ((zac hn _).trans (zac hn _))))))
theorem zco {B:Nat} {w w':World} {b:Nat} (h:Below B w w') (hb:B<=b) (x0 x1 x2 x3 x4 x5 x6:Value):Below B w (zvn w' b x0 x1 x2 x3 x4 x5 x6):=
 (((((((h.setCell (p:=⟨b,0,none⟩) hb _).setCell (p:=⟨b,1,none⟩) hb _).setCell (p:=⟨b,2,none⟩) hb _).setCell (p:=⟨b,3,none⟩) hb _).setCell (p:=⟨b,4,none⟩) hb _).setCell (p:=⟨b,5,none⟩) hb _).setCell (p:=⟨b,6,none⟩) hb _)
theorem zpx (b:Nat) (x0 x1 x2 x3 x4 x5 x6:Value) (y:Bool) (u:TypeId) (pv:Value) (w:World) (hX:w.heap[b]? = some (.cells #[x0,x1,x2,x3,x4,x5,x6] 62 (0,0))) (hK:w.heap[b+1]? = some (.cells #[.bool y] 4 (0,0))) :
 CallsD Tryz.prog 136 #[.pointer (some ⟨b,0,none⟩),.pointer (some ⟨b+1,0,none⟩)] (.panicking [{ v:=.iface u pv,recovered:=false }]) w fun e u' w'=>
  e = .returned (.tuple #[])/\u' = .panicking [{ v:=.iface u pv,recovered:=true }]/\w'=noneO w b:=by
 have hX1:=zae (o:=.cells #[.string ⟨#[]⟩,.slice none 0 0,.int .i64 0,.slice none 0 0,.slice none 0 0,.slice none 0 0,.int .i64 0] 62) hX;have hK1:=zae (o:=.cells #[.string ⟨#[]⟩,.slice none 0 0,.int .i64 0,.slice none 0 0,.slice none 0 0,.slice none 0 0,.int .i64 0] 62) hK;obtain ⟨a0,a1,a2,a3,a4,a5,a6,az⟩:=zaj hX1
 have afz:∀ j,(w.alloc zC).frozen? ⟨b,j,none⟩=false:=fun j=>vep hX1 j
 have k0:(w.alloc zC).cell? ⟨b+1,0,none⟩=some (.bool y):=by rw [veq hK1];rfl
 have kf:(w.alloc zC).frozen? ⟨b+1,0,none⟩=false:=vep hK1 0;obtain ⟨n0,n1,n2,n3,n4,n5,n6,nz⟩:=zaj (heap_newP w zC);have hE:noneO w b=((((((((w.alloc zC).setCell ⟨b,0,none⟩ (.string ⟨#[]⟩)).setCell ⟨b,1,none⟩ (.slice none 0 0)).setCell ⟨b,2,none⟩ (.int .i64 0)).setCell ⟨b,3,none⟩ (.slice none 0 0)).setCell ⟨b,4,none⟩ (.slice none 0 0)).setCell ⟨b,5,none⟩ (.slice none 0 0)).setCell ⟨b,6,none⟩ (.int .i64 0)).setCell ⟨b+1,0,none⟩ (.bool false):=rfl;rw [hE];clear hX hK hX1 hK1 hE
 refine callsD_of_wpS Tryz.func136 rfl fun c₀ cs hu=>?_
 apply wpS_seq
 apply wpS_region
 simp [wpOpsS,go_sem,recoverD,hu,Tryz.ntmps136,Exit.thenS];refine wpS_cond (t:=true) (by simp [Act.eval,Array.replicate]) ?_;simp only [if_true]
 apply wpS_seq
 apply wpS_region
 simp [wpOpsS,go_sem,Exit.thenS]
 apply wpS_region
 simp [wpOpsS,go_sem,n0,n1,n2,n3,n4,n5,n6,a0,a1,a2,a3,a4,a5,a6,afz,k0,kf,bodyPostS,results,Tryz.results136]
theorem ztn (p q:Addr) (w:World) :
 CallsD Tryz.prog 136 #[.pointer (some p),.pointer (some q)] .returning w fun e u' w'=>e = .returned (.tuple #[])/\u' = .returning/\w'=w:=by
 refine callsD_of_wpS Tryz.func136 rfl fun c₀ cs hu=>?_
 apply wpS_seq
 apply wpS_region
 simp [wpOpsS,go_sem,recoverD,hu,Tryz.ntmps136,Exit.thenS];refine wpS_cond (t:=false) (by simp [Act.eval,Array.replicate]) ?_;simp only [vcs,if_false];refine wpS_of_wp (wp_skip ?_)
 cases c₀
 simp_all [bodyPostS,results,Tryz.results136]
def wOk (l:L8):Option Ob:=match zpw l with
 | some (o,[])=>some o
 | _=>none
theorem caught (u:TypeId) (pv:Value) (w W:World) (x0 x1 x2 x3 x4 x5 x6:Value) (y:Bool) (hX:W.heap[w.heap.size]? = some (.cells #[x0,x1,x2,x3,x4,x5,x6] 62 (0,0))) (hK:W.heap[w.heap.size+1]? = some (.cells #[.bool y] 4 (0,0))) (hB:Below w.heap.size w W) {R:Ending->World->Prop} (t:Array Value)
 (h4:t.getD 4 undef = .pointer (some ⟨w.heap.size,0,none⟩)) (h5:t.getD 5 undef = .pointer (some ⟨w.heap.size+1,0,none⟩))
 (hR:∀ W',Below w.heap.size w W'->R (.returned (.tuple #[zV,.bool false])) W') :
 Leaves Tryz.prog Tryz.f95 t R [{ target:=Target.fn (Fn.func 136) #[Value.pointer (some ⟨w.heap.size,0,none⟩),Value.pointer (some ⟨w.heap.size+1,0,none⟩)],args:=#[] }] (.panicking [{ v:=.iface u pv,recovered:=false }]) W:=by
 refine leaves_cons (f:=136) (args:=#[.pointer (some ⟨w.heap.size,0,none⟩),.pointer (some ⟨w.heap.size+1,0,none⟩)]) (by simp) (by simp [go_sem]) ?_;refine (zpx w.heap.size x0 x1 x2 x3 x4 x5 x6 y u pv W hX hK).mono ?_;rintro e u' w'' ⟨rfl,rfl,rfl⟩;have hX1:=zxa (zae (o:=.cells #[.string ⟨#[]⟩,.slice none 0 0,.int .i64 0,.slice none 0 0,.slice none 0 0,.slice none 0 0,.int .i64 0] 62) hX) (.string ⟨#[]⟩) (.slice none 0 0) (.int .i64 0) (.slice none 0 0) (.slice none 0 0) (.slice none 0 0) (.int .i64 0);have hX2:(noneO W w.heap.size).heap[w.heap.size]? = some (zC):=(zac (p:=⟨w.heap.size+1,0,none⟩) (by show w.heap.size≠w.heap.size+1;omega) _).trans hX1;have hK2:(noneO W w.heap.size).heap[w.heap.size+1]? = some (.cells #[.bool false] 4 (0,0)):=zag ((zfo (by omega) _ _ _ _ _ _ _).trans (zae (o:=.cells #[.string ⟨#[]⟩,.slice none 0 0,.int .i64 0,.slice none 0 0,.slice none 0 0,.slice none 0 0,.int .i64 0] 62) hK)) _
 have hb:Below w.heap.size w (noneO W w.heap.size):=(zco (hB.alloc hB.size _) (vaa _) _ _ _ _ _ _ _).setCell (p:=⟨w.heap.size+1,0,none⟩) (vdv _) _;obtain ⟨c0,c1,c2,c3,c4,c5,c6,_⟩:=zaj hX2
 have k0:(noneO W w.heap.size).cell? ⟨w.heap.size+1,0,none⟩=some (.bool false):=by rw [veq hK2];rfl
 generalize noneO W w.heap.size=X at *
 have h4':t[4]?.getD undef = .pointer (some ⟨w.heap.size,0,none⟩):=by simpa using h4
 have h5':t[5]?.getD undef = .pointer (some ⟨w.heap.size+1,0,none⟩):=by simpa using h5
 refine ⟨.tuple #[zV,.bool false],?_,hR X hb⟩;simp [results,Tryz.results95,go_sem,h4',h5',c0,c1,c2,c3,c4,c5,c6,k0]
def yaz (w:World) (r:Option Ob) (e:Ending) (w':World):Prop:=
 Below w.heap.size w w'/\((r=none/\e = .returned (.tuple #[zV,.bool false]))\/∃ o v,r=some o/\e = .returned (.tuple #[v,.bool true])/\z7s w.heap.size w' o v)
theorem zvo {w X w':World} {rb:Nat} (h:Below w.heap.size w X) (hg:X.grownBy w' (some rb)) (hr:w.heap.size<=rb):Below w.heap.size w w':=h.grown hg h.size (fun k e=>by cases e;exact hr)
theorem zy1 (l:L8) (w:World) (hl:l.length<=1000000) :
 Calls Tryz.prog 95 #[.string (Fx.strOf l),.func (.func 96) #[] #[]] w fun e w'=>yaz w (wOk l) e w':=by
 have hmf:∀ (fn:Fn) (first cap:Array Value) (w:World),(Instr.makeFunc fn first cap).run Tryz.prog w = .ok (.func fn first cap) w:=fun _ _ _ _=>rfl
 obtain ⟨W2,hW2⟩:∃ W2,W2=((w.alloc zC).alloc (.cells #[.bool false] 4)).alloc (.cells #[.string (Fx.strOf l)] 216):=⟨_,rfl⟩
 have hX:W2.heap[w.heap.size]? = some (zC):=by rw [hW2];exact zae (zae (heap_newP w _))
 have hK:W2.heap[w.heap.size+1]? = some (.cells #[.bool false] 4 (0,0)):=by rw [hW2];exact zae (z1o w _ _)
 have hR2:W2.heap[w.heap.size+2]? = some (.cells #[.string (Fx.strOf l)] 216 (0,0)):=by
  rw [hW2];have:=heap_newP ((w.alloc zC).alloc (.cells #[.bool false] 4)) (.cells #[.string (Fx.strOf l)] 216);simpa using this
 have hRd:Fx.Rdr W2 (w.heap.size+2) l:=⟨zab hR2,by rw [veq hR2];rfl,vep hR2 0⟩
 have hBl:Below w.heap.size w W2:=by
  rw [hW2];exact (((Below.refl _ _).alloc (vaa _) _).alloc (by simp) _).alloc (by simp;omega) _
 have HC:=hid (z9i (w.heap.size+2) l W2 hRd hl);have HP:Hid (wOk l=match zpw l with | some (o,[])=>some o | _=>none):=rfl;have hz:=zab hR2;have HX:=hid hX;have HK:=hid hK;have HBl:=hid hBl;have HW:=hid hW2;clear hX hK hRd hBl hW2 hR2;go_enter_defers Tryz.func95,Tryz.ntmps95
 go_wp2_with (fail)
 rw [← HW.out];refine HC.out.mono ?_;rintro e w1 ⟨hg,⟨hp,c,hc,rfl⟩ | ⟨o,r,v,hp,rfl,hv,hr⟩⟩
 . have HN:Hid (wOk l=none):=by show _=_;rw [HP.out,hp]
   have h1:=gk hg HX.out (by omega);have h2:=gk hg HK.out (by omega);have h3:=zvo HBl.out hg (by omega)
   rcases hc with rfl | rfl
   . exact caught 9 _ w w1 _ _ _ _ _ _ _ _ h1 h2 h3 _ rfl rfl (fun W' h=>⟨h,Or.inl ⟨HN.out,rfl⟩⟩)
   . exact caught 9 _ w w1 _ _ _ _ _ _ _ _ h1 h2 h3 _ rfl rfl (fun W' h=>⟨h,Or.inl ⟨HN.out,rfl⟩⟩)
 obtain ⟨x1,y1,x3,y3,x4,y4,x5,y5,rfl,hO,hcp⟩:=hv;have HX1:=hid (gk hg HX.out (by omega));have HK1:=hid (gk hg HK.out (by omega));have HB1:=hid (zvo HBl.out hg (by omega));have HO:=hid hO;have HCp:=hid hcp;have hr0:=hr.c0;obtain ⟨j0,j1,j2,j3,j4,j5,j6,jz⟩:=zaj HX1.out
 have jfz:∀ j,w1.frozen? ⟨w.heap.size,j,none⟩=false:=fun j=>vep HX1.out j
 have k0:w1.cell? ⟨w.heap.size+1,0,none⟩=some (.bool false):=by rw [veq HK1.out];rfl
 have kf:w1.frozen? ⟨w.heap.size+1,0,none⟩=false:=vep HK1.out 0;have kz:=zab HK1.out;have rz:=hr.lt
 cases r with
 | cons c r=>
   have HN:Hid (wOk l=none):=by show _=_;rw [HP.out,hp]
   have hE:=Lx.zqp (Fx.strOf (c :: r)) (by rw [Fx.strOf_size];exact Nat.succ_pos _);clear hg hr hp hO hcp;go_wp2_with fail;exact caught 9 _ w _ _ _ _ _ _ _ _ _ (zxa HX1.out _ _ _ _ _ _ _) ((zfo (by omega) _ _ _ _ _ _ _).trans HK1.out) (zco HB1.out (vaa _) _ _ _ _ _ _ _) _ rfl rfl (fun W' h=>⟨h,Or.inl ⟨HN.out,rfl⟩⟩)
 | nil=>
   have HN:Hid (wOk l=some o):=by show _=_;rw [HP.out,hp]
   have e0:Fx.strOf ([]:L8)=⟨#[]⟩:=rfl;rw [e0] at hr0;clear hg hr hp hO hcp;go_wp2_with fail;refine leaves_cons (f:=136) (args:=#[.pointer (some ⟨w.heap.size,0,none⟩),.pointer (some ⟨w.heap.size+1,0,none⟩)]) (by simp) (by simp [go_sem]) ?_;refine (ztn ⟨w.heap.size,0,none⟩ ⟨w.heap.size+1,0,none⟩ _).mono ?_;rintro e u' w'' ⟨rfl,rfl,rfl⟩
   obtain ⟨F,hF⟩:∃ F,F=(zvn (zvn w1 w.heap.size (.string o.name) (.slice x1 o.uses.length y1) (.int .i64 o.data) (.slice x3 o.code.length y3) (.slice x4 o.fixes.length y4) (.slice x5 o.entries.length y5) (.int .i64 o.main)) w.heap.size (.string o.name) (.slice x1 o.uses.length y1) (.int .i64 o.data) (.slice x3 o.code.length y3) (.slice x4 o.fixes.length y4) (.slice x5 o.entries.length y5) (.int .i64 o.main)).setCell ⟨w.heap.size+1,0,none⟩ (.bool true):=⟨_,rfl⟩
   have hXF:F.heap[w.heap.size]? = some (.cells #[.string o.name,.slice x1 o.uses.length y1,.int .i64 o.data,.slice x3 o.code.length y3,.slice x4 o.fixes.length y4,.slice x5 o.entries.length y5,.int .i64 o.main] 62 (0,0)):=by rw [hF];exact (zac (p:=⟨w.heap.size+1,0,none⟩) (by show w.heap.size≠w.heap.size+1;omega) _).trans (zxa (zxa HX1.out _ _ _ _ _ _ _) _ _ _ _ _ _ _)
   have hKF:F.heap[w.heap.size+1]? = some (.cells #[.bool true] 4 (0,0)):=by rw [hF];exact zag ((zfo (by omega) _ _ _ _ _ _ _).trans ((zfo (by omega) _ _ _ _ _ _ _).trans HK1.out)) _
   have hBF:Below w.heap.size w F:=by rw [hF];exact (zco (zco HB1.out (vaa _) _ _ _ _ _ _ _) (vaa _) _ _ _ _ _ _ _).setCell (p:=⟨w.heap.size+1,0,none⟩) (vdv _) _
   have hOF:OvLo F w.heap.size o x1 x3 x4 x5:=HO.out.moves ⟨by rw [hF];simp [zvn],fun b hb hlo=>⟨vai (by omega) hlo,by
    rw [hF]
    exact (zac (p:=⟨w.heap.size+1,0,none⟩) (by show b≠w.heap.size+1;omega) _).trans ((zfo (by omega) _ _ _ _ _ _ _).trans (zfo (by omega) _ _ _ _ _ _ _))⟩⟩
   obtain ⟨c0,c1,c2,c3,c4,c5,c6,_⟩:=zaj hXF
   have kF:F.cell? ⟨w.heap.size+1,0,none⟩=some (.bool true):=by rw [veq hKF];rfl
   unfold zvn at hF;refine ⟨.tuple #[.agg #[.string o.name,.slice x1 o.uses.length y1,.int .i64 o.data,.slice x3 o.code.length y3,.slice x4 o.fixes.length y4,.slice x5 o.entries.length y5,.int .i64 o.main],.bool true],?_,?_⟩
   . rw [← hF]
     simp [results,Tryz.results95,go_sem,c0,c1,c2,c3,c4,c5,c6,kF]
   . rw [← hF]
     exact ⟨hBF,Or.inr ⟨o,_,HN.out,rfl,x1,y1,x3,y3,x4,y4,x5,y5,rfl,hOF,HCp.out⟩⟩
def rdO (l:L8):Option Ob:=match wOk l with
 | some o=>if oChk o=0 then some o else none
 | none=>none
def z72 (w:World) (l:L8) (e:Ending) (w':World):Prop:=
 Below w.heap.size w w'/\((32768<l.length/\e = .returned (.tuple #[zV,.int .i64 2]))\/(l.length<=32768/\rdO l=none/\e = .returned (.tuple #[zV,.int .i64 1]))\/(l.length<=32768/\∃ o v,rdO l=some o/\e = .returned (.tuple #[v,.int .i64 0])/\z7s w.heap.size w' o v))
theorem z2q (w:World):OvAt w ⟨⟨#[]⟩,[],0,[],[],[],0⟩ none none none none:=⟨by decide,⟨by decide,by decide,Or.inl rfl⟩,by decide,⟨by decide,by decide,Or.inl rfl⟩,⟨by decide,by decide,Or.inl rfl⟩,⟨by decide,by decide,Or.inl rfl⟩,by decide⟩
theorem zia (l:L8) (w:World) (hl:l.length<=9223372036854775807) :
 Calls Tryz.prog 37 #[.string (Fx.strOf l)] w fun e w'=>z72 w l e w':=by
 have hz:(Fx.strOf l).size=l.length:=Fx.strOf_size l
 obtain ⟨s,hs⟩:∃ s,s=Fx.strOf l:=⟨_,rfl⟩
 rw [← hs] at hz ⊢
 by_cases hc:32768<l.length
 . have HC:=hid hc
   clear hs;go_enter Tryz.func37,Tryz.ntmps37;go_wp2_with fail;refine bodyPost_ret (v:=.tuple #[zV,.int .i64 2]) (by simp [results,Tryz.results37,go_sem]) rfl ⟨?_,Or.inl ⟨HC.out,rfl⟩⟩;exact al1 _ _
 . have HC:Hid (l.length<=32768):=by show _<=_;omega
   have HW:=hid (zy1 l (w.alloc zC) (by omega));rw [← hs] at HW;have HP:Hid (rdO l=match wOk l with | some o=>if oChk o=0 then some o else none | none=>none):=rfl;clear hs;go_enter Tryz.func37,Tryz.ntmps37;go_wp2_with fail;refine HW.out.mono ?_;rintro e w1 ⟨hb1,⟨hn,rfl⟩ | ⟨o,v,hn,rfl,hv⟩⟩
   . have HN:Hid (rdO l=none):=by show _=_;rw [HP.out,hn]
     have HB1:=hid (thenB (al1 w _) hb1);have HX1:=hid (zak (heap_newP w zC) hb1);obtain ⟨q0,q1,q2,q3,q4,q5,q6,qz⟩:=zaj HX1.out
     have qf:∀ j,w1.frozen? ⟨w.heap.size,j,none⟩=false:=fun j=>vep HX1.out j
     clear hb1 hn q0 q1 q2 q3 q4 q5 q6 qz qf;go_upto_region 4 with fail
     obtain ⟨W1,hW1⟩:∃ W1,W1=w1.alloc zC:=⟨_,rfl⟩
     have hBW:Below w1.heap.size w1 W1:=by rw [hW1];exact al1 _ _
     have HBW:=hid (thenB HB1.out hBW);have HXW:=hid (zak HX1.out hBW)
     try rw [← hW1]
     clear hW1 hBW HX1 HB1;obtain ⟨q0,q1,q2,q3,q4,q5,q6,qz⟩:=zaj HXW.out
     have qf:∀ j,W1.frozen? ⟨w.heap.size,j,none⟩=false:=fun j=>vep HXW.out j
     go_wp2_with fail;refine bodyPost_ret (v:=.tuple #[zV,.int .i64 1]) (by simp [results,Tryz.results37,go_sem,q0,q1,q2,q3,q4,q5,q6,qz]) rfl ⟨?_,Or.inr (Or.inl ⟨HC.out,HN.out,rfl⟩)⟩;exact zco HBW.out (vaa _) _ _ _ _ _ _ _
   . obtain ⟨x1,y1,x3,y3,x4,y4,x5,y5,rfl,hO,hcp⟩:=hv
     have HB1:=hid (thenB (al1 w _) hb1);have HX1:=hid (zak (heap_newP w zC) hb1);have HO1:=hid hO;have HCp:=hid hcp
     have HPn:Hid (rdO l=if oChk o=0 then some o else none):=by show _=_;rw [HP.out,hn]
     clear hb1 hn hO hcp;go_upto_region 4 with fail
     obtain ⟨W1,hW1⟩:∃ W1,W1=w1.alloc (oC o x1 y1 x3 y3 x4 y4 x5 y5):=⟨_,rfl⟩
     have hBW:Below w1.heap.size w1 W1:=by rw [hW1];exact al1 _ _
     have HYW:Hid (W1.heap[w1.heap.size]? = some (.cells #[.string o.name,.slice x1 o.uses.length y1,.int .i64 o.data,.slice x3 o.code.length y3,.slice x4 o.fixes.length y4,.slice x5 o.entries.length y5,.int .i64 o.main] 62 (0,0))):=by rw [hW1];exact heap_newP _ _
     have HBW:=hid (thenB HB1.out hBW);have HXW:=hid (zak HX1.out hBW);have HOW:=hid (HO1.out.moves (w':=W1) (lo':=w.heap.size+1) ⟨hBW.size,fun b hb hlo=>⟨by simpa using hlo,hBW.block b hb⟩⟩)
     have hne:w.heap.size≠w1.heap.size:=by have:=zab HX1.out;omega
     try rw [← hW1]
     clear hW1 hBW HX1 HB1 HO1;have HCk:=hid (zg2 o x1 y1 x3 y3 x4 y4 x5 y5 W1 HOW.out.ov HCp.out);obtain ⟨u0,u1,u2,u3,u4,u5,u6,uz⟩:=zaj HYW.out;go_wp2_with fail;refine HCk.out.mono ?_;rintro e w2 ⟨rfl,hb2⟩;have HB2:=hid (thenB HBW.out hb2);have HX2:=hid (zak HXW.out hb2);have HY2:=hid (zak HYW.out hb2);have HO2:=hid (HOW.out.moves (w':=w2) (lo':=w.heap.size+1) ⟨hb2.size,fun b hb hlo=>⟨hlo,hb2.block b hb⟩⟩);clear hb2 u0 u1 u2 u3 u4 u5 u6 uz HBW HXW HYW HOW HCk;obtain ⟨u0,u1,u2,u3,u4,u5,u6,uz⟩:=zaj HY2.out;obtain ⟨q0,q1,q2,q3,q4,q5,q6,qz⟩:=zaj HX2.out
     have qf:∀ j,w2.frozen? ⟨w.heap.size,j,none⟩=false:=fun j=>vep HX2.out j
     by_cases h0:oChk o=0
     . have HN:Hid (rdO l=some o):=by show _=_;rw [HPn.out,if_pos h0]
       rw [h0];clear h0;go_wp2_with fail;refine bodyPost_ret (v:=.tuple #[.agg #[.string o.name,.slice x1 o.uses.length y1,.int .i64 o.data,.slice x3 o.code.length y3,.slice x4 o.fixes.length y4,.slice x5 o.entries.length y5,.int .i64 o.main],.int .i64 0]) (by simp [results,Tryz.results37,go_sem,q0,q1,q2,q3,q4,q5,q6,qz,hne,hne.symm]) rfl ⟨zco HB2.out (vaa _) _ _ _ _ _ _ _,Or.inr (Or.inr ⟨HC.out,o,_,HN.out,rfl,x1,y1,x3,y3,x4,y4,x5,y5,rfl,?_,HCp.out⟩)⟩;exact HO2.out.moves ⟨by simp,fun b hb hlo=>⟨by omega,zfo (by omega) (.string o.name) (.slice x1 o.uses.length y1) (.int .i64 o.data) (.slice x3 o.code.length y3) (.slice x4 o.fixes.length y4) (.slice x5 o.entries.length y5) (.int .i64 o.main)⟩⟩
     . have HN:Hid (rdO l=none):=by show _=_;rw [HPn.out,if_neg h0]
       have hb0:(oChk o != 0)=true:=by rw [bne_iff_ne];exact h0
       generalize oChk o=E at *;clear h0;go_wp2_with fail;refine bodyPost_ret (v:=.tuple #[zV,.int .i64 1]) (by simp [results,Tryz.results37,go_sem,q0,q1,q2,q3,q4,q5,q6,qz]) rfl ⟨zco HB2.out (vaa _) _ _ _ _ _ _ _,Or.inr (Or.inl ⟨HC.out,HN.out,rfl⟩)⟩
end Go.Proofs.YtndkhgakfodldaaGreatDoor

namespace Go.Proofs.YtndkhgakfodldaaGreatDoor
set_option linter.unusedSimpArgs false
set_option linter.unusedVariables false
theorem zvp (s:ByteArray) (r:L8) (h:s.size<=255):pTx (Fx.textB s++r)=some (s,r):=by
 unfold pTx;rw [Fx.ztg s r h];simp [Fx.strOf_back]
theorem zy2 {l r:L8} {s:ByteArray} (h:pTx l=some (s,r)):l=Fx.textB s++r:=by
 unfold pTx at h
 cases hq:Fx.zf2 l with
 | none=>rw [hq] at h;cases h
 | some q=>
   rw [hq] at h;cases h;exact Fx.zn9 (x:=q.1) (r:=q.2) hq
theorem zen {n:Int} (h:W64 n) (r:L8):Fx.pNum (Fx.numB n++r)=some (n,r):=by
 have:=z32 h;exact Fx.zw6 n r this.1 this.2
theorem zof {n:Int} (h0:0<=n) (h1:n<=255) (r:L8):Fx.zdm (Fx.zal n :: r)=some (n,r):=by
 rw [Fx.zj1,Fx.zgd,Int.emod_eq_of_lt h0 (by omega)]
theorem zy3 {n:Nat} (h:n<=1000000) (r:L8):zpd (Fx.numB n++r)=some (n,r):=by
 unfold zpd;rw [zen (zlt (by omega)) r];simp
theorem zog {α:Type} {p:L8->Option (α × L8)} {g:α->L8}:∀ (xs:List α),(∀ x ∈ xs,∀ r,p (g x++r)=some (x,r))->∀ r,zcc p xs.length (xs.flatMap g++r)=some (xs,r)
 | [],_,r=>rfl
 | x :: t,h,r=>by
   rw [vbg,vaq,vas];unfold zcc;rw [h x (vam ..)];simp only [vaw];rw [zog t (fun y hy=>h y (vaf _ hy)) r]
   rfl
theorem zit {α:Type} {p:L8->Option (α × L8)} {g:α->L8} (xs:List α) (h:∀ x ∈ xs,∀ r,p (g x++r)=some (x,r)) (hl:xs.length<=1000000) (r:L8):zd6 p (listB g xs++r)=some (xs,r):=by
 unfold zd6 listB;rw [vaq,zy3 hl];exact zog xs h r
theorem zrt {α:Type} {p:L8->Option (α × L8)} {g:α->L8} (h:∀ l x r,p l=some (x,r)->l=g x++r):∀ (n:Nat) (l:L8) (xs:List α) (r:L8),zcc p n l=some (xs,r)->xs.length=n/\l=xs.flatMap g++r
 | 0,l,xs,r,e=>by cases e;exact ⟨rfl,rfl⟩
 | n + 1,l,xs,r,e=>by
   unfold zcc at e
   cases h1:p l with
   | none=>rw [h1] at e;cases e
   | some a=>
     rw [h1] at e
     cases h2:zcc p n a.2 with
     | none=>simp [h2] at e
     | some b=>
       simp [h2] at e;obtain ⟨q1,q2⟩:=zrt h n a.2 b.1 b.2 h2;rw [← e.1,← e.2,h l a.1 a.2 h1,q2];exact ⟨by rw [vas,q1],by rw [vbg,vaq]⟩
theorem z2r {l r:L8} {n:Nat} (h:zpd l=some (n,r)):l=Fx.numB n++r:=by
 unfold zpd at h
 cases hq:Fx.pNum l with
 | none=>rw [hq] at h;cases h
 | some q=>
   rw [hq] at h;simp only [vaw] at h
   split at h
   . cases h
   . rename_i h0
     cases h;have:=Fx.zdp (n:=q.1) (r:=q.2) hq;rw [vdk (by omega)];exact this
theorem zk6 {α:Type} {p:L8->Option (α × L8)} {g:α->L8} (h:∀ l x r,p l=some (x,r)->l=g x++r) {l r:L8} {xs:List α} (e:zd6 p l=some (xs,r)):l=listB g xs++r:=by
 unfold zd6 at e
 cases h1:zpd l with
 | none=>rw [h1] at e;cases e
 | some q=>
   rw [h1] at e;obtain ⟨q1,q2⟩:=zrt h q.1 q.2 xs r e;rw [z2r (n:=q.1) (r:=q.2) h1,q2];unfold listB;rw [q1,vaq]
theorem zto {i:Gi} (h0:0<=i.op/\i.op<=255) (h1:W64 i.a) (h2:W64 i.b) (r:L8):zbn (instrB i++r)=some (i,r):=by
 unfold zbn instrB;rw [vcn,zof h0.1 h0.2,vaq];simp only [vaw];rw [zen h1];simp only [vaw];rw [zen h2]
 rfl
theorem zy4 {i:Gf} (h0:0<=i.kind/\i.kind<=255) (h1:W64 i.at_) (h2:W64 i.m) (r:L8):zcl (fixBy i++r)=some (i,r):=by
 unfold zcl fixBy;rw [vaq,zen h1];simp only [vaw];rw [vcn,zof h0.1 h0.2];simp only [vaw];rw [zen h2]
 rfl
theorem zxb (l:L8) (x:Gi) (r:L8) (h:zbn l=some (x,r)):l=instrB x++r:=by
 unfold zbn at h
 cases h1:Fx.zdm l with
 | none=>rw [h1] at h;cases h
 | some a=>
   rw [h1] at h
   cases h2:Fx.pNum a.2 with
   | none=>simp [h2] at h
   | some b=>
     cases h3:Fx.pNum b.2 with
     | none=>simp [h2,h3] at h
     | some c=>
       simp [h2,h3] at h;rw [← h.1,← h.2,Fx.zhh (n:=a.1) (r:=a.2) h1,Fx.zdp (n:=b.1) (r:=b.2) h2,Fx.zdp (n:=c.1) (r:=c.2) h3];unfold instrB;rw [vcn,vaq]
theorem z2s (l:L8) (x:Gf) (r:L8) (h:zcl l=some (x,r)):l=fixBy x++r:=by
 unfold zcl at h
 cases h1:Fx.pNum l with
 | none=>rw [h1] at h;cases h
 | some a=>
   rw [h1] at h
   cases h2:Fx.zdm a.2 with
   | none=>simp [h2] at h
   | some b=>
     cases h3:Fx.pNum b.2 with
     | none=>simp [h2,h3] at h
     | some c=>
       simp [h2,h3] at h;rw [← h.1,← h.2,Fx.zdp (n:=a.1) (r:=a.2) h1,Fx.zhh (n:=b.1) (r:=b.2) h2,Fx.zdp (n:=c.1) (r:=c.2) h3];unfold fixBy;rw [vaq,vcn]
structure Fits (o:Ob):Prop where
 data:W64 o.data
 code:∀ i ∈ o.code,W64 i.op/\W64 i.a/\W64 i.b
 fixes:∀ f ∈ o.fixes,W64 f.at_/\W64 f.kind/\W64 f.m
 entries:∀ x ∈ o.entries,W64 x
 main:W64 o.main
theorem OvAt.fits {w:World} {o:Ob} {x1 x3 x4 x5:OA} (h:OvAt w o x1 x3 x4 x5):Fits o:=by
 refine ⟨h.wd,fun i hi=>?_,fun f hf=>?_,fun x hx=>?_,h.wm⟩
 . obtain ⟨k,hk,rfl⟩:=vbd hi
   obtain ⟨_,_,_,hx⟩:=h.code.gi k hk;exact ⟨hx.w0,hx.w1,hx.w2⟩
 . obtain ⟨k,hk,rfl⟩:=vbd hf
   obtain ⟨_,_,_,hx⟩:=h.fixes.gf k hk;exact ⟨hx.w0,hx.w1,hx.w2⟩
 . obtain ⟨k,hk,rfl⟩:=vbd hx
   obtain ⟨_,_,_,_,_,hx⟩:=h.entries.num k hk;exact hx
theorem zvq (o:Ob) (r:L8):objB o++r=Fx.textB o.name++(listB Fx.textB o.uses++(Fx.numB o.data++(listB instrB o.code++(listB fixBy o.fixes++(listB Fx.numB o.entries++(Fx.numB o.main++r)))))):=by
 unfold objB;generalize Fx.textB o.name=a1;generalize listB Fx.textB o.uses=a2;generalize Fx.numB o.data=a3;generalize listB instrB o.code=a4;generalize listB fixBy o.fixes=a5;generalize listB Fx.numB o.entries=a6;generalize Fx.numB o.main=a7;simp only [vaq]
theorem zy5 {l0 l1 l2 l3 l4 l5 l6 l7:L8} {a:ByteArray} {b:List ByteArray} {c:Int} {d:List Gi} {e:List Gf} {f:List Int} {g:Int} (h1:pTx l0=some (a,l1)) (h2:zd6 pTx l1=some (b,l2)) (h3:Fx.pNum l2=some (c,l3)) (h4:zd6 zbn l3=some (d,l4)) (h5:zd6 zcl l4=some (e,l5)) (h6:zd6 Fx.pNum l5=some (f,l6)) (h7:Fx.pNum l6=some (g,l7)):zpw l0=some (⟨a,b,c,d,e,f,g⟩,l7):=by
 unfold zpw;rw [h1];simp only [vaw];rw [h2];simp only [vaw];rw [h3];simp only [vaw];rw [h4];simp only [vaw];rw [h5];simp only [vaw];rw [h6];simp only [vaw];rw [h7]
 rfl
theorem zy6 {o:Ob} (h:oChk o=0) (hf:Fits o) (r:L8):zpw (objB o++r)=some (o,r):=by
 obtain ⟨k1,k2,k3,k4,k5,k6⟩:=zgq h;obtain ⟨_,_,hc,hx⟩:=zpf h
 have hops:∀ i ∈ o.code,0<=i.op/\i.op<=255:=fun i hi=>by
  obtain ⟨k,hk,rfl⟩:=vbd hi;unfold zd3 at hc;rw [vad] at hc;have:=zbk.1 hc.1 k hk;unfold z22 opB at this;rw [vaj hk] at this;have:=of_decide_eq_true this;omega
 have hks:∀ f ∈ o.fixes,0<=f.kind/\f.kind<=255:=fun f hf=>by
  obtain ⟨k,hk,rfl⟩:=vbd hf;have:=zbk.1 hx k hk;unfold zg1 at this;rw [vaj hk] at this;simp only [vad] at this;have h3:=this.2.2;unfold zzg at h3
  split at h3
  . omega
  . split at h3
    . omega
    . cases h3
 rw [zvq];exact zy5 (zvp _ _ (by omega)) (zit o.uses (fun s hs r=>zvp s r (by have:=k2 s hs;omega)) (by omega) _) (zen hf.data _) (zit o.code (fun i hi r=>zto (hops i hi) (hf.code i hi).2.1 (hf.code i hi).2.2 r) (by omega) _) (zit o.fixes (fun i hi r=>zy4 (hks i hi) (hf.fixes i hi).1 (hf.fixes i hi).2.2 r) (by omega) _) (zit o.entries (fun i hi r=>zen (hf.entries i hi) r) (by omega) _) (zen hf.main r)
theorem z2t {l r:L8} {o:Ob} (h:zpw l=some (o,r)):l=objB o++r:=by
 unfold zpw at h
 cases h1:pTx l with
 | none=>rw [h1] at h;cases h
 | some a=>
 rw [h1] at h;simp only [vaw] at h
 cases h2:zd6 pTx a.2 with
 | none=>rw [h2] at h;cases h
 | some b=>
 rw [h2] at h;simp only [vaw] at h
 cases h3:Fx.pNum b.2 with
 | none=>rw [h3] at h;cases h
 | some c=>
 rw [h3] at h;simp only [vaw] at h
 cases h4:zd6 zbn c.2 with
 | none=>rw [h4] at h;cases h
 | some d=>
 rw [h4] at h;simp only [vaw] at h
 cases h5:zd6 zcl d.2 with
 | none=>rw [h5] at h;cases h
 | some e=>
 rw [h5] at h;simp only [vaw] at h
 cases h6:zd6 Fx.pNum e.2 with
 | none=>rw [h6] at h;cases h
 | some f=>
 rw [h6] at h;simp only [vaw] at h
 cases h7:Fx.pNum f.2 with
 | none=>rw [h7] at h;cases h
 | some g=>
 rw [h7] at h;cases h;rw [zy2 (s:=a.1) (r:=a.2) h1,zk6 (g:=Fx.textB) (fun _ _ _=>zy2) (xs:=b.1) (r:=b.2) h2,Fx.zdp (n:=c.1) (r:=c.2) h3,zk6 zxb (xs:=d.1) (r:=d.2) h4,zk6 z2s (xs:=e.1) (r:=e.2) h5,zk6 (g:=Fx.numB) (fun _ _ _=>Fx.zdp) (xs:=f.1) (r:=f.2) h6,Fx.zdp (n:=g.1) (r:=g.2) h7];have:=zvq ⟨a.1,b.1,c.1,d.1,e.1,f.1,g.1⟩ g.2;exact this.symm
end Go.Proofs.YtndkhgakfodldaaGreatDoor
