import Derived.Test.YtndkhgakfodldaaGreatDoorPj
import Derived.Deep.DeepCutAuto
namespace Go.Proofs.YtndkhgakfodldaaGreatDoor
set_option maxRecDepth 100000
set_option maxHeartbeats 8000000
open Go.RowKit Go.Shelf
structure FSt (R:Nat) (a:OA) (cap:Nat) (ts:List Tk) (w ws:World) (C:Nat) (T:TypeId) (Z:Obj) (cs:Array Value) (wr:World) (l:List Tk):Prop where
 rd:Rd R a cap ts wr l
 ke:Keeps R w wr
 zb:wr.heap[w.heap.size]? = some Z
 cb:wr.heap[C]? = some (.cells cs T (0,0))
 mv:zad ws (C<·) wr (C<·)
 hR:R<w.heap.size
 hC:w.heap.size<C
 hs:C<ws.heap.size
 r0:∃ l0,Rd R a cap ts w l0
section
variable {R cap C:Nat} {a:OA} {ts l l':List Tk} {w ws wr w':World} {T:TypeId} {Z:Obj} {cs:Array Value}
theorem FSt.keeps (h:FSt R a cap ts w ws C T Z cs wr l) (hk:Keeps R wr w') (hr:Rd R a cap ts w' l'):FSt R a cap ts w ws C T Z cs w' l':=
 have h1:=h.hR;have h2:=h.hC
 ⟨hr,h.ke.trans hk,(hk.block _ (lt_of_heap h.zb) (by omega)).trans h.zb,(hk.block _ (lt_of_heap h.cb) (by omega)).trans h.cb,h.mv.keeps hk (fun b _ hb=>by omega),h.hR,h.hC,h.hs,h.r0⟩
theorem FSt.later (h:FSt R a cap ts w ws C T Z cs wr l) (hb:qb wr w'):FSt R a cap ts w ws C T Z cs w' l:=h.keeps (Keeps.of_below hb R) (h.rd.later hb)
theorem FSt.alloc (h:FSt R a cap ts w ws C T Z cs wr l) (o:Obj):FSt R a cap ts w ws C T Z cs (wr.alloc o) l:=h.later ((Below.refl _ _).alloc (vaa _) o)
theorem FSt.drew (h:FSt R a cap ts w ws C T Z cs wr l):FSt R a cap ts w ws C T Z cs wr.drew l:=h.keeps (Keeps.refl R wr).drew h.rd.drew
theorem FSt.put (h:FSt R a cap ts w ws C T Z cs wr l) (i:Nat) (u:Value):FSt R a cap ts w ws C T Z (cs.setIfInBounds i u) (wr.setCell (qa C i) u) l:=by
 obtain ⟨l0,h0⟩:=h.r0;have h2:=h.hC;exact ⟨h.rd.setAbove h0 (by show w.heap.size<=C;omega) u,h.ke.set (by show w.heap.size<=C;omega) u,(heap_set_ne (by show w.heap.size≠C;omega) u).trans h.zb,heap_set h.cb u,h.mv.set (fun b _ hb=>by show b≠C;omega) u,h.hR,h.hC,h.hs,h.r0⟩
theorem FSt.belowB {base:Nat} (h:FSt R a cap ts w ws C T Z cs wr l) (hb:Below base wr w') (AN:ws.heap.size<=base):FSt R a cap ts w ws C T Z cs w' l:=by
 obtain ⟨l0,h0⟩:=h.r0;have h2:=h.hC;have h3:=h.hs;have AZ:Below w.heap.size wr w':=hb.mono (by omega);exact ⟨h.rd.belowOf h0 AZ,h.ke.belowOf AZ,(hb.block _ (by omega)).trans h.zb,(hb.block _ (by omega)).trans h.cb,⟨vbd h.mv.1 hb.size,fun b A5 Aa=>⟨Aa,(hb.block b (by omega)).trans (h.mv.2 b A5 Aa).2⟩⟩,h.hR,h.hC,h.hs,h.r0⟩
theorem FSt.restart (h:FSt R a cap ts w ws C T Z cs wr l):FSt R a cap ts w wr C T Z cs wr l:=
 ⟨h.rd,h.ke,h.zb,h.cb,zad.refl _ _,h.hR,h.hC,lt_of_heap h.cb,h.r0⟩
theorem FSt.at (h:FSt R a cap ts w ws C T Z cs wr l) {n lo:Nat} {ad:OA} {ds:List D} (k:EAt ws (lo<=·) ad n ds) (CN:C<lo):EAt wr (C<·) ad n ds:=
 k.moves ⟨h.mv.1,fun b h1 h2=>⟨vah CN h2,(h.mv.2 b h1 (vah CN h2)).2⟩⟩
theorem FSt.at' (h:FSt R a cap ts w ws C T Z cs wr l) {n:Nat} {ad:OA} {ds:List D} (k:EAt ws (C<·) ad n ds):EAt wr (C<·) ad n ds:=k.moves h.mv
end
theorem z3w:Enters Tryz.prog 196:=enters_of Tryz.func196 (by kernel_rfl) rfl
set_option maxHeartbeats 16000000
def pM3 (n:ByteArray) (us:List ByteArray) (ds:List De) (l3:List Tk):Option (Mo × List Tk):=match zj6 (l3.length+1) [] l3 with
 | none=>none
 | some (ps,l4)=>(match pB l4 with
   | none=>none
   | some (b,l5)=>if skB l5 tRb then some (⟨n,us,ds,ps,b⟩,l5.tail) else none)
def pM2 (n:ByteArray) (us:List ByteArray) (l2:List Tk):Option (Mo × List Tk):=match zmg (l2.length+1) [] l2 with
 | none=>none
 | some (ds,l3)=>pM3 n us ds l3
def pM1 (n:ByteArray) (l1:List Tk):Option (Mo × List Tk):=match zh0 zvw (l1.length+1) [] l1 with
 | none=>none
 | some (us,l2)=>pM2 n us l2
theorem zuu (l:List Tk):zch l=if skB l zn1 then (match zd3 l.tail with | none=>none | some (n,l1)=>if skB l1 tLb then pM1 n l1.tail else none) else none:=by
 unfold zch pM1 pM2 pM3;rfl
def znp (A:Nat->Prop) (m:Mo) (w:World) (v:Value):Prop:=∃ a1 c1 a2 c2 a3 c3 a4 c4,v = .agg #[.string m.name,.slice a1 m.uses.length c1,.slice a2 m.decls.length c2,.slice a3 m.procs.length c3,.slice a4 m.main.length c4]/\m.name.size<=maxLen/\EAt w A a1 m.uses.length (zaw m.uses)/\EAt w A a2 m.decls.length (ztj m.decls)/\EAt w A a3 m.procs.length (znt m.procs)/\EAt w A a4 m.main.length (zby m.main)
abbrev zde:Obj:=.cells #[.string ⟨#[]⟩,qs,qs,qs,qs] 27 (0,0)
theorem z53 {R cap C:Nat} {a:OA} {ts l':List Tk} {w ws wr:World} {r:Option (Mo × List Tk)} {m:Mo} {a1 a2 a3 a4:OA} {c1 c2 c3 c4:Nat} (h:FSt R a cap ts w ws C 27 zde #[.string m.name,.slice a1 m.uses.length c1,.slice a2 m.decls.length c2,.slice a3 m.procs.length c3,.slice a4 m.main.length c4] wr l') (hr:r=some (m,l')) (hn:m.name.size<=maxLen) (h1:EAt wr (C<·) a1 m.uses.length (zaw m.uses)) (h2:EAt wr (C<·) a2 m.decls.length (ztj m.decls)) (h3:EAt wr (C<·) a3 m.procs.length (znt m.procs)) (h4:EAt wr (C<·) a4 m.main.length (zby m.main)) :
 zd8 R a cap ts w r (znp (w.heap.size<=·)) (.returned (.agg #[.string m.name,.slice a1 m.uses.length c1,.slice a2 m.decls.length c2,.slice a3 m.procs.length c3,.slice a4 m.main.length c4])) (set5 wr w.heap.size (.string m.name) (.slice a1 m.uses.length c1) (.slice a2 m.decls.length c2) (.slice a3 m.procs.length c3) (.slice a4 m.main.length c4)):=by
 obtain ⟨l0,h0⟩:=h.r0;have hC:=h.hC
 have hm:zad wr (C<·) (set5 wr w.heap.size (.string m.name) (.slice a1 m.uses.length c1) (.slice a2 m.decls.length c2) (.slice a3 m.procs.length c3) (.slice a4 m.main.length c4)) (w.heap.size<=·):=
  (((zad.refl wr (C<·)).set5 (b:=w.heap.size) (fun b _ hb=>by omega) _ _ _ _ _)).trans ⟨vaa _,fun b _ hb=>⟨by omega,rfl⟩⟩
 exact ⟨h.ke.set5 (vaa _) _ _ _ _ _,Or.inr ⟨m,l',_,hr,rfl,⟨a1,c1,a2,c2,a3,c3,a4,c4,rfl,hn,h1.moves hm,h2.moves hm,h3.moves hm,h4.moves hm⟩,h.rd.set5 h0 (vaa _) _ _ _ _ _⟩⟩
theorem low {w:World} {lo C n:Nat} {a:OA} {ds:List D} (h:EAt w (lo<=·) a n ds) (hl:C<lo):EAt w (C<·) a n ds:=h.moves ⟨vaa _,fun _ _ hb=>⟨vah hl hb,rfl⟩⟩
end Go.Proofs.YtndkhgakfodldaaGreatDoor
