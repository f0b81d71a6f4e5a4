import Derived.Test.YtndkhgakfodldaaGreatDoorPj
import Derived.Deep.DeepCutAuto
set_option maxRecDepth 100000
set_option maxHeartbeats 16000000
namespace Go.Proofs.YtndkhgakfodldaaGreatDoor
open Go.RowKit Go.Shelf
variable {C lo n:Nat} {a H:OA} {w:World}
structure gD (R:Nat) (a:OA) (cap:Nat) (ts:List Tk) (w ws:World) (C:Nat) (T:TypeId) (Z:Obj) (cs:Array Value) (wr:World) (l:List Tk):Prop where
 rd:dH R a cap ts wr l
 ke:dK R w wr
 zb:wr.heap[w.heap.size]? = some Z
 cb:wr.heap[C]? = some (.cells cs T (0,0))
 mv:dU ws (C<·) wr (C<·)
 hR:R<w.heap.size
 hC:w.heap.size<C
 hs:C<ws.heap.size
 r0:∃ l0,dH R a cap ts w l0
section
variable {R q C:Nat} {a:OA} {d l L:List Tk} {w b wr G:World} {T:TypeId} {c:Obj} {cs:Array Value}
theorem gD.keeps (h:gD R a q d w b C T c cs wr l) (N:dK R wr G) (Q:dH R a q d G L):gD R a q d w b C T c cs G L:=
 have F:=h.hR;have J:=h.hC
 ⟨Q,h.ke.trans N,(N.block _ (lt_of_heap h.zb) N7).trans h.zb,(N.block _ (lt_of_heap h.cb) N7).trans h.cb,h.mv.keeps N (fun p _ I=>N7),h.hR,h.hC,h.hs,h.r0⟩
theorem gD.later (h:gD R a q d w b C T c cs wr l) (I:dm wr G):gD R a q d w b C T c cs G l:=h.keeps (dK.of_below I R) (h.rd.later I)
theorem gD.alloc (h:gD R a q d w b C T c cs wr l) (o:Obj):gD R a q d w b C T c cs (wr.alloc o) l:=h.later ((Below.refl _ _).alloc (dA _) o)
theorem gD.drew (h:gD R a q d w b C T c cs wr l):gD R a q d w b C T c cs wr.drew l:=h.keeps (dK.refl R wr).drew h.rd.drew
theorem gD.put (h:gD R a q d w b C T c cs wr l) (i:Nat) (u:Value):gD R a q d w b C T c (cs.setIfInBounds i u) (wr.setCell (dj C i) u) l:=by
 obtain ⟨g,ab⟩:=h.r0;have J:=h.hC;exact ⟨h.rd.setAbove ab (by show w.heap.size<=C;omega) u,h.ke.set (by show w.heap.size<=C;omega) u,(eh (by show w.heap.size≠C;omega) u).trans h.zb,heap_set h.cb u,h.mv.set (fun p _ I=>by show p≠C;omega) u,h.hR,h.hC,h.hs,h.r0⟩
theorem gD.belowB {y:Nat} (h:gD R a q d w b C T c cs wr l) (I:Below y wr G) (L:b.heap.size<=y):gD R a q d w b C T c cs G l:=by
 obtain ⟨g,ab⟩:=h.r0;have J:=h.hC;have U:=h.hs;have aB:Below w.heap.size wr G:=I.mono N7;exact ⟨h.rd.belowOf ab aB,h.ke.belowOf aB,(I.block _ N7).trans h.zb,(I.block _ N7).trans h.cb,⟨fZ h.mv.1 I.size,fun p aq aN=>⟨aN,(I.block p N7).trans (h.mv.2 p aq aN).2⟩⟩,h.hR,h.hC,h.hs,h.r0⟩
theorem gD.restart (h:gD R a q d w b C T c cs wr l):gD R a q d w wr C T c cs wr l:=
 ⟨h.rd,h.ke,h.zb,h.cb,dU.refl _ _,h.hR,h.hC,lt_of_heap h.cb,h.r0⟩
theorem gD.at (h:gD R a q d w b C T c cs wr l) {ds:List D} (k:ee b (lo<=·) H n ds) (m:C<lo):ee wr (C<·) H n ds:=
 k.moves ⟨h.mv.1,fun p F J=>⟨e4 m J,(h.mv.2 p F (e4 m J)).2⟩⟩
theorem gD.at' (h:gD R a q d w b C T c cs wr l) {ds:List D} (k:ee b (C<·) H n ds):ee wr (C<·) H n ds:=k.moves h.mv
end
theorem IH:Enters Tryz.prog 196:=enters_of Tryz.func196 (by kernel_rfl) rfl
def sW (n:ByteArray) (us:List ByteArray) (ds:List gG) (D:List Tk):Option (ec × List Tk):=match qs (D.length+1) [] D with
 | none=>none
 | some (a,l4)=>(match pB l4 with
   | none=>none
   | some (p,l5)=>if dG l5 oM then some (⟨n,us,ds,a,p⟩,l5.tail) else none)
def uK (n:ByteArray) (us:List ByteArray) (j:List Tk):Option (ec × List Tk):=match rH (j.length+1) [] j with
 | none=>none
 | some (Y,D)=>sW n us Y D
def qt (n:ByteArray) (P:List Tk):Option (ec × List Tk):=match lA mS (P.length+1) [] P with
 | none=>none
 | some (m,j)=>uK n m j
theorem II (l:List Tk):kH l=if dG l xY then (match iw l.tail with | none=>none | some (n,P)=>if dG P sa then qt n P.tail else none) else none:=by
 unfold kH qt uK sW;rfl
def ox (A:Nat->Prop) (m:ec) (w:World) (v:Value):Prop:=∃ E ah a0 ae a6 c3 c K,v = .agg #[.string m.name,.slice E m.uses.length ah,.slice a0 m.decls.length ae,.slice a6 m.procs.length c3,.slice c m.main.length K]/\m.name.size<=maxLen/\ee w A E m.uses.length (eH m.uses)/\ee w A a0 m.decls.length (lb m.decls)/\ee w A a6 m.procs.length (jq m.procs)/\ee w A c m.main.length (eE m.main)
abbrev jY:Obj:=.cells #[.string ⟨#[]⟩,dt,dt,dt,dt] 27 (0,0)
theorem IJ {R q:Nat} {d L:List Tk} {b wr:World} {r:Option (ec × List Tk)} {m:ec} {E a0 a6 c:OA} {ah ae c3 K:Nat} (h:gD R a q d w b C 27 jY #[.string m.name,.slice E m.uses.length ah,.slice a0 m.decls.length ae,.slice a6 m.procs.length c3,.slice c m.main.length K] wr L) (Q:r=some (m,L)) (Z:m.name.size<=maxLen) (F:ee wr (C<·) E m.uses.length (eH m.uses)) (J:ee wr (C<·) a0 m.decls.length (lb m.decls)) (U:ee wr (C<·) a6 m.procs.length (jq m.procs)) (aa:ee wr (C<·) c m.main.length (eE m.main)) :
 fL R a q d w r (ox (w.heap.size<=·)) (.returned (.agg #[.string m.name,.slice E m.uses.length ah,.slice a0 m.decls.length ae,.slice a6 m.procs.length c3,.slice c m.main.length K])) (set5 wr w.heap.size (.string m.name) (.slice E m.uses.length ah) (.slice a0 m.decls.length ae) (.slice a6 m.procs.length c3) (.slice c m.main.length K)):=by
 obtain ⟨g,ab⟩:=h.r0;have bj:=h.hC
 have a1:dU wr (C<·) (set5 wr w.heap.size (.string m.name) (.slice E m.uses.length ah) (.slice a0 m.decls.length ae) (.slice a6 m.procs.length c3) (.slice c m.main.length K)) (w.heap.size<=·):=
  (((dU.refl wr (C<·)).set5 (b:=w.heap.size) (fun p _ I=>N7) _ _ _ _ _)).trans ⟨dA _,fun p _ I=>⟨N7,rfl⟩⟩
 exact ⟨h.ke.set5 (dA _) _ _ _ _ _,Or.inr ⟨m,L,_,Q,rfl,⟨E,ah,a0,ae,a6,c3,c,K,rfl,Z,F.moves a1,J.moves a1,U.moves a1,aa.moves a1⟩,h.rd.set5 ab (dA _) _ _ _ _ _⟩⟩
theorem xg {ds:List D} (h:ee w (lo<=·) a n ds) (X:C<lo):ee w (C<·) a n ds:=h.moves ⟨dA _,fun _ _ I=>⟨e4 X I,rfl⟩⟩
end Go.Proofs.YtndkhgakfodldaaGreatDoor
