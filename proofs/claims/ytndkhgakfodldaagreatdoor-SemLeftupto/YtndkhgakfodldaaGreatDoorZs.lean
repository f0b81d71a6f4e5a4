import Derived.Test.YtndkhgakfodldaaGreatDoorZu
import Derived.Test.YtndkhgakfodldaaGreatDoorYa
namespace Go.Proofs.YtndkhgakfodldaaGreatDoor
set_option maxRecDepth 100000
open Go.ChangeShapes Go.WideShapes Go.ChangeAt Go.RowKit Go.Deep
set_option linter.unusedVariables false
theorem z3v:Tryz.prog.bytesOf 3=8:=by kernel_rfl
theorem zwa (l:List Int):l.flatMap (fun n=>[D.int n])=zdx l:=by
 induction l with
 | nil=>rfl
 | cons x r ih=>simp only [vbw,ih,zdx,vcl];rfl
section
variable {H:Type} {enc:TypeId × Value->H} {W:World}
theorem zwb {fuel:Nat} {c:Value} {x:DataW H × List MemPlace} (h:DataW.trod enc Tryz.prog W 0 (fun _=>true) true fuel 49 [c]=some x) (hw:Okw 49 x.1):∃ l:List Int,zck W Tu (.list l.length (zdx l)) c/\∀ a n k,c = .slice a n k->n<=k:=by
 obtain ⟨l,hl⟩:=zgv (α:=Int) Tryz.underlying49 cI (by omega) (by rw [z3v];omega) (fun n=>[D.int n]) (fun n _ cs y hy _=>by
  obtain ⟨s,rfl,_,hs⟩:=vbr Tryz.underlying3 hy
  exact ⟨s,.cons (dint hs) .nil⟩) h hw
 rw [zwa] at hl;refine ⟨l,hl,fun a n k e=>?_⟩
 rcases vds Tryz.underlying49 h with ⟨hcs,_⟩ | ⟨a,len,cap,elems,rest,n,_,hcs,_,_,hl,_⟩
 . rw [e] at hcs
   simp at hcs;omega
 . rw [e] at hcs
   simp at hcs;omega
end
end Go.Proofs.YtndkhgakfodldaaGreatDoor
