import Derived.Test.YtndkhgakfodldaaGreatDoorZo
import Derived.Test.YtndkhgakfodldaaGreatDoorLe
namespace Go.Proofs.YtndkhgakfodldaaGreatDoor
set_option maxRecDepth 100000
open Go.ChangeShapes Go.WideShapes Go.ChangeAt Go.RowKit Go.Deep
set_option linter.unusedVariables false
section
variable {H:Type} {enc:TypeId × Value->H} {W:World}
theorem z3p {AE:Nat} {c:Value} {x:DataW H × List MemPlace} (h:DataW.trod enc Tryz.prog W 0 (fun _=>true) true AE 79 [c]=some x) (hw:Okw 79 x.1):∀ a n k,c = .slice a n k->z9k W a n:=by
 intro a n k e
 rcases vdw Tryz.underlying79 h with ⟨Bl,_⟩ | ⟨a',len,cap,elems,rest,n',rfl,Bl,hx,_,hl,hm,Ah,hel1,_,_⟩
 . rw [e] at Bl
   simp at Bl;intro b off ha i hi;omega
 . rw [e] at Bl
   simp at Bl;obtain ⟨rfl,rfl,rfl⟩:=Bl;subst hx;simp only [Okw,DataW.weights,Tryz.underlying79,vcr,vbm,vac,decide_eq_true_eq] at hw;obtain ⟨CK,BJ,_⟩:=hw;intro b off ha i hi
   injection ha with ha
   subst ha;have he:=hel1 i (by omega);rw [z98] at he
   have Gg:i<elems.length:=by omega
   rw [vae Gg] at he;obtain ⟨KS,Be,BU⟩:=Option.bind_eq_some_iff.1 he;obtain ⟨_,Dp,hcell⟩:=World.cells?_some Be;obtain ⟨z,hz,hcap⟩:=z0y n' KS elems[i] BU (zy2 (vch.2 ⟨_,vaj Gg,rfl⟩) BJ);obtain ⟨v1,k1,d1⟩:=hz.get 1 (.list z.uses.length (zaj z.uses)) rfl;obtain ⟨x1,y1,rfl,_⟩:=za0 d1;refine ⟨x1,z.uses.length,y1,?_,hcap _ _ _ k1⟩;have:=hcell 1 (by omega);rw [add_add,k1,zoc,← vbj] at this;exact this
theorem z3q {AE:Nat} {c:Value} {x:DataW H × List MemPlace} (h:DataW.trod enc Tryz.prog W 0 (fun _=>true) true AE 79 [c]=some x) (hw:Okw 79 x.1):∃ l:List Ob,zc7 W Tu (.list l.length (z77 l)) c/\∀ a n k,c = .slice a n k->z9k W a n:=by
 obtain ⟨l,hl⟩:=zf6 (α:=Ob) Tryz.underlying79 z98 (by omega) (by rw [ya7];omega) Ob.ds (fun n _ cs y hy hq=>by obtain ⟨z,hz,_⟩:=z0y n cs y hy hq;exact ⟨z,hz⟩) h hw;exact ⟨l,hl,z3p h hw⟩
end
end Go.Proofs.YtndkhgakfodldaaGreatDoor
