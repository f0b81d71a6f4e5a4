import Derived.Test.YtndkhgakfodldaaGreatDoorZo
import Derived.Test.YtndkhgakfodldaaGreatDoorLe
namespace Go.Proofs.YtndkhgakfodldaaGreatDoor
set_option maxRecDepth 100000
open Go.ChangeShapes Go.WideShapes Go.ChangeAt Go.RowKit Go.Deep
set_option linter.unusedVariables false
section
variable {H:Type} {enc:TypeId × Value->H} {W:World}
theorem z4s {AB:Nat} {c:Value} {x:DataW H × List MemPlace} (h:DataW.trod enc Tryz.prog W 0 (fun _=>true) true AB 79 [c]=some x) (hw:Okw 79 x.1):∀ a n k,c = .slice a n k->yaj W a n:=by
 intro a n k e
 rcases vdm Tryz.underlying79 h with ⟨B5,_⟩ | ⟨a',len,cap,elems,rest,n',rfl,B5,hx,_,hl,hm,Ah,hel1,_,_⟩
 . rw [e] at B5
   simp at B5;intro b off ha i hi;omega
 . rw [e] at B5
   simp at B5;obtain ⟨rfl,rfl,rfl⟩:=B5;subst hx;simp only [Okw,DataW.weights,Tryz.underlying79,vcp,vbp,vac,decide_eq_true_eq] at hw;obtain ⟨Cw,BW,_⟩:=hw;intro b off ha i hi
   injection ha with ha
   subst ha;have he:=hel1 i ae;rw [yba] at he
   have GW:i<elems.length:=ae
   rw [vad GW] at he;obtain ⟨cs',Bk,C7⟩:=Option.bind_eq_some_iff.1 he;obtain ⟨_,Ew,hcell⟩:=World.cells?_some Bk;obtain ⟨z,hz,AJ⟩:=z1u n' cs' elems[i] C7 (zzp (vcy.2 ⟨_,vah GW,rfl⟩) BW);obtain ⟨v1,k1,d1⟩:=hz.get 1 (.list z.uses.length (zak z.uses)) rfl;obtain ⟨x1,y1,rfl,_⟩:=za1 d1;refine ⟨x1,z.uses.length,y1,?_,AJ _ _ _ k1⟩;have:=hcell 1 ae;rw [add_add,k1,zk2,← vbn] at this;exact this
theorem z4t {AB:Nat} {c:Value} {x:DataW H × List MemPlace} (h:DataW.trod enc Tryz.prog W 0 (fun _=>true) true AB 79 [c]=some x) (hw:Okw 79 x.1):∃ l:List Ob,zdg W Tu (.list l.length (z88 l)) c/\∀ a n k,c = .slice a n k->yaj W a n:=by
 obtain ⟨l,hl⟩:=zgo (α:=Ob) Tryz.underlying79 yba ae (by rw [yb8];omega) Ob.ds (fun n _ cs y hy hq=>by obtain ⟨z,hz,_⟩:=z1u n cs y hy hq;exact ⟨z,hz⟩) h hw;exact ⟨l,hl,z4s h hw⟩
end
theorem z7o {H:Type} {enc:TypeId × Value->H} {W:World} {AB:Nat} {c:Value} {x:DataW H × List MemPlace} (h:DataW.trod enc Tryz.prog W 0 (fun _=>true) true AB 79 [c]=some x):∀ a n k,c = .slice a n k->n<=k:=by
 intro a n k e
 rcases vdm Tryz.underlying79 h with ⟨B5,_⟩ | ⟨a,len,cap,elems,rest,n,_,B5,_,_,hl,_⟩
 . rw [e] at B5
   simp at B5;omega
 . rw [e] at B5
   simp at B5;omega
end Go.Proofs.YtndkhgakfodldaaGreatDoor
