import Derived.Test.YtndkhgakfodldaaGreatDoorZo
import Derived.Test.YtndkhgakfodldaaGreatDoorLe
namespace Go.Proofs.YtndkhgakfodldaaGreatDoor
set_option maxRecDepth 100000
open Go.ChangeShapes Go.WideShapes Go.ChangeAt Go.RowKit Go.Deep
set_option linter.unusedVariables false
section
variable {H:Type} {enc:TypeId × Value->H} {W:World}
theorem z2a {Az:Nat} {c:Value} {x:DataW H × List MemPlace} (h:DataW.trod enc Tryz.prog W 0 (fun _=>true) true Az 79 [c]=some x) (hw:Okw 79 x.1):∀ a n k,c = .slice a n k->z79 W a n:=by
 intro a n k e
 rcases vdk Tryz.underlying79 h with ⟨AY,_⟩ | ⟨a',len,cap,elems,rest,n',rfl,AY,hx,_,hl,hm,Ai,hel1,_,_⟩
 . rw [e] at AY
   simp at AY;intro b off ha i hi;omega
 . rw [e] at AY
   simp at AY;obtain ⟨rfl,rfl,rfl⟩:=AY;subst hx;simp only [Okw,DataW.weights,Tryz.underlying79,vcy,vbo,vab,decide_eq_true_eq] at hw;obtain ⟨Cm,DT,_⟩:=hw;intro b off ha i hi
   injection ha with ha
   subst ha;have he:=hel1 i (by omega);rw [z80] at he
   have FW:i<elems.length:=by omega
   rw [vac FW] at he;obtain ⟨cs',Bg,C1⟩:=Option.bind_eq_some_iff.1 he;obtain ⟨_,DY,hcell⟩:=World.cells?_some Bg;obtain ⟨z,hz,AG⟩:=zzj n' cs' elems[i] C1 (zxe (vcw.2 ⟨_,vag FW,rfl⟩) DT);obtain ⟨v1,k1,d1⟩:=hz.get 1 (.list z.uses.length (zaw z.uses)) rfl;obtain ⟨x1,y1,rfl,_⟩:=zav d1;refine ⟨x1,z.uses.length,y1,?_,AG _ _ _ k1⟩;have:=hcell 1 (by omega);rw [add_add,k1,zjn,← vbm] at this;exact this
theorem z2b {Az:Nat} {c:Value} {x:DataW H × List MemPlace} (h:DataW.trod enc Tryz.prog W 0 (fun _=>true) true Az 79 [c]=some x) (hw:Okw 79 x.1):∃ l:List Ob,zcv W Tu (.list l.length (z6s l)) c/\∀ a n k,c = .slice a n k->z79 W a n:=by
 obtain ⟨l,hl⟩:=zfu (α:=Ob) Tryz.underlying79 z80 (by omega) (by rw [z91];omega) Ob.ds (fun n _ cs y hy hq=>by obtain ⟨z,hz,_⟩:=zzj n cs y hy hq;exact ⟨z,hz⟩) h hw;exact ⟨l,hl,z2a h hw⟩
end
theorem z44 {H:Type} {enc:TypeId × Value->H} {W:World} {Az:Nat} {c:Value} {x:DataW H × List MemPlace} (h:DataW.trod enc Tryz.prog W 0 (fun _=>true) true Az 79 [c]=some x):∀ a n k,c = .slice a n k->n<=k:=by
 intro a n k e
 rcases vdk Tryz.underlying79 h with ⟨AY,_⟩ | ⟨a,len,cap,elems,rest,n,_,AY,_,_,hl,_⟩
 . rw [e] at AY
   simp at AY;omega
 . rw [e] at AY
   simp at AY;omega
end Go.Proofs.YtndkhgakfodldaaGreatDoor
