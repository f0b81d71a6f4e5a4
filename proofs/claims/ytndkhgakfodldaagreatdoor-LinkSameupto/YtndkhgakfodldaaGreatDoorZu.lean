import Derived.Test.YtndkhgakfodldaaGreatDoorOq
import Derived.Test.YtndkhgakfodldaaGreatDoorZw
import Derived.Test.YtndkhgakfodldaaGreatDoorUi
set_option maxRecDepth 100000
set_option linter.unusedVariables false
open Go.Proofs.Tryz
namespace Go.Proofs.YtndkhgakfodldaaGreatDoor
open Go.ChangeShapes Go.WideShapes Go.ChangeAt Go.RowKit Go.Deep
variable {c:Value} {d:Nat}
theorem Ei:prog.cellsOf 253=5:=by kernel_rfl
theorem NU:prog.bytesOf 253=56:=by kernel_rfl
theorem Ej:prog.cellsOf 109=7:=by kernel_rfl
theorem NV:prog.bytesOf 109=104:=by kernel_rfl
theorem Ek:prog.cellsOf 106=3:=by kernel_rfl
theorem NW:prog.bytesOf 106=40:=by kernel_rfl
theorem El:prog.cellsOf 42=5:=by kernel_rfl
theorem NX:prog.bytesOf 42=96:=by kernel_rfl
theorem Em:prog.cellsOf 107=1:=by kernel_rfl
theorem v7:prog.cellsOf 40=1:=by kernel_rfl
theorem NY:prog.cellsOf 39=1:=by kernel_rfl
theorem En:∀ g:List dB,g.flatMap dB.ds=es g
 | []=>by simp [es]
 | x :: r=>by simp [es,En r]
theorem Eo:∀ g:List du,g.flatMap du.ds=eJ g
 | []=>by simp [eJ]
 | x :: r=>by simp [eJ,Eo r]
section
variable {H:Type} {enc:TypeId × Value->H} {M:World}
theorem Ep (aY:∀ n,n<d->∀ s a3,DataW.trod enc prog M 0 (fun _=>true) true n 253 s=some a3->hE 253 a3.1->∃ aX:dB,eu M jo aX.ds s) {x:DataW H × List MemPlace} (h:DataW.trod enc prog M 0 (fun _=>true) true d 107 [c]=some x) (aj:hE 107 x.1):∃ g:List dB,eO M jo (.list g.length (es g)) c:=by
 obtain ⟨g,X⟩:=uD (α:=dB) Tryz.underlying107 Ei N7 (by rw [NU];omega) dB.ds aY h aj;rw [En] at X;exact ⟨g,X⟩
theorem NZ (d:Nat):∀ s a3,DataW.trod enc prog M 0 (fun _=>true) true d 253 s=some a3->hE 253 a3.1->∃ aX:dB,eu M jo aX.ds s:=by
 induction d using Nat.strongRecOn with
 | ind d ay=>
 intro s a3 h aj;obtain ⟨ao,m,a1,S,X,b1,Y⟩:=uT Tryz.underlying253 h;subst S;rw [Ei] at X
 match ao,b1,s,X with
 | [D,ad,f,bi,b4],_,[bN,aJ,aI,bq,bo],_=>
   simp only [hE,DataW.weights,Tryz.underlying253,md,qF,DataW.weightsEach,k8,dO,ta] at aj
   have bk:DataW.trod enc prog M 0 (fun _=>true) true m 3 [bN]=some D:=PI
   have bz:DataW.trod enc prog M 0 (fun _=>true) true m 3 [aJ]=some ad:=PJ
   have bO:DataW.trod enc prog M 0 (fun _=>true) true m 3 [aI]=some f:=PK
   have c1:DataW.trod enc prog M 0 (fun _=>true) true m 3 [bq]=some bi:=by have:=Y 3 _ rfl;simpa [cI] using this
   have c5:DataW.trod enc prog M 0 (fun _=>true) true m 107 [bo]=some b4:=by have:=Y 4 _ rfl;simpa [Em] using this
   obtain ⟨w0,dk,w2,dC,dD,_⟩:=aj;obtain ⟨q,bf,_,aw⟩:=mc Tryz.underlying3 bk;simp at bf;subst bf;obtain ⟨ap,be,_,aF⟩:=mc Tryz.underlying3 bz;simp at be;subst be;obtain ⟨ai,b9,_,aM⟩:=mc Tryz.underlying3 bO;simp at b9;subst b9;obtain ⟨r,bm,_,bl⟩:=mc Tryz.underlying3 c1;simp at bm;subst bm;obtain ⟨aQ,a8⟩:=Ep (fun n Z=>ay n N7) c5 dD;exact ⟨.mk q ap ai r aQ,.cons (eY aw) (.cons (eY aF) (.cons (eY aM) (.cons (eY bl) (.cons a8 .nil))))⟩
theorem N0 {x:DataW H × List MemPlace} (h:DataW.trod enc prog M 0 (fun _=>true) true d 107 [c]=some x) (aj:hE 107 x.1):∃ g:List dB,eO M jo (.list g.length (es g)) c:=Ep (fun n _=>NZ n) h aj
theorem zi (aY:∀ n,n<d->∀ s a3,DataW.trod enc prog M 0 (fun _=>true) true n 109 s=some a3->hE 109 a3.1->∃ aX:du,eu M jo aX.ds s) {x:DataW H × List MemPlace} (h:DataW.trod enc prog M 0 (fun _=>true) true d 40 [c]=some x) (aj:hE 40 x.1):∃ g:List du,eO M jo (.list g.length (eJ g)) c:=by
 obtain ⟨g,X⟩:=uD (α:=du) Tryz.underlying40 Ej N7 (by rw [NV];omega) du.ds aY h aj;rw [Eo] at X;exact ⟨g,X⟩
theorem N1 (d:Nat):∀ s a3,DataW.trod enc prog M 0 (fun _=>true) true d 109 s=some a3->hE 109 a3.1->∃ aX:du,eu M jo aX.ds s:=by
 induction d using Nat.strongRecOn with
 | ind d ay=>
 intro s a3 h aj;obtain ⟨ao,m,a1,S,X,b1,Y⟩:=uT Tryz.underlying109 h;subst S;rw [Ej] at X
 match ao,b1,s,X with
 | [D,ad,f,bi,b4,bx,y6],_,[bN,aJ,aI,bq,bo,t,am],_=>
   simp only [hE,DataW.weights,Tryz.underlying109,md,qF,DataW.weightsEach,k8,dO,ta] at aj
   have bk:DataW.trod enc prog M 0 (fun _=>true) true m 3 [bN]=some D:=PI
   have bz:DataW.trod enc prog M 0 (fun _=>true) true m 3 [aJ]=some ad:=PJ
   have bO:DataW.trod enc prog M 0 (fun _=>true) true m 3 [aI]=some f:=PK
   have c1:DataW.trod enc prog M 0 (fun _=>true) true m 3 [bq]=some bi:=by have:=Y 3 _ rfl;simpa [cI] using this
   have c5:DataW.trod enc prog M 0 (fun _=>true) true m 107 [bo]=some b4:=by have:=Y 4 _ rfl;simpa [Em] using this
   have j:DataW.trod enc prog M 0 (fun _=>true) true m 40 [t]=some bx:=by have:=Y 5 _ rfl;simpa [v7] using this
   have c:DataW.trod enc prog M 0 (fun _=>true) true m 40 [am]=some y6:=by have:=Y 6 _ rfl;simpa [v7] using this
   obtain ⟨w0,dk,w2,dC,dD,dJ,eD,_⟩:=aj;obtain ⟨q,bf,_,aw⟩:=mc Tryz.underlying3 bk;simp at bf;subst bf;obtain ⟨ap,be,_,aF⟩:=mc Tryz.underlying3 bz;simp at be;subst be;obtain ⟨ai,b9,_,aM⟩:=mc Tryz.underlying3 bO;simp at b9;subst b9;obtain ⟨r,bm,_,bl⟩:=mc Tryz.underlying3 c1;simp at bm;subst bm;obtain ⟨aQ,a8⟩:=N0 c5 dD;obtain ⟨v,u⟩:=zi (fun n Z=>ay n N7) j dJ;obtain ⟨b,o⟩:=zi (fun n Z=>ay n N7) c eD;exact ⟨.mk q ap ai r aQ v b,.cons (eY aw) (.cons (eY aF) (.cons (eY aM) (.cons (eY bl) (.cons a8 (.cons u (.cons o .nil))))))⟩
theorem Eq {x:DataW H × List MemPlace} (h:DataW.trod enc prog M 0 (fun _=>true) true d 40 [c]=some x) (aj:hE 40 x.1):∃ g:List du,eO M jo (.list g.length (eJ g)) c:=zi (fun n _=>N1 n) h aj
theorem N2 (d:Nat):∀ s a3,DataW.trod enc prog M 0 (fun _=>true) true d 106 s=some a3->hE 106 a3.1->∃ aX:e5,eu M jo aX.ds s:=by
 intro s a3 h aj;obtain ⟨ao,m,a1,S,X,b1,Y⟩:=uT Tryz.underlying106 h;subst S;rw [Ek] at X
 match ao,b1,s,X with
 | [D,ad,f],_,[bN,aJ,aI],_=>
   simp only [hE,DataW.weights,Tryz.underlying106,md,qF,DataW.weightsEach,k8,dO,ta] at aj
   have bk:DataW.trod enc prog M 0 (fun _=>true) true m 3 [bN]=some D:=PI
   have bz:DataW.trod enc prog M 0 (fun _=>true) true m 3 [aJ]=some ad:=PJ
   have bO:DataW.trod enc prog M 0 (fun _=>true) true m 40 [aI]=some f:=by have:=Y 2 _ rfl;simpa [v7] using this
   obtain ⟨w0,dk,w2,_⟩:=aj;obtain ⟨q,bf,_,aw⟩:=mc Tryz.underlying3 bk;simp at bf;subst bf;obtain ⟨ap,be,_,aF⟩:=mc Tryz.underlying3 bz;simp at be;subst be;obtain ⟨ai,aM⟩:=Eq bO w2;exact ⟨(⟨q,ap,ai⟩:e5),.cons (eY aw) (.cons (eY aF) (.cons aM .nil))⟩
theorem N3 (d:Nat):∀ s a3,DataW.trod enc prog M 0 (fun _=>true) true d 42 s=some a3->hE 42 a3.1->∃ aX:dN,eu M jo aX.ds s/\(Rows.uptoBulk a3.1<=1048576->aX.uses.length<=1048576):=by
 intro s a3 h aj;obtain ⟨ao,m,a1,S,X,b1,Y⟩:=uT Tryz.underlying42 h;subst S;rw [El] at X
 match ao,b1,s,X with
 | [D,ad,f,bi,b4],_,[bN,aJ,aI,bq,bo],_=>
   simp only [hE,DataW.weights,Tryz.underlying42,md,qF,DataW.weightsEach,k8,dO,ta] at aj
   have bk:DataW.trod enc prog M 0 (fun _=>true) true m 9 [bN]=some D:=by have:=Y 0 _ rfl;simpa [cS] using this
   have bz:DataW.trod enc prog M 0 (fun _=>true) true m 22 [aJ]=some ad:=by have:=Y 1 _ rfl;simpa [H7] using this
   have bO:DataW.trod enc prog M 0 (fun _=>true) true m 3 [aI]=some f:=PK
   have c1:DataW.trod enc prog M 0 (fun _=>true) true m 39 [bq]=some bi:=by have:=Y 3 _ rfl;simpa [NY] using this
   have c5:DataW.trod enc prog M 0 (fun _=>true) true m 40 [bo]=some b4:=by have:=Y 4 _ rfl;simpa [v7] using this
   obtain ⟨w0,dk,w2,dC,dD,_⟩:=aj;obtain ⟨q,bf,_,aw⟩:=DataW.trod_string Tryz.underlying9 bk;simp at bf;subst bf;obtain ⟨ap,aF,bt⟩:=H9 bz dk;obtain ⟨ai,b9,_,aM⟩:=mc Tryz.underlying3 bO;simp at b9;subst b9;obtain ⟨r,bl⟩:=uD (α:=e5) Tryz.underlying39 Ek N7 (by rw [NW];omega) e5.ds (fun n _=>N2 n) c1 dC;obtain ⟨aQ,a8⟩:=Eq c5 dD;refine ⟨(⟨q,ap,ai,r,aQ⟩:dN),.cons (fz aw) (.cons aF (.cons (eY aM) (.cons bl (.cons a8 .nil)))),fun I=>?_⟩;have aB:Rows.uptoBulk (DataW.agg [D.1,ad.1,f.1,bi.1,b4.1])<=1048576:=I;simp only [Rows.uptoBulk,Rows.uptoBulkAll] at aB;exact bt N7
theorem N4 {x:DataW H × List MemPlace} (h:DataW.trod enc prog M 0 (fun _=>true) true d 48 [c]=some x) (aj:hE 48 x.1):∃ g:List dN,eO M jo (.list g.length (gJ g)) c/\(Rows.uptoBulk x.1<=1048576->∀ u ∈ g,u.uses.length<=1048576):=by
 obtain ⟨g,X,I⟩:=Bu (α:=dN) Tryz.underlying48 El N7 (by rw [NX];omega) dN.ds (fun aX=>aX.uses.length<=1048576) (fun n _=>N3 n) h aj;exact ⟨g,X,fun h=>(I h).2⟩
end
end Go.Proofs.YtndkhgakfodldaaGreatDoor
