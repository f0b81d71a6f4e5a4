import Derived.Test.YtndkhgakfodldaaGreatDoorZw
import Derived.Test.YtndkhgakfodldaaGreatDoorUt
set_option maxRecDepth 100000
set_option linter.unusedVariables false
open Go.Proofs.Tryz
namespace Go.Proofs.YtndkhgakfodldaaGreatDoor
open Go.ChangeShapes Go.WideShapes Go.ChangeAt Go.RowKit Go.Deep
theorem CI:prog.cellsOf 69=3:=by kernel_rfl
theorem KS:prog.bytesOf 69=24:=by kernel_rfl
theorem CJ:prog.cellsOf 67=3:=by kernel_rfl
theorem KT:prog.bytesOf 67=24:=by kernel_rfl
theorem yi:prog.cellsOf 62=7:=by kernel_rfl
theorem KU:prog.bytesOf 62=128:=by kernel_rfl
theorem KV:prog.cellsOf 59=1:=by kernel_rfl
theorem KW:prog.cellsOf 60=1:=by kernel_rfl
theorem KX:prog.cellsOf 49=1:=by kernel_rfl
theorem KY:prog.bytesOf 3=8:=by kernel_rfl
theorem KZ (l:List Int):l.flatMap (fun n=>[D.int n])=gS l:=by
 induction l with
 | nil=>rfl
 | cons q O aH=>simp only [lh,aH,gS,oy];rfl
section
variable {H:Type} {enc:TypeId × Value->H} {M:World}
theorem K0 {p:Nat} {c:Value} {x:DataW H × List MemPlace} (h:DataW.trod enc prog M 0 (fun _=>true) true p 49 [c]=some x) (aq:kt 49 x.1):∃ K:List Int,fT M od (.list K.length (gS K)) c:=by
 obtain ⟨K,a2⟩:=sl (α:=Int) Tryz.underlying49 cI (by omega) (by rw [KY];omega) (fun n=>[D.int n]) (fun n _ d o z _=>by
  obtain ⟨s,rfl,_,Z⟩:=ox Tryz.underlying3 z
  exact ⟨s,.cons (f8 Z) .nil⟩) h aq
 rw [KZ] at a2;exact ⟨K,a2⟩
theorem K1 (p:Nat):∀ d o,DataW.trod enc prog M 0 (fun _=>true) true p 69 d=some o->kt 69 o.1->∃ z:fM,fB M od z.ds d:=by
 intro d o h aq;obtain ⟨ae,m,a8,Q,a2,aT,ag⟩:=wY Tryz.underlying69 h;subst Q;rw [CI] at a2
 match ae,aT,d,a2 with
 | [aF,T,X],_,[bT,aw,aE],_=>
   simp only [kt,DataW.weights,Tryz.underlying69,oy,sy,DataW.weightsEach,lL,fs,uc] at aq
   have bJ:DataW.trod enc prog M 0 (fun _=>true) true m 3 [bT]=some aF:=by have:=ag 0 _ rfl;simpa [cI] using this
   have bk:DataW.trod enc prog M 0 (fun _=>true) true m 3 [aw]=some T:=by have:=ag 1 _ rfl;simpa [cI] using this
   have bm:DataW.trod enc prog M 0 (fun _=>true) true m 3 [aE]=some X:=by have:=ag 2 _ rfl;simpa [cI] using this
   obtain ⟨w0,eq,w2,_⟩:=aq;obtain ⟨bH,D,_,Z⟩:=ox Tryz.underlying3 bJ;simp at D;subst D;obtain ⟨L,aZ,_,aK⟩:=ox Tryz.underlying3 bk;simp at aZ;subst aZ;obtain ⟨K,b6,_,aN⟩:=ox Tryz.underlying3 bm;simp at b6;subst b6;exact ⟨(⟨bH,L,K⟩:fM),.cons (f8 Z) (.cons (f8 aK) (.cons (f8 aN) .nil))⟩
theorem K2 (p:Nat):∀ d o,DataW.trod enc prog M 0 (fun _=>true) true p 67 d=some o->kt 67 o.1->∃ z:gQ,fB M od z.ds d:=by
 intro d o h aq;obtain ⟨ae,m,a8,Q,a2,aT,ag⟩:=wY Tryz.underlying67 h;subst Q;rw [CJ] at a2
 match ae,aT,d,a2 with
 | [aF,T,X],_,[bT,aw,aE],_=>
   simp only [kt,DataW.weights,Tryz.underlying67,oy,sy,DataW.weightsEach,lL,fs,uc] at aq
   have bJ:DataW.trod enc prog M 0 (fun _=>true) true m 3 [bT]=some aF:=by have:=ag 0 _ rfl;simpa [cI] using this
   have bk:DataW.trod enc prog M 0 (fun _=>true) true m 3 [aw]=some T:=by have:=ag 1 _ rfl;simpa [cI] using this
   have bm:DataW.trod enc prog M 0 (fun _=>true) true m 3 [aE]=some X:=by have:=ag 2 _ rfl;simpa [cI] using this
   obtain ⟨w0,eq,w2,_⟩:=aq;obtain ⟨bH,D,_,Z⟩:=ox Tryz.underlying3 bJ;simp at D;subst D;obtain ⟨L,aZ,_,aK⟩:=ox Tryz.underlying3 bk;simp at aZ;subst aZ;obtain ⟨K,b6,_,aN⟩:=ox Tryz.underlying3 bm;simp at b6;subst b6;exact ⟨(⟨bH,L,K⟩:gQ),.cons (f8 Z) (.cons (f8 aK) (.cons (f8 aN) .nil))⟩
theorem CK (p:Nat):∀ d o,DataW.trod enc prog M 0 (fun _=>true) true p 62 d=some o->kt 62 o.1->∃ z:eO,fB M od z.ds d/\∀ q k o,d[1]? = some (.slice q k o)->k<=o:=by
 intro d o h aq;obtain ⟨ae,m,a8,Q,a2,aT,ag⟩:=wY Tryz.underlying62 h;subst Q;rw [yi] at a2
 match ae,aT,d,a2 with
 | [aF,T,X,bc,b9,b7,c],_,[bT,aw,aE,b4,b8,u,aP],_=>
   simp only [kt,DataW.weights,Tryz.underlying62,oy,sy,DataW.weightsEach,lL,fs,uc] at aq
   have bJ:DataW.trod enc prog M 0 (fun _=>true) true m 9 [bT]=some aF:=by have:=ag 0 _ rfl;simpa [cS] using this
   have bk:DataW.trod enc prog M 0 (fun _=>true) true m 22 [aw]=some T:=by have:=ag 1 _ rfl;simpa [FK] using this
   have bm:DataW.trod enc prog M 0 (fun _=>true) true m 3 [aE]=some X:=by have:=ag 2 _ rfl;simpa [cI] using this
   have b5:DataW.trod enc prog M 0 (fun _=>true) true m 59 [b4]=some bc:=by have:=ag 3 _ rfl;simpa [KV] using this
   have bP:DataW.trod enc prog M 0 (fun _=>true) true m 60 [b8]=some b9:=by have:=ag 4 _ rfl;simpa [KW] using this
   have F:DataW.trod enc prog M 0 (fun _=>true) true m 49 [u]=some b7:=by have:=ag 5 _ rfl;simpa [KX] using this
   have v:DataW.trod enc prog M 0 (fun _=>true) true m 3 [aP]=some c:=by have:=ag 6 _ rfl;simpa [cI] using this
   obtain ⟨w0,eq,w2,eC,eA,eJ,eZ,_⟩:=aq;obtain ⟨bH,D,_,Z⟩:=DataW.trod_string Tryz.underlying9 bJ;simp at D;subst D;obtain ⟨L,aK⟩:=FL bk eq;obtain ⟨K,b6,_,aN⟩:=ox Tryz.underlying3 bm;simp at b6;subst b6;obtain ⟨f,aY⟩:=sl (α:=fM) Tryz.underlying59 CI (by omega) (by rw [KS];omega) fM.ds (fun n _=>K1 n) b5 eC;obtain ⟨i,be⟩:=sl (α:=gQ) Tryz.underlying60 CJ (by omega) (by rw [KT];omega) gQ.ds (fun n _=>K2 n) bP eA;obtain ⟨c6,P⟩:=K0 F eJ;obtain ⟨l,aJ,_,t⟩:=ox Tryz.underlying3 v;simp at aJ;subst aJ;refine ⟨(⟨bH,L,K,f,i,c6,l⟩:eO),.cons (gy Z) (.cons aK (.cons (f8 aN) (.cons aY (.cons be (.cons P (.cons (f8 t) .nil)))))),fun q k o b=>?_⟩;simp at b;subst b
   rcases t1 Tryz.underlying22 bk with ⟨R,_⟩ | ⟨a,g,I,elems,rest,n,_,R,_,_,a2,_⟩
   . simp at R;omega
   . simp at R;omega
end
end Go.Proofs.YtndkhgakfodldaaGreatDoor
