import Derived.Test.YtndkhgakfodldaaGreatDoorBc
import Derived.Test.YtndkhgakfodldaaGreatDoorUt
set_option maxRecDepth 100000
set_option maxHeartbeats 12800000
set_option linter.unusedSimpArgs false
set_option linter.unusedVariables false
open Go.Proofs.Tryz
open List renaming length → Ln
namespace Go.Proofs.YtndkhgakfodldaaGreatDoor
open Go.RowKit Go.Shelf
section
variable {α:Type} {p:L8->Option (α × L8)} {P:List α} {n:Nat} {l O:L8} {i:α}
end
variable {b:Nat} {o:eO} {w r:World} {E H aj al:OA}
theorem str_one (x:ByteArray):∀ u ∈ (#[Value.string x]:Array Value).toList,u.oneCell'=true:=by simp;rfl
theorem int_one (x:Int):∀ u ∈ (#[Value.int .i64 x]:Array Value).toList,u.oneCell'=true:=by simp;rfl
abbrev pT:Obj:=hE ⟨#[]⟩ none 0 0 0 none 0 0 none 0 0 none 0 0 0
abbrev yk:Value:=.agg #[.string ⟨#[]⟩,eu,em 0,eu,eu,eu,em 0]
structure rL (w:World) (lo:Nat) (o:eO) (x1:OA) (x3:OA) (x4:OA) (x5:OA):Prop where
 wn:o.name.size<=maxLen
 uses:eE w (lo<=·) x1 (Ln o.uses) (fj o.uses)
 wd:(Lit.int .i64 o.data).wf=true
 code:eE w (lo<=·) x3 (Ln o.code) (lZ o.code)
 fixes:eE w (lo<=·) x4 (Ln o.fixes) (oV o.fixes)
 entries:eE w (lo<=·) x5 (Ln o.entries) (gS o.entries)
 wm:(Lit.int .i64 o.main).wf=true
theorem rL.moves {K lo':Nat} (h:rL w K o E H aj al) (m:eQ w (K<=·) r (lo'<=·)):rL r lo' o E H aj al:=
 ⟨h.wn,h.uses.moves m,h.wd,h.code.moves m,h.fixes.moves m,h.entries.moves m,h.wm⟩
theorem rL.ov {K:Nat} (h:rL w K o E H aj al):jk w o E H aj al:=
 have m:eQ w (K<=·) w eV:=⟨eD _,fun b F _=>⟨trivial,rfl⟩⟩
 ⟨h.wn,h.uses.moves m,h.wd,h.code.moves m,h.fixes.moves m,h.entries.moves m,h.wm⟩
def pV (w:World) (b:Nat):World:=((((((((w.alloc pT).setCell (ep b 0) (.string ⟨#[]⟩)).setCell (ep b 1) (eu)).setCell (ep b 2) (em 0)).setCell (ep b 3) (eu)).setCell (ep b 4) (eu)).setCell (ep b 5) (eu)).setCell (ep b 6) (em 0)).setCell ⟨b+1,0,none⟩ (.bool false)
def ve (w:World) (b:Nat) (af E ae H aj al O:Value):World:=(((((((w.setCell (ep b 0) (af)).setCell (ep b 1) (E)).setCell (ep b 2) (ae)).setCell (ep b 3) (H)).setCell (ep b 4) (aj)).setCell (ep b 5) (al)).setCell (ep b 6) (O))
theorem CL {aF T X y3 y4 y5 c:Value} {t:TypeId} {f:Nat × Nat} (h:w.heap[b]? = some (.cells #[aF,T,X,y3,y4,y5,c] t f)) (af E ae H aj al O:Value):(ve w b af E ae H aj al O).heap[b]? = some (.cells #[af,E,ae,H,aj,al,O] t f):=by
 have a3:(w.setCell (ep b 0) af).heap[b]? = some (.cells #[af,T,X,y3,y4,y5,c] t f):=heap_set h af;have G:((w.setCell (ep b 0) af).setCell (ep b 1) E).heap[b]? = some (.cells #[af,E,X,y3,y4,y5,c] t f):=heap_set a3 E;have J:(((w.setCell (ep b 0) af).setCell (ep b 1) E).setCell (ep b 2) ae).heap[b]? = some (.cells #[af,E,ae,y3,y4,y5,c] t f):=heap_set G ae;have S:((((w.setCell (ep b 0) af).setCell (ep b 1) E).setCell (ep b 2) ae).setCell (ep b 3) H).heap[b]? = some (.cells #[af,E,ae,H,y4,y5,c] t f):=heap_set J H;have a6:(((((w.setCell (ep b 0) af).setCell (ep b 1) E).setCell (ep b 2) ae).setCell (ep b 3) H).setCell (ep b 4) aj).heap[b]? = some (.cells #[af,E,ae,H,aj,y5,c] t f):=heap_set S aj;have ap:((((((w.setCell (ep b 0) af).setCell (ep b 1) E).setCell (ep b 2) ae).setCell (ep b 3) H).setCell (ep b 4) aj).setCell (ep b 5) al).heap[b]? = some (.cells #[af,E,ae,H,aj,al,c] t f):=heap_set a6 al
 have aw:(((((((w.setCell (ep b 0) af).setCell (ep b 1) E).setCell (ep b 2) ae).setCell (ep b 3) H).setCell (ep b 4) aj).setCell (ep b 5) al).setCell (ep b 6) O).heap[b]? = some (.cells #[af,E,ae,H,aj,al,O] t f):=heap_set ap O;exact aw
theorem CM {k:Nat} (U:k≠b) (af E ae H aj al O:Value):(ve w b af E ae H aj al O).heap[k]? = w.heap[k]?:=
 (fa U _).trans ((fa U _).trans ((fa U _).trans ((fa U _).trans ((fa U _).trans ((fa U _).trans (fa U _))))))
theorem CN {B:Nat} (h:Below B w r) (F:B<=b) (af E ae H aj al O:Value):Below B w (ve r b af E ae H aj al O):=
 (((((((h.setCell (p:=(ep b 0)) F _).setCell (p:=(ep b 1)) F _).setCell (p:=(ep b 2)) F _).setCell (p:=(ep b 3)) F _).setCell (p:=(ep b 4)) F _).setCell (p:=(ep b 5)) F _).setCell (p:=(ep b 6)) F _)
theorem CO (b:Nat) (af E ae H aj al O:Value) (y:Bool) (u:TypeId) (iF:Value) (w:World) (bn:w.heap[b]? = some (.cells #[af,E,ae,H,aj,al,O] 62 (0,0))) (aA:w.heap[b+1]? = some (.cells #[.bool y] 4 (0,0))) :
 CallsD prog 136 #[eL b 0,.pointer (some ⟨b+1,0,none⟩)] (.panicking [{ v:=.iface u iF,recovered:=false }]) w fun e Q r=>
  e = .returned (.tuple #[])/\Q = .panicking [{ v:=.iface u iF,recovered:=true }]/\r=pV w b:=by
 have h:=fF (o:=hE ⟨#[]⟩ none 0 0 0 none 0 0 none 0 0 none 0 0 0) bn;have g:=fF (o:=hE ⟨#[]⟩ none 0 0 0 none 0 0 none 0 0 none 0 0 0) aA;obtain ⟨c,Y,a5,a7,ay,av,a6,az⟩:=f6 h
 have k:∀ j,(w.alloc pT).frozen? (ep b j)=false:=fun j=>ih h j
 have ag:(w.alloc pT).cell? ⟨b+1,0,none⟩=some (.bool y):=by rw [fU g];rfl
 have N:(w.alloc pT).frozen? ⟨b+1,0,none⟩=false:=ih g 0;obtain ⟨bH,L,K,f,i,c6,l,nz⟩:=f6 (eT w pT);have B:pV w b=((((((((w.alloc pT).setCell (ep b 0) (.string ⟨#[]⟩)).setCell (ep b 1) (eu)).setCell (ep b 2) (em 0)).setCell (ep b 3) (eu)).setCell (ep b 4) (eu)).setCell (ep b 5) (eu)).setCell (ep b 6) (em 0)).setCell ⟨b+1,0,none⟩ (.bool false):=rfl;rw [B];clear bn aA h g B
 refine callsD_of_wpS func136 rfl fun a d aI=>?_
 apply wpS_seq
 apply wpS_region
 simp [wpOpsS,go_sem,recoverD,aI,ntmps136,Exit.thenS];refine wpS_cond (t:=true) (by simp [Act.eval,Array.replicate]) ?_;simp only [if_true]
 apply wpS_seq
 apply wpS_region
 simp [wpOpsS,go_sem,Exit.thenS]
 apply wpS_region
 simp [wpOpsS,go_sem,bH,L,K,f,i,c6,l,c,Y,a5,a7,ay,av,a6,k,ag,N,bodyPostS,results,results136]
theorem caught (u:TypeId) (iF:Value) (w M:World) (af E ae H aj al O:Value) (y:Bool) (bn:M.heap[w.heap.size]? = some (.cells #[af,E,ae,H,aj,al,O] 62 (0,0))) (aA:M.heap[w.heap.size+1]? = some (.cells #[.bool y] 4 (0,0))) (ab:et w M) {R:Ending->World->Prop} (t:Array Value)
 (a6:t.getD 4 undef=eL w.heap.size 0) (ap:t.getD 5 undef = .pointer (some ⟨w.heap.size+1,0,none⟩))
 (bb:∀ x,et w x->R (.returned (.tuple #[yk,.bool false])) x) :
 Leaves prog Tryz.f95 t R [{ target:=Target.fn (Fn.func 136) #[Value.pointer (some (ep w.heap.size 0)),Value.pointer (some ⟨w.heap.size+1,0,none⟩)],args:=#[] }] (.panicking [{ v:=.iface u iF,recovered:=false }]) M:=by
 refine leaves_cons (f:=136) (d:=#[eL w.heap.size 0,.pointer (some ⟨w.heap.size+1,0,none⟩)]) (by simp) (by simp [go_sem]) ?_;refine (CO w.heap.size af E ae H aj al O y u iF M bn aA).mono ?_;rintro e Q T ⟨rfl,rfl,rfl⟩;have h:=CL (fF (o:=hE ⟨#[]⟩ none 0 0 0 none 0 0 none 0 0 none 0 0 0) bn) (.string ⟨#[]⟩) (eu) (em 0) (eu) (eu) (eu) (em 0);have c:(pV M w.heap.size).heap[w.heap.size]? = some (pT):=(fa (p:=⟨w.heap.size+1,0,none⟩) (by show w.heap.size≠w.heap.size+1;omega) _).trans h;have g:(pV M w.heap.size).heap[w.heap.size+1]? = some (.cells #[.bool false] 4 (0,0)):=heap_set ((CM (by omega) _ _ _ _ _ _ _).trans (fF (o:=hE ⟨#[]⟩ none 0 0 0 none 0 0 none 0 0 none 0 0 0) aA)) _;have F:et w (pV M w.heap.size):=(CN (ab.alloc ab.size _) (eD _) _ _ _ _ _ _ _).setCell (p:=⟨w.heap.size+1,0,none⟩) (ud _) _
 obtain ⟨bh,a9,a4,c3,am,aX,aR,_⟩:=f6 c
 have ag:(pV M w.heap.size).cell? ⟨w.heap.size+1,0,none⟩=some (.bool false):=by rw [fU g];rfl
 generalize pV M w.heap.size=Z at *
 have b:t[4]?.getD undef=eL w.heap.size 0:=by simpa using a6
 have a:t[5]?.getD undef = .pointer (some ⟨w.heap.size+1,0,none⟩):=by simpa using ap
 refine ⟨.tuple #[yk,.bool false],?_,bb Z F⟩;simp [results,results95,go_sem,b,a,bh,a9,a4,c3,am,aX,aR,ag]
end Go.Proofs.YtndkhgakfodldaaGreatDoor

namespace Go.Proofs.YtndkhgakfodldaaGreatDoor
open Go.RowKit Go.Maps Go.WideMaps
end Go.Proofs.YtndkhgakfodldaaGreatDoor

namespace Go.Proofs.YtndkhgakfodldaaGreatDoor
open Go.RowKit Go.Shelf
variable {A:Nat->Prop} {B b Y:Nat} {K:Wk} {a8:Cx} {O:List Int} {s:Sw} {f:Value} {w:World} {x:Int}
theorem eE.tailI {C:Nat} (h:eE w A (some (ep b C)) (x :: O).length (gS (x :: O))):eE w A (some ⟨b,C+1,none⟩) (Ln O) (gS O):=by
 obtain ⟨G,J,S⟩:=h;have e:gS (x :: O) = .int x :: gS O:=rfl;rw [e] at G J S;refine ⟨by simp only [iH] at G;omega,by simp only [iH] at J;omega,?_⟩
 rcases S with a6 | ⟨bA,cf,d,ab,a2,F,a1,Q⟩
 . simp at a6
 . cases ab
   unfold fB at Q;obtain ⟨v,t,rfl,_,Q⟩:=Q;refine Or.inr ⟨b,C+1,t,rfl,a2,F,fun j u ac=>?_,Q⟩;have:=a1 (j+1) u (by simpa using ac);rw [show C+1+j=C+(j+1) from by omega];exact this
theorem gA.fromIn {e:Int} {b9 S:OA} {aA g:Nat} (h:gA w B Y a8 K f s e) (Z:s.inp=x :: O) (F:w.heap[B]? = some (.cells (rG a8 K b9 aA f s e) 128 (0,0))) (X:eE w (·<Y) S (Ln O) (gS O)) (a1:Ln O<=g):gA (w.setCell (ep B 4) (.slice S (Ln O) g)) B Y a8 K f { s with inp:=O } e:=by
 have aw:=h.ro.lB;refine ⟨⟨S,g,heap_set F _,X.moves ⟨by simp,fun b _ a0=>⟨a0,fa (by show b≠B;omega) _⟩⟩,a1⟩,?_,?_,h.ro.moves (by simp) (fun b _ U _=>fa (by show b≠B;exact U) _),h.cd,h.dl,h.tl,h.tm,h.cl,h.ol⟩
 . exact (fa (by show K.D≠B;exact fun e=>h.ro.BD e.symm) _).trans h.data
 . exact il h.out (fun k N=>fa (fun e=>h.oB (by rw [N];exact congrArg some e)) _)
theorem next_any (B Y:Nat) (a8:Cx) (K:Wk) (f:Value) (s:Sw) (w:World) (h:gA w B Y a8 K f s 0) :
 ew 290 #[eL B 0] w fun e r=>Sr B6 B Y a8 K w f (nY s) e r:=by
 obtain ⟨b9,aA,F,X,a1⟩:=h.blk;have aO:=hid h
 cases Z:s.inp with
 | nil=>
   have z:Hid (nY s = .ok 0 s):=by show _=_;unfold nY;rw [Z]
   have aJ:=F;unfold rG at aJ;rw [Z] at aJ;obtain ⟨av,an,aD,aR,b3,q5,q6,q7,q8,q9,aV,qf⟩:=nS aJ;clear h F aJ X a1 Z;go_enter func290,ntmps290;go_wp2_with fail
   go_returns
   exact ⟨f,gF.refl _ _ _ _,Or.inl ⟨0,s,z,rfl,aO⟩⟩
 | cons x O=>
   have z:Hid (nY s = .ok x { s with inp:=O }):=by show _=_;unfold nY;rw [Z]
   have j:=X;rw [Z] at j;obtain ⟨b,C,rfl,ap,bh,hwx⟩:=j.num 0 (by simp);rw [Z] at a1;simp only [iH] at a1;have P:=hid j.tailI;have A:=hid (fun S g (G:eE w (·<Y) S (Ln O) (gS O)) (J:Ln O<=g)=>aO.fromIn Z F G J);have aJ:=F;unfold rG at aJ;rw [Z] at aJ;have bC:=j.bound;obtain ⟨av,an,aD,aR,b3,q5,q6,q7,q8,q9,aV,qf⟩:=nS aJ;simp only [iH,kf,oo] at b3 bh bC;clear h F aJ X j Z
   by_cases aM:aA=1
   . subst aM
     obtain rfl:O=[]:=ii (by omega);simp only [qt,hv] at b3;go_enter func290,ntmps290;go_wp2_with fail
     go_returns
     exact ⟨f,gF.grown rH,Or.inl ⟨x,_,z,rfl,A _ _ ⟨by simp [gS],by simp [gS],Or.inl rfl⟩ (by simp)⟩⟩
   . have b1:¬ aA - 1=0:=by omega
     have R:¬ aA<=1:=by omega
     go_enter func290,ntmps290;go_wp2_with fail
     go_returns
     exact ⟨f,gF.grown rH,Or.inl ⟨x,_,z,rfl,A _ _ P (by omega)⟩⟩
theorem gA.told {eq:World} {o:Obj} {n:Int} {q c:Nat} (h:gA w B Y a8 K f s 0) (af:(w.alloc o).grownBy eq f.ownBlock) (a5:f.ownBlock=some q\/q=w.heap.size+1) (aa:eq.ownsRow K.S 3 1 (.slice (some (ep q 0)) (Ln s.out+1) c) (Ln s.out+1) (intV s.out++[em n])) (a2:Ln s.out≠200) :
 gA (eq.setCell (ep B 5) (.slice (some (ep q 0)) (Ln s.out+1) c)) B Y a8 K (.slice (some (ep q 0)) (Ln s.out+1) c) { s with out:=s.out++[n] } 0/\gF B K.D f (.slice (some (ep q 0)) (Ln s.out+1) c) w (eq.setCell (ep B 5) (.slice (some (ep q 0)) (Ln s.out+1) c)):=by
 obtain ⟨b9,aA,F,X,a1⟩:=h.blk;have ap:=lt_of_heap F;have I:=lt_of_heap h.data
 have k:∀ b,b<w.heap.size->f.ownBlock≠some b->eq.heap[b]? = w.heap[b]?:=fun b F U=>(af.block b (by simp;omega) (fun e=>U e.symm)).trans ((ey w o).block b F)
 have a:q≠B:=by
  rcases a5 with e | e
  . exact fun x=>h.oB (by rw [e,x])
  . omega
 have i:q≠K.D:=by
  rcases a5 with e | e
  . exact fun x=>h.oD (by rw [e,x])
  . omega
 have g:=h.ro.zS;have j:=h.ro.BS;have d:=h.ro.lB
 have Z:∀ b,b<K.S->eq.heap[b]? = w.heap[b]?:=fun b a0=>k b (by omega) (fun e=>by have:=(h.out.lt b e).1;omega)
 have O:w.heap.size<=eq.heap.size:=iC (by simp) af.size;have t:=h.ol;refine ⟨⟨⟨b9,aA,?_,X.moves ⟨by simpa using O,fun b aJ a0=>⟨a0,(fa (by show b≠B;omega) _).trans (Z b (by omega))⟩⟩,a1⟩,?_,?_,h.ro.moves (by simpa using O) (fun b G U _=>(fa (by show b≠B;exact U) _).trans (Z b G)),h.cd,h.dl,h.tl,h.tm,h.cl,?_⟩,⟨af.os,af.tape,af.output,by simpa using O,fun b G J _ a6=>(fa (by show b≠B;exact J) _).trans (k b G a6),fun x e Q=>?_⟩⟩
 . exact heap_set ((k B ap h.oB).trans F) _
 . exact (fa (by show K.D≠B;exact fun e=>h.ro.BD e.symm) _).trans ((k K.D I h.oD).trans h.data)
 . show (eq.setCell _ _).ownsRow K.S 3 1 _ (s.out++[n]).length (intV (s.out++[n]))
   rw [gn,wQ,CD];exact il aa (fun k N=>fa (fun e=>a ((fe N).trans e)) _)
 . show (s.out++[n]).length<=200
   rw [gn,wQ];omega
 . obtain rfl:q=x:=fe e
   rcases a5 with G | G
   . exact G
   . omega
theorem tell_any (B Y:Nat) (a8:Cx) (K:Wk) (f:Value) (s:Sw) (n:Int) (w:World) (h:gA w B Y a8 K f s 0) :
 ew 266 #[eL B 0,em n] w fun e r=>Sr xU B Y a8 K w f (pY n s) e r:=by
 obtain ⟨b9,aA,F,_,_⟩:=h.blk;obtain ⟨a,q,hvo,_,_⟩:=im h.out;obtain ⟨av,an,aD,aR,b3,q5,q6,q7,q8,q9,aV,qf⟩:=nS F;have t:=h.ol;have aO:=hid h
 by_cases aj:Ln s.out=200
 . have z:Hid (pY n s = .stop 5 s):=if_pos aj
   have aJ:=hid (stop_any B Y a8 K f s 5 w h);subst hvo;rw [aj] at q5;clear h F;go_enter func266,ntmps266;go_wp2_with fail;refine aJ.mono ?_;rintro e eq ⟨rfl,af,aq⟩;exact ⟨rfl,_,gF.grown af,Or.inr ⟨5,s,z,rfl,aq⟩⟩
 . have z:Hid (pY n s = .ok () { s with out:=s.out++[n] }):=if_neg aj
   have i:¬ (Ln s.out:Int)=200:=by omega
   have l:((Ln s.out:Int) == 200)=false:=by rw [beq_eq_false_iff_ne];exact i
   obtain ⟨bx,X,al,b0,bl⟩:=info_parts Tryz.infoInt;have b:=hid (ownsRow_later h.out (ey w (.cells #[em n] 3)));have k:K.S<=w.heap.size:=h.ro.zS;subst hvo;have g:=hid (fun eq R c af a5 aa=>h.told (eq:=eq) (o:=.cells #[em n] 3) (n:=n) (q:=R) (c:=c) af a5 aa aj);have d:=hid (fun eq (af:(w.alloc (.cells #[em n] 3)).grownBy eq (Value.ownBlock (.slice a (Ln s.out) q)))=>(af.block B (by simp;omega) (fun e=>h.oB e.symm)).trans (((ey w (.cells #[em n] 3)).block B (lt_of_heap F)).trans F));clear h F;go_enter func266,ntmps266
   go_wp2_with (at_builtin;refine wpList_append_lies _ rfl (.tmp 16) (.tmp 18) _ rfl K.S 3 bx _ 1 8 Tryz.underlying49 X al b0 bl rfl (by omega) (.slice a (Ln s.out) q) (Ln s.out) (intV s.out) rfl b (ep _ 0) 1 1 [em n] rfl rfl (Fx.zme (by simp)) (by simp;rfl) (by omega) (by unfold maxLen;omega) (by omega) (by simp;omega) _ rfl ?_;intro q9' L eq hown1 af a5 a1;have P:=hid (g eq q9' L af (by simpa using a5) hown1);have bn:=d eq af;obtain ⟨a6,be,fE,gq,sR,uP,xW,Cd,p8,p9,a7,j⟩:=nS bn;clear bn hown1 af a5)
   go_end0;exact ⟨_,P.2,Or.inl ⟨(),_,z,rfl,P.1⟩⟩
def Cl (w:World) (B C u:Nat) (lv:Value) (ret:Int):Prop:=w.heap[C]? = some (.cells #[eL B 0,em u,lv,em ret] 257 (0,0))
theorem CP {af E ae H:Value} {t:TypeId} (h:w.heap[b]? = some (.cells #[af,E,ae,H] t (0,0))) :
 w.cell? (ep b 0)=some af/\w.cell? (ep b 1)=some E/\w.cell? (ep b 2)=some ae/\w.cell? (ep b 3)=some H/\b<w.heap.size/\∀ j,w.frozen? (ep b j)=false:=by
 refine ⟨?_,?_,?_,?_,lt_of_heap h,fun j=>ih h j⟩<;>(rw [fU h];rfl)
theorem eE.row {a:OA} {l:List (List Nat)} (h:eE w A a (Ln l) (qK l)) (i:Nat) (X:i<Ln l):∃ b C Y ak,a=some (ep b C)/\b<w.heap.size/\w.cell? ⟨b,C+i,none⟩=some (.slice Y (Ln l[i]) ak)/\eE w A Y (Ln l[i]) (gS (oP l[i])):=by
 obtain ⟨b,C,ab,F,a1⟩:=h.cell (by omega);obtain ⟨v,a7,ez⟩:=a1 i (.list (Ln l[i]) (gS (oP l[i]))) (by simp [qK,X]);obtain ⟨Y,ak,rfl,G⟩:=hY ez;exact ⟨b,C,Y,ak,ab,F,a7,G⟩
end Go.Proofs.YtndkhgakfodldaaGreatDoor

namespace Go.Proofs.YtndkhgakfodldaaGreatDoor
def sY (a8:Cx) (u p:Nat) (m g n:Int):Prop:=
 0<=m/\0<=g/\∃ (G:u<Ln a8.near) (J:m.toNat<Ln a8.near[u]) (S:a8.near[u][m.toNat]<Ln a8.beg),0<=a8.beg[a8.near[u][m.toNat]]/\a8.beg[a8.near[u][m.toNat]]+g+n<=p
def yl (a8:Cx) (u k:Nat) (m g:Int):Prop:=
 0<=m/\0<=g/\∃ (G:u<Ln a8.near) (J:m.toNat<Ln a8.near[u]) (S:a8.near[u][m.toNat]<Ln a8.us) (a6:g.toNat<a8.us[a8.near[u][m.toNat]].parts.length),(a8.us[a8.near[u][m.toNat]].parts[g.toNat]).params=k
def rM (a8:Cx) (u m p:Nat):Nat->eH->Prop
 | 0,_=>False
 | k+1,x=>
   x.op=1\/x.op=2\/(x.op=16/\0<=x.at_/\x.at_<m)\/(x.op=3/\sY a8 u p x.m x.at_ 1)
   \/(x.op=4/\1<=x.n/\sY a8 u p x.m x.at_ x.n/\Ln x.args=1/\∀ o ∈ x.args,rM a8 u m p k o)
   \/(x.op=5/\yl a8 u (Ln x.args) x.m x.at_/\∀ o ∈ x.args,rM a8 u m p k o)
   \/(x.op=6/\Ln x.args=1/\∀ o ∈ x.args,rM a8 u m p k o)
   \/(7<=x.op/\x.op<=15/\Ln x.args=2/\∀ o ∈ x.args,rM a8 u m p k o)
def rN (a8:Cx) (u m p:Nat):Nat->eB->Prop
 | 0,_=>False
 | k+1,a=>
   (∀ o ∈ a.args,rM a8 u m p 6 o)/\
   ((a.op=1/\Ln a.args=1/\((a.m = -1/\0<=a.at_/\a.at_<m)\/(a.m≠-1/\sY a8 u p a.m a.at_ 1)))
   \/(a.op=2/\Ln a.args=2/\1<=a.n/\sY a8 u p a.m a.at_ a.n)
   \/(a.op=3/\yl a8 u (Ln a.args) a.m a.at_)
   \/(a.op=4/\Ln a.args=1/\(∀ b ∈ a.body,rN a8 u m p k b)/\∀ b ∈ a.other,rN a8 u m p k b)
   \/(a.op=5/\Ln a.args=1/\∀ b ∈ a.body,rN a8 u m p k b)
   \/(a.op=6/\Ln a.args=1)\/(a.op=7/\Ln a.args=1))
def Lo (w:World) (lv:Value) (L:Nat) (t:List Int):Prop:=(t=[]/\∃ a,lv = .slice a 0 0)\/(lv = .slice (some (ep L 0)) (Ln t) (Ln t)/\w.heap[L]? = some (.cells (intV t).toArray 3 (0,0)))
theorem gF.keep {B D b:Nat} {f y:Value} {w r:World} {x:Obj} (h:gF B D f y w r) (F:w.heap[b]? = some x) (G:b≠B) (J:b≠D) (S:f.ownBlock≠some b):r.heap[b]? = some x/\y.ownBlock≠some b:=
 ⟨(h.block b (lt_of_heap F) G J S).trans F,fun e=>S (h.own b e (lt_of_heap F))⟩
end Go.Proofs.YtndkhgakfodldaaGreatDoor

namespace Go.Proofs.YtndkhgakfodldaaGreatDoor
open Go.RowKit Go.Shelf
variable {B D q a b Y i j n m:Nat} {K:Wk} {Z:Nat->Prop} {d:List eH} {a8:Cx} {e k ret v:Int} {t p:List Int} {cb:Obj} {g:Bool × Fr->Value} {s s' b3:Sw} {f y x:Value} {w r w0 wr:World} {α l:Type}
abbrev En (a8:Cx) (n:Nat):nu:=(oY a8 n).ent
structure Ca where
 C:Nat
 u:Nat
 lv:Value
 L:Nat
structure iu (n:Nat) (w:World) (B base:Nat) (cx:Cx) (K:Wk) (vo:Value) (s:Sw) (c:Ca) (loc:List Int) (ret:Int):Prop where
 wd:gA w B base cx K vo s 0
 cl:Cl w B c.C c.u c.lv ret
 lo:Lo w c.lv c.L loc
 cS:K.S<=c.C
 cO:vo.ownBlock≠some c.C
 lS:K.S<=c.L
 lz:c.L<w.heap.size
 la:loc=[]\/(c.L≠c.C/\vo.ownBlock≠some c.L)
 fu:cx.lim+1<=s.ticks+n
theorem Lo.moves {lv:Value} {L:Nat} (h:Lo w lv L t) (N:t=[]\/r.heap[L]? = w.heap[L]?):Lo r lv L t:=by
 rcases h with h | ⟨G,J⟩
 . exact Or.inl h
 . rcases N with rfl | N
   . exact Or.inl ⟨rfl,_,G⟩
   . exact Or.inr ⟨G,N.trans J⟩
theorem Lo.len {lv:Value} {L:Nat} (h:Lo w lv L t):∃ a,lv = .slice a (Ln t) (Ln t):=by
 rcases h with ⟨rfl,a,h⟩ | ⟨G,J⟩
 . exact ⟨a,h⟩
 . exact ⟨_,G⟩
theorem iu.ne {c:Ca} (h:iu n w B Y a8 K f s c t ret):c.C≠B/\c.C≠K.D/\Y<=c.C/\B<w.heap.size/\K.D<w.heap.size:=by
 have G:=h.cS;have J:=h.wd.ro.BS;have S:=h.wd.ro.DS;have a6:=h.wd.ro.lB;have ap:=h.wd.ro.zS;omega
theorem Lo.lt {lv:Value} {L:Nat} (h:Lo w lv L t):t=[]\/L<w.heap.size:=by
 rcases h with ⟨h,_⟩ | ⟨_,J⟩
 . exact Or.inl h
 . exact Or.inr (lt_of_heap J)
theorem iu.on {c:Ca} (h:iu n w B Y a8 K f s c t ret) (ag:gF B K.D f y w r) (aq:gA r B Y a8 K y s' 0) (aj:s.ticks<=s'.ticks):iu n r B Y a8 K y s' c t ret:=by
 have U:=h.ne;have C:=h.fu;obtain ⟨ak,au⟩:=ag.keep h.cl U.1 U.2.1 h.cO;have G:=h.lS;refine ⟨aq,ak,h.lo.moves ?_,h.cS,au,G,gl h.lz ag.size,?_,by omega⟩
 . rcases h.la with e | ⟨J,S⟩
   . exact Or.inl e
   . rcases h.lo.lt with e | a2
     . exact Or.inl e
     . have:=h.wd.ro.BS
       have:=h.wd.ro.DS;exact Or.inr (ag.block _ a2 (by omega) (by omega) S)
 . rcases h.la with e | ⟨J,S⟩
   . exact Or.inl e
   . rcases h.lo.lt with e | a2
     . exact Or.inl e
     . exact Or.inr ⟨J,fun e=>S (ag.own _ e a2)⟩
theorem iu.below {c:Ca} (h:iu n w B Y a8 K f s c t ret) (F:et w r):iu n r B Y a8 K f s c t ret:=h.on (gF.below F) (h.wd.below F) (eD _)
theorem iu.step {g:α->Value} {c:Ca} {l:Sw->Rr α} {e:Ending} (h:iu n w B Y a8 K f s c t ret) (N:Kp l) (W:Sr g B Y a8 K w f (l s) e r) :
 (∃ k s' y,l s = .stop k s'/\e = .panicked (qL k)/\gF B K.D f y w r/\gA r B Y a8 K y s' k)\/(∃ a s' y,l s = .ok a s'/\e = .returned (g a)/\gF B K.D f y w r/\iu n r B Y a8 K y s' c t ret):=by
 obtain ⟨y,ag,⟨a,s',W,ah,aq⟩ | ⟨k,s',W,ah,aq⟩⟩:=W
 . refine Or.inr ⟨a,s',y,W,ah,ag,h.on ag aq ?_⟩
   have:=(N s).2.2.2;rw [W] at this;exact this
 . exact Or.inl ⟨k,s',y,W,ah,ag,aq⟩
theorem Sr.ok {g:α->Value} {O:Rr α} {a:α} (ag:gF B K.D f y w r) (W:O = .ok a s) (aq:gA r B Y a8 K y s 0):Sr g B Y a8 K w f O (.returned (g a)) r:=⟨y,ag,Or.inl ⟨a,s,W,rfl,aq⟩⟩
theorem Sr.no {g:α->Value} {O:Rr α} (ag:gF B K.D f y w r) (W:O = .stop k s) (aq:gA r B Y a8 K y s k):Sr g B Y a8 K w f O (.panicked (qL k)) r:=⟨y,ag,Or.inr ⟨k,s,W,rfl,aq⟩⟩
theorem eE.fm {a:OA} {m:Nat} {l:List D} (h:eE w (·<Y) a m l) (ag:gF B q f y w r) (G:Y<=B) (J:Y<=q) (S:∀ k,f.ownBlock=some k->Y<=k):eE r (·<Y) a m l:=
 h.moves ⟨ag.size,fun b F a2=>⟨a2,ag.block b F (by omega) (by omega) (fun e=>by have:=S b e;omega)⟩⟩
theorem gA.cell (h:gA w B Y a8 K f s e) (i:Nat) (X:i<Ln s.data):w.cell? (ep K.D i)=some (em (s.data.getD i 0)):=by
 rw [fU h.data,wR];simp [intV,X]
theorem Lo.cell {lv:Value} {L:Nat} (h:Lo w lv L t) (i:Nat) (X:i<Ln t):lv = .slice (some (ep L 0)) (Ln t) (Ln t)/\L<w.heap.size/\w.cell? (ep L i)=some (em (t.getD i 0)):=by
 rcases h with ⟨rfl,_⟩ | ⟨G,J⟩
 . simp at X
 . refine ⟨G,lt_of_heap J,?_⟩
   rw [fU J,wR];simp [intV,X]
theorem gA.top (h:gA w B Y a8 K f s e):w.cell? (ep B 3)=some (.slice (some (ep K.D 0)) K.cd K.cd)/\B<w.heap.size/\K.D<w.heap.size:=by
 obtain ⟨b9,aA,F, -, -⟩:=h.blk;obtain ⟨av,an,aD,aR, -⟩:=nS F;refine ⟨?_,lt_of_heap F,lt_of_heap h.data⟩;rw [aR,h.cd]
def reckV:Option Int->Value
 | some n=>.tuple #[.int .i64 n,.bool true]
 | none=>.tuple #[.int .i64 0,.bool false]
def part (p a b:Int):Option Int:=if b=0 then none else if p=12 then some (wrap64 (a.tdiv b)) else if p=13 then some (a.tmod b) else none
theorem parted_any (p a b:Int) (w:World) :
 ew 292 #[em p,em a,em b] w fun d r=>d = .returned (reckV (part p a b))/\r=w:=by
 by_cases F:b=0
 . have A:Hid (part p a b=none):=if_pos F
   subst F;go_enter func292,ntmps292;go_wp2_with fail;go_ret2;exact ⟨by rw [A.out];rfl,rfl⟩
 have aJ:(b == 0)=false:=beq_eq_false_iff_ne.2 F
 by_cases c:p=12
 . have A:Hid (part p a b=some (wrap64 (a.tdiv b))):=(if_neg F).trans (if_pos c)
   subst c;go_enter func292,ntmps292;go_wp2_with fail;go_ret2;exact ⟨by rw [A.out];rfl,rfl⟩
 have g:(p == 12)=false:=beq_eq_false_iff_ne.2 c
 by_cases e:p=13
 . have A:Hid (part p a b=some (a.tmod b)):=(if_neg F).trans ((if_neg c).trans (if_pos e))
   subst e;go_enter func292,ntmps292;go_wp2_with fail;go_ret2;exact ⟨by rw [A.out];rfl,rfl⟩
 have f:(p == 13)=false:=beq_eq_false_iff_ne.2 e;have A:Hid (part p a b=none):=(if_neg F).trans ((if_neg c).trans (if_neg e));clear F c e;go_enter func292,ntmps292;go_wp2_with fail;go_ret2;exact ⟨by rw [A.out];rfl,rfl⟩
theorem iu.keepS {c:Ca} (h:iu n w B Y a8 K f s c t ret) (ag:gF B K.D f y w r) {x:Obj} (F:w.heap[b]? = some x) (g:K.S<=b) (aa:f.ownBlock≠some b):r.heap[b]? = some x/\y.ownBlock≠some b:=by
 have G:=h.wd.ro.BS;have J:=h.wd.ro.DS;exact ag.keep F (by omega) (by omega) aa
theorem iu.new {c:Ca} (h:iu n w B Y a8 K f s c t ret):K.S<=w.heap.size/\f.ownBlock≠some w.heap.size:=
 ⟨h.wd.ro.zS,fun e=>by have:=(h.wd.out.lt _ e).2;omega⟩
theorem bind_ok {O:Rr α} {a:α} {f:α->Sw->Rr l} (h:O = .ok a s):O.bind f=f a s:=by rw [h];rfl
theorem ym {O:Rr α} {f:α->Sw->Rr l} (h:O = .stop e s):O.bind f = .stop e s:=by rw [h];rfl
section
variable (E:nu) (a8:Cx) (u:Nat) (t:List Int) (k:Nat) (cP m g:Int) (d:List eH) (s:Sw)
end
structure hN (B D:Nat) (X:Nat->Prop) (vo vo':Value) (w w':World):Prop where
 os:w'.os=w.os
 tape:w'.tape=w.tape
 output:w'.output=w.output
 size:w.heap.size<=w'.heap.size
 block:∀ b,b<w.heap.size->b≠B->b≠D->¬ X b->vo.ownBlock≠some b->w'.heap[b]? = w.heap[b]?
 own:∀ k,vo'.ownBlock=some k->k<w.heap.size->vo.ownBlock=some k
theorem gF.gm (h:gF B D f y w r):hN B D Z f y w r:=⟨h.os,h.tape,h.output,h.size,fun b G J S _ ap=>h.block b G J S ap,h.own⟩
theorem hN.fm (h:hN B D Z f y w r) (Q:∀ b,Z b->w.heap.size<=b):gF B D f y w r:=⟨h.os,h.tape,h.output,h.size,fun b G J S ap=>h.block b G J S (fun x=>by have:=Q b x;omega) ap,h.own⟩
theorem hN.trans {aK aN aY:Value} {a b c:World} (h:hN B D Z aK aN a b) (k:hN B D Z aN aY b c):hN B D Z aK aY a c:=
 ⟨k.os.trans h.os,k.tape.trans h.tape,k.output.trans h.output,iC h.size k.size,fun x Q G J a6 S=>(k.block x (gl Q h.size) G J a6 (fun e=>S (h.own x e Q))).trans (h.block x Q G J a6 S),fun x e Q=>h.own x (k.own x e (gl Q h.size)) Q⟩
theorem hN.cell {u:Value} (Q:Z b):hN B D Z f f w (w.setCell (ep b i) u):=⟨rfl,rfl,rfl,by simp,fun k _ _ _ a6 _=>fa (fun e=>a6 (by rw [show k=b from e];exact Q)) u,fun _ h _=>h⟩
theorem hN.mono {u:Nat->Prop} (h:hN B D Z f y w r) (Q:∀ b,Z b->u b):hN B D u f y w r:=⟨h.os,h.tape,h.output,h.size,fun b G J S a6 ap=>h.block b G J S (fun x=>a6 (Q b x)) ap,h.own⟩
def Sx (g:α->Value) (B Y:Nat) (a8:Cx) (K:Wk) (Z:Nat->Prop) (w:World) (f:Value) (O:Rr α) (e:Ending) (r:World):Prop:=
 ∃ y,hN B K.D Z f y w r/\((∃ a s,O = .ok a s/\e = .returned (g a)/\gA r B Y a8 K y s 0)\/(∃ c s,O = .stop c s/\e = .panicked (qL c)/\gA r B Y a8 K y s c))
def CQ (n B Y:Nat) (a8:Cx) (K:Wk):Prop:=∀ (u:Nat) (U:List eB) (b7:OA) (V:Nat) (lv:Value) (b:Nat) (t:List Int) (f:Value) (s:Sw) (w:World),gA w B Y a8 K f s 0->a8.lim+1<=s.ticks+n->Lo w lv b t->K.S<=b->(t=[]\/f.ownBlock≠some b)->u<Ln a8.us->eE w (·<Y) b7 (Ln U) (f9 U)->(∀ a ∈ U,rN a8 u (Ln t) K.cd 6 a)->
 ew 125 #[eL B 0,em u,.slice b7 (Ln U) V,lv] w fun e r=>Sx B6 B Y a8 K (·=b) w f (En a8 n u U t s) e r
theorem gA.far (h:gA w B Y a8 K f s e) {L:Nat} (am:K.S<=L) (aa:f.ownBlock≠some L) (u:Value):gA (w.setCell (ep L i) u) B Y a8 K f s e:=by
 obtain ⟨b9,aA,ab,X,a1⟩:=h.blk;have G:=h.ro.BS;have J:=h.ro.DS;have S:=h.ro.lB;exact ⟨⟨b9,aA,(fa (by show B≠L;omega) u).trans ab,X.moves ⟨by simp,fun b _ a2=>⟨a2,fa (by show b≠L;omega) u⟩⟩,a1⟩,(fa (by show K.D≠L;omega) u).trans h.data,il h.out (fun k N=>fa (fun e=>aa (by rw [N];exact congrArg some e)) u),h.ro.moves (by simp) (fun b F _ _=>fa (by show b≠L;omega) u),h.cd,h.dl,h.tl,h.tm,h.cl,h.ol⟩
theorem yn (f:eH->Sw->Rr Int):∀ (a b:List eH) (s:Sw),iZ f (a++b) s=(iZ f a s).bind fun p s=>(iZ f b s).bind fun B s=>.ok (p++B) s
 | [],b,s=>by
   show iZ f b s=(iZ f b s).bind fun B s=>.ok B s
   cases iZ f b s<;>rfl
 | x :: O,b,s=>by
   show (f x s).bind _=((f x s).bind _).bind _
   cases f x s with
   | stop e t=>rfl
   | ok v t=>
     show (iZ f (O++b) t).bind _=((iZ f O t).bind _).bind _;rw [yn f O b t]
     cases iZ f O t with
     | stop e t=>rfl
     | ok p t=>
       show ((iZ f b t).bind _).bind _=(iZ f b t).bind _
       cases iZ f b t<;>rfl
theorem CR (f:eH->Sw->Rr Int) (x:eH) (s:Sw):iZ f [x] s=(f x s).bind fun v s=>.ok [v] s:=rfl
theorem CS {f:eH->Sw->Rr Int} {l:List eH} {t q:Sw} (ac:j<Ln l) (h:iZ f (l.take j) s = .ok p t) (a7:f l[j] t = .ok v q):iZ f (l.take (j+1)) s = .ok (p++[v]) q:=by
 rw [hI ac,yn,h];show (iZ f [l[j]] t).bind _=_;rw [CR,a7]
 rfl
theorem CT (p:List Int) (n:Nat) (v:Int) (h:Ln p<n):(oX p n).set (Ln p) v=oX (p++[v]) n:=by
 unfold oX;rw [List.set_append_right _ _ (eD _),Nat.sub_self,mT,gn,wQ,show n - Ln p=(n - (Ln p+1))+1 from by omega,List.replicate_succ,gE,tW]
 rfl
structure Pc (n B base:Nat) (cx:Cx) (K:Wk) (vo0:Value) (w0:World) (c:Ca) (loc:List Int) (ret:Int) (L Pb:Nat) (px:Obj) (nl:Nat) (F:eH->Sw->Rr Int) (args:List eH) (s0:Sw) (j:Nat) (wr:World) (vo:Value) (s:Sw) (vs:List Int):Prop where
 cn:iu n wr B base cx K vo s c loc ret
 fm:gF B K.D vo0 vo w0 wr
 lo:wr.heap[L]? = some (.cells (intV (oX vs nl)).toArray 3 (0,0))
 pb:wr.heap[Pb]? = some px
 lO:vo.ownBlock≠some L
 pO:vo.ownBlock≠some Pb
 vl:Ln vs=j
 ar:iZ F (args.take j) s0 = .ok vs s
theorem Pc.alloc {c:Ca} {L:Nat} {l:eH->Sw->Rr Int} (h:Pc n B Y a8 K x w0 c t ret L a cb m l d b3 j wr f s p) (o:Obj):Pc n B Y a8 K x w0 c t ret L a cb m l d b3 j (wr.alloc o) f s p:=
 ⟨h.cn.below (ey wr o),h.fm.trans (gF.below (ey wr o)),((ey wr o).block _ (lt_of_heap h.lo)).trans h.lo,((ey wr o).block _ (lt_of_heap h.pb)).trans h.pb,h.lO,h.pO,h.vl,h.ar⟩
theorem Pc.next {c:Ca} {L:Nat} {l:eH->Sw->Rr Int} {eq:World} {i:Value} {D:Sw} (h:Pc n B Y a8 K x w0 c t ret L a cb m l d b3 j wr f s p) (ag:gF B K.D f i wr eq) (a1:iu n eq B Y a8 K i D c t ret) (ac:j<Ln d) (U:j<m) (W:l d[j] s = .ok v D) (am:K.S<=L) (o:w0.heap.size<=L) (bp:K.S<=a) (k:L≠a) (r:c.C≠L) (q:t=[]\/c.L≠L) :
 eq.heap[L]? = some (.cells (intV (oX p m)).toArray 3 (0,0))/\Pc n B Y a8 K x w0 c t ret L a cb m l d b3 (j+1) (eq.setCell (ep L j) (em v)) i D (p++[v]):=by
 obtain ⟨ak,au⟩:=h.cn.keepS ag h.lo am h.lO;obtain ⟨aI,bq⟩:=h.cn.keepS ag h.pb bp h.pO;refine ⟨ak,?_,?_,?_,?_,au,bq,by rw [gn,h.vl];rfl,CS ac h.ar W⟩
 . refine ⟨a1.wd.far am au _,(fa (by show c.C≠L;exact r) _).trans a1.cl,a1.lo.moves ?_,a1.cS,a1.cO,a1.lS,by simpa using a1.lz,a1.la,a1.fu⟩
   rcases q with e | e
   . exact Or.inl e
   . exact Or.inr (fa e _)
 . have g:hN B K.D (·=L) x i w0 (eq.setCell (ep L j) (em v)):=(h.fm.trans ag).gm.trans (hN.cell rfl)
   exact g.fm (fun b e=>by rw [show b=L from e];exact o)
 . rw [heap_set ak,gD]
   have e:(intV (oX p m)).set j (em v)=intV (oX (p++[v]) m):=by
    rw [← CT p m v (by rw [h.vl];exact U),h.vl];simp [intV,List.map_set]
   rw [e]
 . exact (fa (by show a≠L;exact fun e=>k e.symm) _).trans aI
abbrev Wn (a8:Cx) (n:Nat):rQ:=(oY a8 n).whl
def sZ (c:Ca) (b:Nat):Prop:=b=c.C\/b=c.L
def yo (d:Bool × Fr):Value:=.bool d.1
def Sa (g:Bool × Fr->Value) (n B Y:Nat) (a8:Cx) (K:Wk) (c:Ca) (w:World) (f:Value) (O:Rr (Bool × Fr)) (e:Ending) (r:World):Prop:=
 ∃ y,hN B K.D (sZ c) f y w r/\((∃ k s,O = .stop k s/\e = .panicked (qL k)/\gA r B Y a8 K y s k)\/(∃ o s,O = .ok o s/\e = .returned (g o)/\iu n r B Y a8 K y s c o.2.loc o.2.ret))
theorem Sa.ok {c:Ca} {O:Rr (Bool × Fr)} {b:Bool} (ag:hN B K.D (sZ c) f y w r) (W:O = .ok (b,⟨t,ret⟩) s) (aq:iu n r B Y a8 K y s c t ret):Sa g n B Y a8 K c w f O (.returned (g (b,⟨t,ret⟩))) r:=⟨y,ag,Or.inr ⟨_,s,W,rfl,aq⟩⟩
theorem Sa.no {c:Ca} {O:Rr (Bool × Fr)} (ag:hN B K.D (sZ c) f y w r) (W:O = .stop k s) (aq:gA r B Y a8 K y s k):Sa g n B Y a8 K c w f O (.panicked (qL k)) r:=⟨y,ag,Or.inl ⟨k,s,W,rfl,aq⟩⟩
theorem iu.len {o:Nat} {c:Ca} {b:List Int} {d:Int} (h:iu n w B Y a8 K f s c t ret) (q:iu o r B Y a8 K y s' c b d):Ln b=Ln t:=by
 obtain ⟨a,e⟩:=h.lo.len;obtain ⟨ad,A⟩:=q.lo.len;rw [e] at A;simp only [Value.slice.injEq] at A;exact A.2.1.symm
def CU (n B Y:Nat) (a8:Cx) (K:Wk) (k:Nat) (l:List eB):Prop:=∀ (c:Ca) (t:List Int) (ret:Int) (f:Value) (s:Sw) (a:OA) (i:Nat) (w:World),iu n w B Y a8 K f s c t ret->eE w (·<Y) a (Ln l) (f9 l)->(∀ x ∈ l,rN a8 c.u (Ln t) K.cd k x)->
 ew 168 #[eL c.C 0,.slice a (Ln l) i] w fun e r=>Sa yo n B Y a8 K c w f (lC (l5 (En a8 n) (Wn a8 n) a8 c.u k) l ⟨t,ret⟩ s) e r
theorem hN.refl (B D:Nat) (Z:Nat->Prop) (f:Value) (w:World):hN B D Z f f w w:=(gF.refl B D f w).gm
def yp (B:Nat) (w:World):Nat:=match w.cell? ⟨B,7,none⟩ with
 | some (.int _ t)=>t.toNat
 | _=>0
theorem gA.tk (h:gA w B Y a8 K f s e):yp B w=s.ticks:=by
 obtain ⟨b9,aA,F, -, -⟩:=h.blk;obtain ⟨av,an,aD,aR,b3,q5,q6,q7, -⟩:=nS F;unfold yp;rw [q7];exact mT _
theorem CV (a8:Cx) (n u k:Nat) (l:List eB) (c:Fr):Cq (lC (l5 (En a8 n) (Wn a8 n) a8 u k) l c):=qR (td a8.lim a8.lim) (n:=0) (tc (td a8.lim a8.lim) (vt a8 n).ent a8 a8.lim (vt a8 n).whl u k) l c
theorem CW (a8:Cx) (n u:Nat) (U:List eB) (t:List Int) (s:Sw):En a8 (n+1) u U t s=(l2 a8.lim s).bind fun _ s=>if s.calls=24 then .stop 4 s else (lC (l5 (En a8 n) (Wn a8 n) a8 u 6) U ⟨t,0⟩ { s with calls:=s.calls+1 }).bind fun o s=>.ok o.2.ret { s with calls:=s.calls - 1 }:=by
 unfold En Wn;rw [yE]
 rfl
theorem gA.call {lv:Value} {L u:Nat} (h:gA w B Y a8 K f s 0) (ag:a8.lim+1<=s.ticks+n) (am:Lo w lv L t) (g:K.S<=L) (aQ:t=[]\/f.ownBlock≠some L) :
 ∃ c:Ca,c.C=w.heap.size/\c.u=u/\c.lv=lv/\(c.L=c.C\/c.L=L)/\iu n (w.alloc (.cells #[eL B 0,em u,lv,em 0] 257)) B Y a8 K f s c t 0:=by
 have aS:=h.ro.zS
 have aa:f.ownBlock≠some w.heap.size:=fun e=>by have:=(h.out.lt _ e).2;omega
 have b0:Cl (w.alloc (.cells #[eL B 0,em u,lv,em 0] 257)) B w.heap.size u lv 0:=heap_alloc_new w _
 have M:Lo (w.alloc (.cells #[eL B 0,em u,lv,em 0] 257)) lv L t:=am.moves (by
  rcases am.lt with e | e
  . exact Or.inl e
  . exact Or.inr ((ey w _).block L e))
 by_cases a2:t=[]
 . subst a2
   refine ⟨⟨w.heap.size,u,lv,w.heap.size⟩,rfl,rfl,rfl,Or.inl rfl,h.below (ey w _),b0,?_,aS,aa,aS,by simp,Or.inl rfl,ag⟩;obtain ⟨a,e⟩:=am.len;exact Or.inl ⟨rfl,a,e⟩
 . have a0:=am.lt.resolve_left a2
   exact ⟨⟨w.heap.size,u,lv,L⟩,rfl,rfl,rfl,Or.inr rfl,h.below (ey w _),b0,M,aS,aa,g,by simp;omega,Or.inr ⟨by show L≠w.heap.size;omega,aQ.resolve_left a2⟩,ag⟩
theorem hN.drop {L z:Nat} {c:Ca} (h:hN B q (sZ c) f y w r) (G:c.C=z) (J:c.L=c.C\/c.L=L) (S:w0.heap.size<=z):hN B q (fun b=>b=L\/w0.heap.size<=b) f y w r:=h.mono (fun b e=>by
 rcases e with e | e
 . exact Or.inr (by omega)
 . rcases J with A | A
   . exact Or.inr (by omega)
   . exact Or.inl (by omega))
theorem hN.lop {L:Nat} (h:hN B q (fun b=>b=L\/w.heap.size<=b) f y w r):hN B q (·=L) f y w r:=⟨h.os,h.tape,h.output,h.size,fun b G J S a6 ap=>h.block b G J S (fun e=>by rcases e with e | e;exact a6 e;omega) ap,h.own⟩
theorem enter_any (ab:∀ l,CU n B Y a8 K 6 l):CQ (n+1) B Y a8 K:=by
 intro u U b7 V lv L t f s w aq C hLo hLS hLO aI ax ay;obtain ⟨ae,rfl⟩:=hLo.len;rw [CW]
 obtain ⟨bQ,hR0⟩:∃ bQ:Rr Int,bQ=(l2 a8.lim s).bind fun _ s=>if s.calls=24 then .stop 4 s else (lC (l5 (En a8 n) (Wn a8 n) a8 u 6) U ⟨t,0⟩ { s with calls:=s.calls+1 }).bind fun o s=>.ok o.2.ret { s with calls:=s.calls - 1 }:=⟨_,rfl⟩
 have q:=hid hR0;rw [← hR0];have P:=hid (tick_any B Y a8 K f s w aq);have ad:=hid ab;have aK:=hid ax;have aF:=hid ay;have H:=hid hLo;have b:=hid aq;have M:=hid hLO;have a0:=hid C;have N:=hid hLS;clear aq C hLo hLO aI ax ay ab hR0 hLS;go_enter func125,ntmps125;go_wp2_with fail;refine P.mono ?_;rintro e eq ⟨i,ag,Q⟩
 rcases Q.symm with ⟨m,D,W,rfl,b8⟩ | ⟨a,D,W,rfl,b8⟩
 . exact ⟨rfl,i,ag.gm,Or.inr ⟨m,D,q.trans (ym W),rfl,b8⟩⟩
 . have X:w.heap.size<=eq.heap.size:=ag.size
   have aj:D.ticks=s.ticks+1:=by
    by_cases a2:s.ticks=a8.lim
    . rw [yF a2] at W;cases W
    . rw [yG a2] at W;cases W;rfl
   have p:=hid ag;have z:=hid (q.trans (bind_ok W));have v:=hid b8;obtain ⟨b9,aA,F, -, -⟩:=b8.blk;obtain ⟨av,an,aD,aR,b3,q5,q6,q7,q8,q9,aV,qf⟩:=nS F;have b0:=b8.cl;clear Q W ag b8 F;unfold xU
   by_cases a1:D.calls=24
   . have ai:((D.calls:Int) == 24)=true:=by rw [a1];rfl
     have aJ:=hid (stop_any B Y a8 K i D 4 eq v);have aZ:=hid (z.trans (if_pos a1));clear a1;go_wp2_with fail;refine aJ.mono ?_;rintro e w2 ⟨rfl,af,aq⟩;exact ⟨rfl,i,(p.trans (gF.grown af)).gm,Or.inr ⟨4,D,aZ,rfl,aq⟩⟩
   . have ai:((D.calls:Int) == 24)=false:=by rw [beq_eq_false_iff_ne];omega
     have aZ:=hid (z.trans (if_neg a1));have A:=hid (v.put (i:=8) (u:=em ((D.calls:Int)+1)) (s':={ D with calls:=D.calls+1 }) (e':=0) (fun _ _=>rfl) rfl rfl rfl v.tl (by show D.calls+1<=24;omega))
     have O:Lo (eq.setCell (ep B 8) (em ((D.calls:Int)+1))) (.slice ae (Ln t) (Ln t)) L t:=H.moves (by
      rcases H.lt with e | e
      . exact Or.inl e
      . rcases M.out with e' | e'
        . exact Or.inl e'
        . have G:=b.ro.BS
          have J:=b.ro.DS;have S:=N.out
          exact Or.inr ((fa (by show L≠B;omega) _).trans (p.block L e (by omega) (by omega) e')))
     have T:t=[]\/i.ownBlock≠some L:=by
      rcases H.lt with e | e
      . exact Or.inl e
      . rcases M.out with e' | e'
        . exact Or.inl e'
        . exact Or.inr (fun x=>e' (p.own L x e))
     obtain ⟨c,r,hcu,E,a3,hCn⟩:=A.call (n:=n) (u:=u) (by show a8.lim+1<=D.ticks+n;rw [aj];have:=a0.out;omega) O N T;simp only [gU] at r;have I:=hid ((p.trans (gF.grown (rH (B:=B) (i:=8) (u:=em ((D.calls:Int)+1))))).trans (gF.below (D:=K.D) (B:=B) (ey (eq.setCell (ep B 8) (em ((D.calls:Int)+1))) (.cells #[eL B 0,em u,.slice ae (Ln t) (Ln t),em 0] 257))));have au:eE ((eq.setCell (ep B 8) (em ((D.calls:Int)+1))).alloc (.cells #[eL B 0,em u,.slice ae (Ln t) (Ln t),em 0] 257)) (·<Y) b7 (Ln U) (f9 U):=aK.fm I b.ro.lB b.ro.lD (fun k e=>by have:=(b.out.lt k e).1;have:=b.ro.BS;have:=b.ro.lB;omega);have g:=ad U c t 0 i { D with calls:=D.calls+1 } b7 V _ hCn au (by rw [hcu];exact aF)
     rw [r,hcu] at g;have aN:=hid g;have a4:=hid hCn;have ao:=hid (And.intro r a3)
     have c9:wrap64 ((D.calls:Int)+1)=(D.calls:Int)+1:=by unfold wrap64;omega
     clear g hCn au T O E hcu a1;go_wp2_with fail;refine aN.mono ?_;rintro e eA ⟨R,af,⟨m,bw,W,rfl,aq⟩ | ⟨⟨h,dl,dr⟩,bw,W,rfl,aq⟩⟩
     . exact ⟨rfl,R,(I.gm.trans (hN.drop (L:=L) af ao.1 ao.2 X)).lop,Or.inr ⟨m,bw,aZ.trans (ym W),rfl,aq⟩⟩
     . have Z:=hid (I.gm.trans (hN.drop (L:=L) af ao.1 ao.2 X))
       have d:=CV a8 n u 6 U ⟨t,0⟩ _ _ _ W;have d:bw.calls=D.calls+1:=d;have b4:=hid (aZ.trans (bind_ok W));have aB:=hid (aq.wd.put (i:=8) (u:=em (D.calls:Int)) (s':={ bw with calls:=bw.calls - 1 }) (e':=0) (fun _ _=>by rw [d,Nat.add_sub_cancel];rfl) rfl rfl rfl aq.wd.tl (by show bw.calls - 1<=24;omega));have y:=aq.cl;rw [ao.out.1] at y;obtain ⟨a6,be,fE,gq,a7,j⟩:=CP y;obtain ⟨a5,ci4,aW, -, -⟩:=aq.wd.blk;obtain ⟨bg,b2,bi,bt,r4,r5,r6,r7,r8,r9,ba,rf⟩:=nS aW
       have a9:eA.cell? (ep B 8)=some (em ((D.calls:Int)+1)):=by rw [r8,d];rfl
       have br:B≠eq.heap.size:=by omega
       clear af W aq y aW r8 d bg b2 bi bt r4 r5 r6 r7 r9 av an aD aR b3 q5 q6 q7 q8 q9 qf a6 be fE;unfold yo;go_wp2_with fail
       go_returns
       exact ⟨R,(Z.trans (gF.grown rH).gm).lop,Or.inl ⟨dr,_,b4,rfl,aB⟩⟩
def Rr.en:Rr α->Int
 | .ok _ _=>0
 | .stop e _=>e
end Go.Proofs.YtndkhgakfodldaaGreatDoor

namespace Go.Proofs.YtndkhgakfodldaaGreatDoor
open Go.RowKit Go.Shelf Go.Maps Go.WideMaps
variable {A:Nat->Prop} {f b n:Nat} {M w r:World} {d:List Int} {rs:List (List Nat)} {a g:Value} {p ae:List Value}
theorem iL.moves {L:Lc} (h:iL w b n L) (F:r.heap[b]? = w.heap[b]?):iL r b n L:=by
 obtain ⟨D,⟨t,clock,m,O⟩,k⟩:=h;exact ⟨D,⟨t,clock,F.trans m,O⟩,k⟩
theorem iL.has {L:Lc} (h:iL w b n L) (F:∀ x,w.heap[b]? = some x->r.heap[b]? = some x):iL r b n L:=by
 obtain ⟨D,⟨t,clock,m,O⟩,k⟩:=h;exact ⟨D,⟨t,clock,F _ m,O⟩,k⟩
structure Nr (S0:Nat) (wr:World) (rs:List (List Nat)) (bs:List Int) (vn vb:Value) (vs:List Value):Prop where
 on:wr.ownsRow S0 49 1 vn (Ln rs) vs
 ob:wr.ownsRow S0 3 1 vb (Ln bs) (intV bs)
 ap:mK vn vb
 vl:Ln vs=Ln rs
 rw:∀ i (h:i<Ln rs) (h':i<Ln vs),wr.ownsRow S0 3 1 vs[i] (Ln rs[i]) (intV (oP rs[i]))/\mK vs[i] vn/\mK vs[i] vb
theorem Nr.keep {wr:World} (h:Nr f wr rs d g a p) (N:∀ b,f<=b->b<wr.heap.size->r.heap[b]? = wr.heap[b]?):Nr f r rs d g a p:=
 ⟨il h.on (fun k e=>N k (h.on.lt k e).1 (h.on.lt k e).2),il h.ob (fun k e=>N k (h.ob.lt k e).1 (h.ob.lt k e).2),h.ap,h.vl,fun i G J=>⟨il (h.rw i G J).1 (fun k e=>N k ((h.rw i G J).1.lt k e).1 ((h.rw i G J).1.lt k e).2),(h.rw i G J).2⟩⟩
theorem vf:∀ l:List Int,(∀ i ∈ l,(Lit.int .i64 i).wf=true)->fB M A (gS l) (intV l)
 | [],_=>fB.nil
 | x :: O,ag=>.cons (f8 (ag x (gV ..))) (vf O (fun j ac=>ag j (gC _ ac)))
theorem vg {Y:Nat} {t:TypeId} {p:Nat} {a:OA} {I:Nat} {ds:List D} (h:M.ownsRow Y t p (.slice a n I) n ae) (Q:fB M A ds ae) (G:n<=Ln ds) (J:Ln ds<=17592186044416) (aT:∀ R,Y<=R->R<M.heap.size->A R):eE M A a n ds:=by
 refine ⟨G,J,?_⟩
 rcases h.2 with ⟨e,a3⟩ | ⟨g,f,o,e,F,af,_⟩
 . exact Or.inl a3
 . cases e
   refine Or.inr ⟨g,0,ae,rfl,aT g F (lt_of_heap af),lt_of_heap af,fun j u ac=>?_,Q⟩;have:=h.cells (g:=g) rfl j u ac;rw [show ((ep g 0):Addr).add j=(ep g j) from by unfold Addr.add;split<;>simp_all] at this
   rw [hv];exact this
theorem Nr.beg {bj:Nat} {b7:OA} (h:Nr f w rs d g (.slice b7 n bj) p) (U:n=Ln d) (aT:∀ R,f<=R->R<w.heap.size->A R) (ag:∀ i ∈ d,(Lit.int .i64 i).wf=true) (a2:Ln d<=1000):eE w A b7 (Ln d) (gS d):=by
 subst U;exact vg h.ob (vf d ag) (by simp [gS]) (by simp [gS];omega) aT
theorem yq (aT:∀ R,f<=R->R<w.heap.size->A R):∀ (rs:List (List Nat)) (p:List Value),Ln p=Ln rs->(∀ O ∈ rs,Ln O<=3000000/\∀ i ∈ oP O,(Lit.int .i64 i).wf=true)->(∀ i (h:i<Ln rs) (q:i<Ln p),w.ownsRow f 3 1 p[i] (Ln rs[i]) (intV (oP rs[i])))->fB w A (qK rs) p
 | [],[],_,_,_=>fB.nil
 | [],_ :: _,h,_,_=>by simp at h
 | _ :: _,[],h,_,_=>by simp at h
 | O :: rs,v :: p,h,ag,aa=>by
   have a3:=aa 0 (by simp) (by simp);simp only [oo] at a3;obtain ⟨a,I,rfl,_,_⟩:=im a3;have W:=ag O (gV ..)
   have a2:(oP O).length=Ln O:=by simp [oP]
   refine .cons (eE.val (vg a3 (vf _ W.2) (by simp [gS,a2]) (by simp [gS,a2];omega) aT)) (yq aT rs p (by simpa using h) (fun e q=>ag e (gC _ q)) (fun i G J=>?_));have:=aa (i+1) (by simpa using G) (by simpa using J);simpa using this
theorem Nr.near {c:Nat} {b:OA} (h:Nr f w rs d (.slice b n c) a p) (U:n=Ln rs) (aT:∀ R,f<=R->R<w.heap.size->A R) (ag:∀ O ∈ rs,Ln O<=3000000/\∀ i ∈ oP O,(Lit.int .i64 i).wf=true) (a2:Ln rs<=1000):eE w A b (Ln rs) (qK rs):=by
 subst U;exact vg h.on (yq aT rs p h.vl ag (fun i G J=>(h.rw i G J).1)) (by simp [qK]) (by simp [qK];omega) aT
theorem mK.new {v u:Value} {B C:Nat} {e aE:TypeId} {z b6 K:Nat} {M:List Value} (h:w.ownsRow B e z v n ae) (q:r.ownsRow C aE b6 u K M) (aq:r.heap.size<=B):mK v u:=fun k G J=>by
 have:=(h.lt k G).1;have:=(q.lt k J).2;omega
end Go.Proofs.YtndkhgakfodldaaGreatDoor

namespace Go.Proofs.YtndkhgakfodldaaGreatDoor
open Go.RowKit Go.Shelf
variable {a:OA} {l:List Int} {w r:World}
def io (w:World) (a:OA) (l:List Int):Prop:=l=[]\/∃ b C,a=some (ep b C)/\b<w.heap.size/\∀ i (h:i<Ln l),w.cell? ⟨b,C+i,none⟩=some (em l[i])
theorem io.later (h:io w a l) (F:et w r):io r a l:=by
 rcases h with h | ⟨b,C,ab,a2,a1⟩
 . exact Or.inl h
 . exact Or.inr ⟨b,C,ab,gl a2 F.size,fun i h=>(F.cell (p:=⟨b,C+i,none⟩) a2).trans (a1 i h)⟩
theorem io.at_ (h:io w a l) (i:Nat) (X:i<Ln l):∃ b C,a=some (ep b C)/\b<w.heap.size/\w.cell? ⟨b,C+i,none⟩=some (em l[i]):=by
 rcases h with rfl | ⟨b,C,ab,a2,a1⟩
 . simp at X
 . exact ⟨b,C,ab,a2,a1 i X⟩
theorem io.own {B n:Nat} {I:Nat} (h:w.ownsRow B 3 1 (.slice a n I) n (intV l)) (U:n=Ln l):io w a l:=by
 subst U
 rcases h.2 with ⟨_,a3⟩ | ⟨g,f,o,e,_,af,_⟩
 . exact Or.inl (ii a3)
 . cases e
   refine Or.inr ⟨g,0,rfl,lt_of_heap af,fun i X=>?_⟩;have:=h.cells (g:=g) rfl i (em l[i]) (by simp [intV,X]);rw [show ((ep g 0):Addr).add i=(ep g i) from by unfold Addr.add;split<;>simp_all] at this
   rw [hv];exact this
theorem io.blk {g:Nat} (h:w.heap[g]? = some (.cells (intV l).toArray 3 (0,0))):io w (some (ep g 0)) l:=Or.inr ⟨g,0,rfl,lt_of_heap h,fun i X=>by
 rw [fU h,wR]
 simp [intV,X]⟩
theorem io.take {m:List Int} (h:io w a l) (az:m <+: l):io w a m:=by
 obtain ⟨t,rfl⟩:=az
 rcases h with h | ⟨b,C,ab,a2,a1⟩
 . exact Or.inl (List.append_eq_nil_iff.1 h).1
 . refine Or.inr ⟨b,C,ab,a2,fun i X=>?_⟩
   have:=a1 i (by rw [gn];omega);rw [su X] at this;exact this
theorem yr (h:et w r) (m:Nat):et w (r.drewN m):=jK h m
theorem ys (a b:OA) (a9 a4:Nat) (l:List Int) (w:World) (ab:io w a l) (F:io w b l) (bC:Ln l<=1000000) :
 ew 28 #[.slice a (Ln l) a9,.slice b (Ln l) a4] w fun e r=>e = .returned (.bool true)/\∃ m,r=w.drewN m:=by
 have ar:=hid ab;have ad:=hid F;clear ab F;go_enter func28,ntmps28;go_wp2_with fail
 go_loopw [5] (fun i wr=>∃ k m:Nat,k<=Ln l/\i=em k/\wr=w.drewN m) (fun i _=>Ln l - (intOf i).toNat)
 case atStart=>exact ⟨0,0,eY _,rfl,rfl⟩
 case round=>
  obtain ⟨k,m,N,rfl,rfl⟩:=hrel
  by_cases a0:k<Ln l
  . obtain ⟨b7,I,rfl,aI,ao⟩:=(ar.later (gY w m)).at_ k a0
    obtain ⟨V,K,rfl,Q,A⟩:=(ad.later (gY w m)).at_ k a0;have a1:=hid ao;generalize l[k]=lk at *;generalize L:w.drewN m=M at *;have aO:=hid L;clear L;go_wp2_with fail
    go_quiet ((fail))
    go_wp2_with fail;go_roundw
    case rel=>exact ⟨k+1,m+nq,by omega,by go_num,by rw [← aO.out,vP]⟩
    case measure=>simp [intOf];omega
  . go_wp2_with fail
    go_ret;exact ⟨rfl,m,rfl⟩
theorem CX (d tk:Int) (p a Y h:OA) (a9 a4 c3 am:Nat) (l O:List Int) (w:World) (G:io w p l) (J:io w a l) (S:io w Y O) (a6:io w h O) (a2:Ln l<=1000000) (W:Ln O<=1000000) :
 ew 29 #[.agg #[em d,.slice p (Ln l) a9,.slice Y (Ln O) c3,em tk],.agg #[em d,.slice a (Ln l) a4,.slice h (Ln O) am,em tk]] w fun e r=>e = .returned (.bool true)/\et w r:=by
 have aJ:Hid (∀ M,et w M->ew 28 #[.slice p (Ln l) a9,.slice a (Ln l) a4] M fun e r=>e = .returned (.bool true)/\∃ m,r=M.drewN m):=fun M F=>ys p a a9 a4 l M (G.later F) (J.later F) a2
 have P:Hid (∀ M,et w M->ew 28 #[.slice Y (Ln O) c3,.slice h (Ln O) am] M fun e r=>e = .returned (.bool true)/\∃ m,r=M.drewN m):=fun M F=>ys Y h c3 am O M (S.later F) (a6.later F) W
 clear G J S a6 a2 W;have aM:=hid (es (ey w (.cells #[em d,.slice p (Ln l) a9,.slice Y (Ln O) c3,em tk] 51)) (ey _ (.cells #[em d,.slice a (Ln l) a4,.slice h (Ln O) am,em tk] 51)));generalize (Ln l)=n at *;generalize (Ln O)=k at *;go_enter func29,ntmps29;go_wp2_with fail;refine (aJ _ aM).mono ?_;rintro e eq ⟨rfl,br,rfl⟩;go_wp2_with fail;refine (P _ (yr aM br)).mono ?_;rintro e eq ⟨rfl,Z,rfl⟩;go_wp2_with fail;go_ret;exact ⟨rfl,yr aM _⟩
def vh (w:World) (O:Rs) (v:Value):Prop:=∃ o ag y bT,v = .agg #[em O.end_,.slice o (Ln O.out) ag,.slice y (Ln O.data) bT,em O.ticks]/\io w o O.out/\io w y O.data/\Ln O.out<=ag
theorem vh.later {O:Rs} {v:Value} (h:vh w O v) (F:et w r):vh r O v:=by
 obtain ⟨o,ag,y,bT,e,G,J,S⟩:=h;exact ⟨o,ag,y,bT,e,G.later F,J.later F,S⟩
end Go.Proofs.YtndkhgakfodldaaGreatDoor
