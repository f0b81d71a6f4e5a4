import Derived.Test.YtndkhgakfodldaaGreatDoorLeafc
import Derived.Deep.RegionHeld3
import Derived.Deep.AppendLies
set_option maxRecDepth 100000
set_option maxHeartbeats 1000000
open Go.Proofs.Tryz
namespace Go.Proofs.YtndkhgakfodldaaGreatDoor
open Go.RowKit Go.Shelf
section
variable {P:Program} {ops:Array Oper} {o:Oper} {a:Act} {w:World} {K:Act->World->Prop} {T:Exit->Act->World->Prop} {E:Prop}
variable {R:World->Prop}
theorem run_call1 (f:FuncId) (x:Operand) (d:TypeId) (aa:o.op = .call { callee:=.value (.func f),args:=#[x],argTypes:=#[d] })
 (g:Enters P f) (v:Value) (Q:a.eval x=v):(execOp a.eval o).run P w = .ok (.enter f #[v]) w:=by
 have h:=g #[v] w;have ag:a.eval (.func f) = .func (.func f) #[] #[]:=rfl;simp [execOp,aa,resolve,invoke,Q,ag,h,Deferred.ofValue]
theorem step_call1 (m:o.guard=none) (f:FuncId) (x:Operand) (d:TypeId) (aa:o.op = .call { callee:=.value (.func f),args:=#[x],argTypes:=#[d] })
 (g:Enters P f) (v:Value) (Q:a.eval x=v) (u:Value) (a1:Calls P f #[v] w fun e r=>e = .returned u/\R r)
 (h:∀ r,R r->K (a.put o.dst u) r):if Region.wanted o (yielded ops a.tmps)=true then Oper.wp P o a w K T else E:=by
 have aq:Region.wanted o (yielded ops a.tmps)=true:=by simp [Region.wanted,m]
 rw [if_pos aq];unfold Oper.wp;rw [run_call1 f x d aa g v Q,t6];refine a1.mono ?_;rintro e r ⟨rfl,bb⟩;exact h r bb
theorem xb (m:o.guard=none) (f:FuncId) (x:Operand) (d:TypeId) (aa:o.op = .call { callee:=.value (.func f),args:=#[x],argTypes:=#[d] })
 (g:Enters P f) (v:Value) (Q:a.eval x=v) (c:List PanicEntry) (a1:Calls P f #[v] w fun e r=>e = .panicked c/\R r)
 (h:∀ r,R r->T (.panic c) a r):if Region.wanted o (yielded ops a.tmps)=true then Oper.wp P o a w K T else E:=by
 have aq:Region.wanted o (yielded ops a.tmps)=true:=by simp [Region.wanted,m]
 rw [if_pos aq];unfold Oper.wp;rw [run_call1 f x d aa g v Q,t6];refine a1.mono ?_;rintro e r ⟨rfl,bb⟩;exact h r bb
end
variable {R:Ending->World->Prop}
theorem xc {P:Program} {D:Func} {l O:Array Value} (h:results D l=results D O) :
 ∀ (y:List Deferred) (u:FrameMode) (w:World),Leaves P D l R y u w->Leaves P D O R y u w
 | [],.returning,w,a2=>by simpa only [Leaves,h] using a2
 | [],.panicking _,_,a2=>a2
 | [],.run,_,a2=>a2
 | o :: y,u,w,a2=>by
   obtain ⟨G,Y,I,f,d,J,S,a6⟩:=a2;refine ⟨G,Y,I,f,d,J,S,a6.mono ?_⟩;intro e Q r ap
   cases e with
   | returned v=>exact xc h y _ r ap
   | panicked c=>exact xc h y _ r ap
   | outgrown=>exact ap
theorem GG (t:Array Value) (d:Nat) (v:Value) (J:d≠2) (S:d≠3):results Tryz.f157 (t.setIfInBounds d v)=results Tryz.f157 t:=by
 unfold results;rw [results157];simp [Array.getElem?_setIfInBounds,J,S]
theorem ui (d:Nat) (v:Value) (J:d≠2) (S:d≠3) (c:List PanicEntry) (a:Act) (w:World)
 (h:bodyPostD prog Tryz.f157 R (.panic c) (a.put (some d) v) w):bodyPostD prog Tryz.f157 R (.panic c) a w:=
 xc (GG a.tmps d v J S) _ _ _ h
end Go.Proofs.YtndkhgakfodldaaGreatDoor

namespace Go.Proofs.YtndkhgakfodldaaGreatDoor
open Go.RowKit
variable {M x w:World} {t:Tk} {d:List Tk} {v:Value}
theorem en36:Enters prog 173:=enters_of func173 (by kernel_rfl) rfl
theorem en35:Enters prog 194:=enters_of func194 (by kernel_rfl) rfl
theorem GH (b:Nat) (x:Value) (y:Int) (u:TypeId) (iF:Value) (older:List PanicEntry) (w:World)
 (a1:w.cell? (ep b 0)=some x) (aS:w.frozen? (ep b 0)=false) (ez:w.cell? ⟨b+1,0,none⟩=some (em y)) (z:w.frozen? ⟨b+1,0,none⟩=false) :
 CallsD prog 192 #[eL b 0,.pointer (some ⟨b+1,0,none⟩)] (.panicking ({ v:=.iface u iF,recovered:=false } :: older)) w fun e Q r=>
  e = .returned (.tuple #[])/\Q = .panicking ({ v:=.iface u iF,recovered:=true } :: older)/\r=(w.setCell (ep b 0) (eu)).setCell ⟨b+1,0,none⟩ (em 1):=by
 have s:(w.setCell (ep b 0) (eu)).cell? ⟨b+1,0,none⟩=some (em y):=by
  rw [rg _ _ _ _ (by simp)];exact ez
 have a7:(w.setCell (ep b 0) (eu)).frozen? ⟨b+1,0,none⟩=false:=by
  simpa using z
 refine callsD_of_wpS func192 rfl fun a d aI=>?_
 apply wpS_seq
 apply wpS_region
 simp [wpOpsS,go_sem,recoverD,aI,ntmps192,Exit.thenS];refine wpS_cond (t:=true) (by simp [Act.eval,Array.replicate]) ?_;simp only [if_true]
 apply wpS_region
 simp [wpOpsS,go_sem,a1,aS,s,a7,bodyPostS,results,results192]
theorem GI (p q:Addr) (w:World) :
 CallsD prog 192 #[.pointer (some p),.pointer (some q)] .returning w fun e Q r=>e = .returned (.tuple #[])/\Q = .returning/\r=w:=by
 refine callsD_of_wpS func192 rfl fun a d aI=>?_
 apply wpS_seq
 apply wpS_region
 simp [wpOpsS,go_sem,recoverD,aI,ntmps192,Exit.thenS];refine wpS_cond (t:=false) (by simp [Act.eval,Array.replicate]) ?_;simp only [sv,if_false];refine wpS_of_wp (wp_skip ?_)
 cases a
 simp_all [bodyPostS,results,results192]
structure hX (w W:World) (v:Value) (ts:List Tk):Prop where
 below:et w W
 size:w.heap.size+2<=W.heap.size
 cell:W.cell? (ep w.heap.size 0)=some v
 free:W.frozen? (ep w.heap.size 0)=false
 ecell:W.cell? ⟨w.heap.size+1,0,none⟩=some (em 0)
 efree:W.frozen? ⟨w.heap.size+1,0,none⟩=false
 own:W.ownsRow (w.heap.size+2) 184 3 v ts.length (cellsOf ts)
theorem hX.start (w:World):hX w ((w.alloc (Obj.cells #[Value.slice none 0 0] 177)).alloc (Obj.cells #[Value.int IntKind.i64 0] 31)) (eu) [] where
 below:=((Below.refl _ _).alloc (eD _) _).alloc (by simp) _
 size:=by simp
 cell:=by simp [go_sem]
 free:=by simp [go_sem]
 ecell:=by simp [go_sem]
 efree:=by simp [go_sem]
 own:=ko _ _ _ _
theorem hX.later (h:hX w M v d) (F:et M x):hX w x v d where
 below:=h.below.trans (F.mono h.below.size)
 size:=iC h.size F.size
 cell:=(F.cell (p:=(ep w.heap.size 0)) (by have:=h.size;show w.heap.size<_;omega)).trans h.cell
 free:=(F.frozen (p:=(ep w.heap.size 0)) (by have:=h.size;show w.heap.size<_;omega)).trans h.free
 ecell:=(F.cell (p:=⟨w.heap.size+1,0,none⟩) (by have:=h.size;show w.heap.size+1<_;omega)).trans h.ecell
 efree:=(F.frozen (p:=⟨w.heap.size+1,0,none⟩) (by have:=h.size;show w.heap.size+1<_;omega)).trans h.efree
 own:=ownsRow_later h.own F
theorem GJ {s:ByteArray} (h:hF s=some t) (Z:s.size<=maxLen):t.fits:=by
 unfold hF at h;unfold Tk.fits
 split at h
 . cases h;exact Z
 . split at h
   . cases h;exact Z
   . split at h
     . cases h;exact eY _
     . cases h
theorem hX.drewT (h:hX w M v d):hX w M.drew v d:=
 ⟨h.below.drew,h.size,h.cell,h.free,h.ecell,h.efree,h.own⟩
theorem hX.allocT (h:hX w M v d) (o:Obj):hX w (M.alloc o) v d:=
 h.later ((Below.refl _ _).alloc (eD _) _)
theorem hX.notOwn (h:hX w M v d) (b:Nat) (F:b<w.heap.size+2):some b≠v.ownBlock:=by
 intro e;have:=(h.own.lt b e.symm).1;omega
theorem hX.grown {v':Value} (h:hX w M v d) (af:M.grownBy x v.ownBlock) (aa:x.ownsRow (w.heap.size+2) 184 3 v' (d.length+1) (cellsOf d++p5 t)) :
 x.cell? (ep w.heap.size 0)=some v/\x.frozen? (ep w.heap.size 0)=false/\hX w (x.setCell (ep w.heap.size 0) v') v' (d++[t]):=by
 have O:=h.size;have bh:=(af.cell_far (ep w.heap.size 0) (by show w.heap.size<_;omega) (h.notOwn w.heap.size (by omega))).trans h.cell;have bJ:=(af.frozen_far (ep w.heap.size 0) (by show w.heap.size<_;omega) (h.notOwn w.heap.size (by omega))).trans h.free;have a9:=(af.cell_far ⟨w.heap.size+1,0,none⟩ (by show w.heap.size+1<_;omega) (h.notOwn (w.heap.size+1) (by omega))).trans h.ecell;have bk:=(af.frozen_far ⟨w.heap.size+1,0,none⟩ (by show w.heap.size+1<_;omega) (h.notOwn (w.heap.size+1) (by omega))).trans h.efree;have F:et w x:=h.below.grown af h.below.size (fun k N=>by have:=(h.own.lt k N).1;omega);have o:M.heap.size<=x.heap.size:=af.size;refine ⟨bh,bJ,?_⟩
 exact {
  below:=F.setCell (p:=(ep w.heap.size 0)) (eD _) _
  size:=by
   show w.heap.size+2<=(x.setCell (ep w.heap.size 0) v').heap.size;rw [gU];omega
  cell:=rh _ _ _ (by rw [bh])
  free:=by rw [World.frozen?_setCell];exact bJ
  ecell:=by rw [rg _ _ _ _ (by simp)];exact a9
  efree:=by rw [World.frozen?_setCell];exact bk
  own:=by
   rw [Dw,gn]
   exact ownsRow_setCell_below aa (by show w.heap.size<_;omega) _ }
theorem hX.leave {a:OA} {I:Nat} (h:hX w M (.slice a d.length I) d) (ag:AllFit d) :
 (∀ t:Array Value,t.getD 2 undef=eL w.heap.size 0->t.getD 3 undef = .pointer (some ⟨w.heap.size+1,0,none⟩)->
   (results Tryz.f157 t).run prog ((M.setCell (ep w.heap.size 0) (.slice a d.length I)).setCell ⟨w.heap.size+1,0,none⟩ (em 0)) =
     .ok (.tuple #[.slice a d.length I,em 0]) ((M.setCell (ep w.heap.size 0) (.slice a d.length I)).setCell ⟨w.heap.size+1,0,none⟩ (em 0)))/\
 jD ((M.setCell (ep w.heap.size 0) (.slice a d.length I)).setCell ⟨w.heap.size+1,0,none⟩ (em 0)) a d/\
 et w ((M.setCell (ep w.heap.size 0) (.slice a d.length I)).setCell ⟨w.heap.size+1,0,none⟩ (em 0)):=by
 have bh:((M.setCell (ep w.heap.size 0) (.slice a d.length I)).setCell ⟨w.heap.size+1,0,none⟩ (em 0)).cell? (ep w.heap.size 0)=some (.slice a d.length I):=by
  rw [rg _ _ _ _ (by simp)];exact rh _ _ _ (by rw [h.cell])
 have a9:((M.setCell (ep w.heap.size 0) (.slice a d.length I)).setCell ⟨w.heap.size+1,0,none⟩ (em 0)).cell? ⟨w.heap.size+1,0,none⟩=some (em 0):=by
  refine rh (u:=em 0) _ _ _ ?_;rw [rg _ _ _ _ (by simp),h.ecell]
 have e:((M.setCell (ep w.heap.size 0) (.slice a d.length I)).setCell ⟨w.heap.size+1,0,none⟩ (em 0)).ownsRow (w.heap.size+2) 184 3 (.slice a d.length I) d.length (cellsOf d):=
  ownsRow_setCell_below (ownsRow_setCell_below h.own (by show w.heap.size<_;omega) _) (by show w.heap.size+1<_;omega) _
 refine ⟨?_,?_,(h.below.setCell (p:=(ep w.heap.size 0)) (eD _) _).setCell (p:=⟨w.heap.size+1,0,none⟩) (ud _) _⟩
 . intro t J S
   generalize ((M.setCell (ep w.heap.size 0) (.slice a d.length I)).setCell ⟨w.heap.size+1,0,none⟩ (em 0))=Z at *
   have b:t[2]?.getD undef=eL w.heap.size 0:=by simpa using J
   have c:t[3]?.getD undef = .pointer (some ⟨w.heap.size+1,0,none⟩):=by simpa using S
   simp [results,results157,go_sem,b,c,bh,a9]
 . obtain ⟨ad,f,a7,u⟩:=Dx e ag
   cases a7;exact u
theorem hX.caught (h:hX w M v d) {R:Ending->World->Prop} (t:Array Value)
 (J:t.getD 2 undef=eL w.heap.size 0) (S:t.getD 3 undef = .pointer (some ⟨w.heap.size+1,0,none⟩))
 (bb:∀ x,et w x->R (.returned (.tuple #[eu,em 1])) x) :
 Leaves prog Tryz.f157 t R [{ target:=Target.fn (Fn.func 192) #[Value.pointer (some (ep w.heap.size 0)),Value.pointer (some ⟨w.heap.size+1,0,none⟩)],args:=#[] }] (.panicking gL) M:=by
 refine leaves_cons (f:=192) (args:=#[eL w.heap.size 0,.pointer (some ⟨w.heap.size+1,0,none⟩)]) (by simp) (by simp [go_sem]) ?_;refine (GH w.heap.size v 0 31 (em 1) [] _ h.cell h.free h.ecell h.efree).mono ?_;rintro e Q T ⟨rfl,rfl,rfl⟩
 have bh:((M.setCell (ep w.heap.size 0) (eu)).setCell ⟨w.heap.size+1,0,none⟩ (em 1)).cell? (ep w.heap.size 0)=some (eu):=by
  rw [rg _ _ _ _ (by simp)];exact rh _ _ _ (by rw [h.cell])
 have a9:((M.setCell (ep w.heap.size 0) (eu)).setCell ⟨w.heap.size+1,0,none⟩ (em 1)).cell? ⟨w.heap.size+1,0,none⟩=some (em 1):=by
  refine rh (u:=em 0) _ _ _ ?_;rw [rg _ _ _ _ (by simp),h.ecell]
 have F:et w ((M.setCell (ep w.heap.size 0) (eu)).setCell ⟨w.heap.size+1,0,none⟩ (em 1)):=
  (h.below.setCell (p:=(ep w.heap.size 0)) (eD _) _).setCell (p:=⟨w.heap.size+1,0,none⟩) (ud _) _
 generalize ((M.setCell (ep w.heap.size 0) (eu)).setCell ⟨w.heap.size+1,0,none⟩ (em 1))=Z at *
 have b:t[2]?.getD undef=eL w.heap.size 0:=by simpa using J
 have c:t[3]?.getD undef = .pointer (some ⟨w.heap.size+1,0,none⟩):=by simpa using S
 refine ⟨.tuple #[eu,em 1],?_,bb Z F⟩;simp [results,results157,go_sem,b,c,bh,a9]
theorem GK (s:ByteArray) (w:World) (Z:s.size<=4096) :
 ew 157 #[.string s] w fun e r=>∃ a I,e = .returned (.tuple #[.slice a (i7 s).length I,em (i8 s)])/\jD r a (i7 s)/\et w r:=by
 obtain ⟨bx,X,al,b0,bl⟩:=info_parts Tryz.infoTok
 have M:∀ (D:Fn) (first I:Array Value) (w:World),(Instr.makeFunc D first I).run prog w = .ok (.func D first I) w:=fun _ _ _ _=>rfl
 go_enter_defers func157,ntmps157;go_wp2_with fail
 go_loopw [4,5] (fun i _ wr=>∃ (k:Nat) (d:List Tk) (v:Value),k<=s.size/\i=em k/\iP s k d/\AllFit d/\d.length<=k/\hX w wr v d) (fun i _ _=>s.size - (intOf i).toNat)
 case atStart=>exact ⟨0,[],eu,eY _,rfl,iP.start s,AllFit.nil,eD _,hX.start w⟩
 case round =>
  obtain ⟨k,d,v,N,rfl,hinv,c7,aT,htw⟩:=hrel;have az:Hid (iP s k d):=hinv;have p:Hid (AllFit d):=c7
  obtain ⟨a,I,rfl⟩:∃ a I,v = .slice a d.length I:=by
   rcases htw.own.2 with ⟨G,J⟩ | ⟨g,I,o,G,_⟩
   . exact ⟨none,0,by rw [J];exact G⟩
   . exact ⟨_,_,G⟩
  have aO:Hid (hX w wr (.slice a d.length I) d):=htw;have a1:=htw.cell;have ag:=htw.free;have dN:=htw.ecell;have P:=htw.efree;clear hinv c7 htw
  by_cases a0:k<s.size
  . have A : Hid (∀ w:World,ew 193 #[.string s,em k] w fun e r=>e = .returned (em ((k+Lx.pieceN s k:Nat):Int))/\r=w):=fun w=>Dn s k w (by unfold maxLen;omega) a0
    have z:=Lx.zz8 s k a0;have U:=Lx.zg4 s k
    by_cases ap:k8 s[k]=true
    . have aE:Hid (iP s (k+Lx.pieceN s k) d):=az.blank a0 ap
      have y:(((s[k].toNat:Nat):Int) != 32)=false\/((((s[k].toNat:Nat):Int) != 32)=true/\(((s[k].toNat:Nat):Int) != 10)=false):=by
       unfold k8 at ap;simp only [w3,beq_iff_eq] at ap
       rcases ap with h | h
       . rw [h];exact Or.inl rfl
       . rw [h];exact Or.inr ⟨rfl,rfl⟩
      clear ap;generalize Lx.pieceN s k=b at *
      rcases y with E | ⟨E,B⟩
      all_goals
       go_wp2_with (go_at_call 193;refine (A _).mono ?_;rintro e w2 ⟨rfl,J⟩;obtain rfl:=J.symm)
       go_roundw
       case rel=>exact ⟨k+b,d,_,by omega,by go_num,aE,p,by omega,aO⟩
       case measure=>simp [intOf];omega
    . have m:k8 s[k]=false:=by simpa using ap
      have E:(((s[k].toNat:Nat):Int) != 32)=true:=by
       rw [bne_iff_ne];intro h
       have:s[k]=32:=w5.1 (by show s[k].toNat=32;omega)
       rw [this] at m;cases m
      have B:(((s[k].toNat:Nat):Int) != 10)=true:=by
       rw [bne_iff_ne];intro h
       have:s[k]=10:=w5.1 (by show s[k].toNat=10;omega)
       rw [this] at m;cases m
      have ad:Hid (k8 s[k]=false):=m;clear ap m
      cases j:hF (s.extract k (k+Lx.pieceN s k)) with
      | none=>
        have aH:Hid (i7 s=[]/\i8 s=1):=Dt (by omega) (az.stop a0 ad j)
        have n:(s.extract k (k+Lx.pieceN s k)).size<=4096:=by rw [vR s k _ z];omega
        have cs:Hid (∀ w:World,ew 173 #[.string (s.extract k (k+Lx.pieceN s k))] w fun e r=>e = .returned (.string (s.extract k (k+Lx.pieceN s k)))/\et w r):=fun w=>zg _ w (by omega)
        have C:Hid (∀ w:World,ew 194 #[.string (s.extract k (k+Lx.pieceN s k))] w fun e r=>e = .panicked gL/\et w r):=fun w=>by
         refine (zh _ w (by unfold maxLen;omega)).mono ?_;rintro e r ⟨⟨q,G,J⟩ | ⟨G,J⟩,F⟩
         . rw [j] at G;cases G
         . exact ⟨J,F⟩
        clear j n az p ad;generalize ay:Lx.pieceN s k=b at *;clear ay
        go_wp2_with (go_at_call 193;refine (A _).mono ?_;rintro e w2 ⟨rfl,J⟩;obtain rfl:=J.symm)
        have l:(0:Int)<=(k:Int):=Int.natCast_nonneg _
        have ac:(k:Int)<=(k:Int)+(b:Int):=by omega
        have V:(k:Int)+(b:Int)<=(s.size:Int):=by omega
        refine wp_region_any (by kernel_rfl) ?_
        change wpAny _ _ _ _ _ _ _ (World.drew _)
        refine wpAny_take (i:=1) (v:=.string s) rfl (by kernel_rfl) (by kernel_rfl) (by kernel_rfl) (fun c a w h=>ui 25 _ (by decide) (by decide) c a w h) (Or.inl ⟨by rfl,fun w=>by go_simp⟩) ?_;refine wpAny_take (i:=2) (v:=em k) rfl (by kernel_rfl) (by kernel_rfl) (by kernel_rfl) (fun c a w h=>ui 26 _ (by decide) (by decide) c a w h) (Or.inl ⟨by rfl,fun w=>by go_simp⟩) ?_;refine wpAny_take (i:=3) (v:=em ((k:Int)+(b:Int))) rfl (by kernel_rfl) (by kernel_rfl) (by kernel_rfl) (fun c a w h=>ui 27 _ (by decide) (by decide) c a w h) (Or.inl ⟨by rfl,fun w=>by go_simp⟩) ?_;refine wpAny_take (i:=4) (v:=.string (s.extract k (k+b))) rfl (by kernel_rfl) (by kernel_rfl) (by kernel_rfl) (fun c a w h=>ui 28 _ (by decide) (by decide) c a w h) (Or.inl ⟨by rfl,fun w=>by go_simp;rw [show ((k:Int)+(b:Int)).toNat=k+b from by omega]⟩) ?_
        refine wpAny_ready (rs:=[0,5]) (by kernel_rfl) (by simp) ?_;refine hO rfl (fun K aA=>?_) (hO rfl (fun K aA=>?_) jz)
        . go_simp
          refine aA _ _ ?_;clear aA K;refine wpAny_ready (rs:=[5]) (by kernel_rfl) (by simp) ?_;refine hO rfl (fun K aA=>?_) jz;refine step_call1 (by rfl) 173 _ _ (by rfl) en36 _ (by rfl) _ (cs _) ?_;intro w2 aB;have b1:=(aO.drewT.later aB).cell;refine aA _ _ ?_;clear aA K;refine wpAny_ready (rs:=[6]) (by kernel_rfl) (by simp) ?_;refine hO rfl (fun K aA=>?_) jz;refine xb (by rfl) 194 _ _ (by rfl) en35 _ (by rfl) gL (C _) ?_;intro eC a2;exact (hX.caught ((aO.drewT.later aB).later a2) _ rfl rfl (fun x ab=>⟨none,0,by rw [aH.out.1,aH.out.2];rfl,by rw [aH.out.1];exact Or.inl rfl,ab⟩))
        . refine step_call1 (by rfl) 173 _ _ (by rfl) en36 _ (by rfl) _ (cs _) ?_
          intro w2 aB;have b1:=(aO.drewT.later aB).cell;refine aA _ _ ?_;clear aA K;refine wpAny_ready (rs:=[0,6]) (by kernel_rfl) (by simp) ?_;refine hO rfl (fun K aA=>?_) (hO rfl (fun K aA=>?_) jz)
          . go_simp
            refine aA _ _ ?_;clear aA K;refine wpAny_ready (rs:=[6]) (by kernel_rfl) (by simp) ?_;refine hO rfl (fun K aA=>?_) jz;refine xb (by rfl) 194 _ _ (by rfl) en35 _ (by rfl) gL (C _) ?_;intro eC a2;exact (hX.caught ((aO.drewT.later aB).later a2) _ rfl rfl (fun x ab=>⟨none,0,by rw [aH.out.1,aH.out.2];rfl,by rw [aH.out.1];exact Or.inl rfl,ab⟩))
          . refine xb (by rfl) 194 _ _ (by rfl) en35 _ (by rfl) gL (C _) ?_
            intro eC a2;exact (hX.caught ((aO.drewT.later aB).later a2) _ rfl rfl (fun x ab=>⟨none,0,by rw [aH.out.1,aH.out.2];rfl,by rw [aH.out.1];exact Or.inl rfl,ab⟩))
      | some t=>
        have aE:Hid (iP s (k+Lx.pieceN s k) (d++[t])/\AllFit (d++[t])):=⟨az.tok a0 ad j,p.snoc (GJ j (by rw [vR s k _ z];unfold maxLen;omega))⟩
        have n:(s.extract k (k+Lx.pieceN s k)).size<=4096:=by rw [vR s k _ z];omega
        have cs:Hid (∀ w:World,ew 173 #[.string (s.extract k (k+Lx.pieceN s k))] w fun e r=>e = .returned (.string (s.extract k (k+Lx.pieceN s k)))/\et w r):=fun w=>zg _ w (by omega)
        have aU:Hid (∀ w:World,ew 194 #[.string (s.extract k (k+Lx.pieceN s k))] w fun e r=>e = .returned (.agg #[em t.kind,em t.n,.string t.text])/\et w r):=fun w=>by
         refine (zh _ w (by unfold maxLen;omega)).mono ?_;rintro e r ⟨⟨q,G,J⟩ | ⟨G,J⟩,F⟩
         . rw [j] at G
           obtain rfl:=fe G;exact ⟨J,F⟩
         . rw [j] at G;cases G
        clear j n az p ad;generalize ay:Lx.pieceN s k=b at *;clear ay
        go_wp2_with (go_at_call 193;refine (A _).mono ?_;rintro e w2 ⟨rfl,J⟩;obtain rfl:=J.symm)
        have l:(0:Int)<=(k:Int):=Int.natCast_nonneg _
        have ac:(k:Int)<=(k:Int)+(b:Int):=by omega
        have V:(k:Int)+(b:Int)<=(s.size:Int):=by omega
        refine wp_region_noPanic ?_
        go_region_law
         (first
           | (refine step_call1 (by rfl) 173 _ _ (by rfl) en36 _ (by rfl) _ (cs _) ?_;intro w2 aB;have b1:=(aO.drewT.later aB).cell)
           | (refine step_call1 (by rfl) 194 _ _ (by rfl) en35 _ (by rfl) _ (aU _) ?_;intro eC a2;have R:=((aO.drewT.later aB).later a2).cell;have bE:=((aO.drewT.later aB).later a2).size;have S:w.heap.size<eC.heap.size:=by omega)
           | (refine step_append_lies _ (by rfl) _ _ _ (by rfl) (w.heap.size+2) 184 bx _ 3 32 Tryz.underlying177 X al b0 bl rfl (by omega) (.slice a d.length I) d.length (cellsOf d) (by rfl) (((aO.drewT.later aB).later a2).allocT _).own (ep eC.heap.size 0) 1 1 (p5 t) (by rfl) (by rfl) (Dy _ _ _ _ _) (Dz _) (by omega) (by unfold maxLen;omega) (by omega) (by have:=((aO.drewT.later aB).later a2).size;simp;omega) (eC.heap.size+1) (by simp) ?_;intro gg H eA hown1 f a5 O;obtain ⟨aa,aq,htw4⟩:=(((aO.drewT.later aB).later a2).allocT _).grown f hown1;have L:Hid (hX w (eA.setCell (ep w.heap.size 0) (.slice (some (ep gg 0)) (d.length+1) H)) (.slice (some (ep gg 0)) (d.length+1) H) (d++[t])):=htw4;clear hown1 f htw4))
        all_goals
         refine NoPanic.normal ?_;go_wp2_with fail;go_roundw
         case rel=>exact ⟨k+b,d++[t],_,by omega,by go_num,aE.1,aE.2,by rw [gn];simp only [iH,qt];omega,L⟩
         case measure=>simp [intOf];omega
  . have aH:Hid (i7 s=d/\i8 s=0):=zm (by omega) (az.done a0)
    go_wp2_with fail;refine leaves_cons (f:=192) (args:=#[eL w.heap.size 0,.pointer (some ⟨w.heap.size+1,0,none⟩)]) (by simp) (by simp [go_sem]) ?_;refine (GI (ep w.heap.size 0) ⟨w.heap.size+1,0,none⟩ _).mono ?_;rintro e Q T ⟨rfl,rfl,rfl⟩;obtain ⟨W,u,ab⟩:=aO.leave p;refine ⟨_,W _ rfl rfl,a,I,by rw [aH.out.1,aH.out.2],by rw [aH.out.1];exact u,ab⟩
end Go.Proofs.YtndkhgakfodldaaGreatDoor
