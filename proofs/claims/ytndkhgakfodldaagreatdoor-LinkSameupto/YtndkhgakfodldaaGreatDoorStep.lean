import Derived.Test.YtndkhgakfodldaaGreatDoorLeafc
import Derived.Deep.RegionHeld3
import Derived.Deep.AppendLies
set_option maxRecDepth 100000
set_option maxHeartbeats 1000000
open Go.Proofs.Tryz
namespace Go.Proofs.YtndkhgakfodldaaGreatDoor
open Go.RowKit Go.Shelf
section
variable {P:Program} {ops:Array Oper} {o:Oper} {a:Act} {w:World} {K:Act->World->Prop} {Y:Exit->Act->World->Prop} {E:Prop}
variable {R:World->Prop}
theorem run_call1 (f:FuncId) (x:Operand) (d:TypeId) (ap:o.op = .call { callee:=.value (.func f),args:=#[x],argTypes:=#[d] })
 (n:Enters P f) (v:Value) (S:a.eval x=v):(execOp a.eval o).run P w = .ok (.enter f #[v]) w:=by
 have h:=n #[v] w;exact Rc
theorem step_call1 (l:o.guard=none) (f:FuncId) (x:Operand) (d:TypeId) (ap:o.op = .call { callee:=.value (.func f),args:=#[x],argTypes:=#[d] })
 (n:Enters P f) (v:Value) (S:a.eval x=v) (u:Value) (bj:Calls P f #[v] w fun e G=>e = .returned u/\R G)
 (h:∀ G,R G->K (a.put o.dst u) G):if Region.wanted o (yielded ops a.tmps)=true then Oper.wp P o a w K Y else E:=by
 exact Rw
theorem xK (l:o.guard=none) (f:FuncId) (x:Operand) (d:TypeId) (ap:o.op = .call { callee:=.value (.func f),args:=#[x],argTypes:=#[d] })
 (n:Enters P f) (v:Value) (S:a.eval x=v) (c:List PanicEntry) (bj:Calls P f #[v] w fun e G=>e = .panicked c/\R G)
 (h:∀ G,R G->Y (.panic c) a G):if Region.wanted o (yielded ops a.tmps)=true then Oper.wp P o a w K Y else E:=by
 exact Rw
end
variable {R:Ending->World->Prop}
theorem xL {P:Program} {a2:Func} {b8 b7:Array Value} (h:results a2 b8=results a2 b7) :
 ∀ (Y:List Deferred) (u:FrameMode) (w:World),Leaves P a2 b8 R Y u w->Leaves P a2 b7 R Y u w
 | [],.returning,w,X=>by simpa only [Leaves,h] using X
 | [],.panicking _,_,X=>X
 | [],.run,_,X=>X
 | d :: Y,u,w,X=>by
   obtain ⟨F,z,q,f,O,J,U,aa⟩:=X;refine ⟨F,z,q,f,O,J,U,aa.mono ?_⟩;intro e S G aB
   cases e with
   | returned v=>exact xL h Y _ G aB
   | panicked an=>exact xL h Y _ G aB
   | outgrown=>exact aB
theorem Jd (t:Array Value) (d:Nat) (v:Value) (J:d≠2) (U:d≠3):results Tryz.f157 (t.setIfInBounds d v)=results Tryz.f157 t:=by
 unfold results;rw [results157];simp [Array.getElem?_setIfInBounds,J,U]
theorem vd (d:Nat) (v:Value) (J:d≠2) (U:d≠3) (c:List PanicEntry) (a:Act) (w:World)
 (h:bodyPostD prog Tryz.f157 R (.panic c) (a.put (some d) v) w):bodyPostD prog Tryz.f157 R (.panic c) a w:=
 xL (Jd a.tmps d v J U) _ _ _ h
end Go.Proofs.YtndkhgakfodldaaGreatDoor

namespace Go.Proofs.YtndkhgakfodldaaGreatDoor
open Go.RowKit
variable {M c w:World} {t:Tk} {d:List Tk} {v:Value}
theorem en36:Enters prog 173:=enters_of func173 (by kernel_rfl) rfl
theorem en35:Enters prog 194:=enters_of func194 (by kernel_rfl) rfl
theorem Je (b:Nat) (x:Value) (y:Int) (u:TypeId) (io:Value) (older:List PanicEntry) (w:World)
 (W:w.cell? (dj b 0)=some x) (b2:w.frozen? (dj b 0)=false) (hd:w.cell? ⟨b+1,0,none⟩=some (di y)) (a4:w.frozen? ⟨b+1,0,none⟩=false) :
 CallsD prog 192 #[dF b 0,.pointer (some ⟨b+1,0,none⟩)] (.panicking ({ v:=.iface u io,recovered:=false } :: older)) w fun e S G=>
  e = .returned (.tuple #[])/\S = .panicking ({ v:=.iface u io,recovered:=true } :: older)/\G=(w.setCell (dj b 0) (dt)).setCell ⟨b+1,0,none⟩ (di 1):=by
 have V:(w.setCell (dj b 0) (dt)).cell? ⟨b+1,0,none⟩=some (di y):=by
  rw [rJ _ _ _ _ Ob];exact hd
 have a6:(w.setCell (dj b 0) (dt)).frozen? ⟨b+1,0,none⟩=false:=by
  simpa using a4
 refine callsD_of_wpS func192 rfl fun a s aL=>?_
 apply wpS_seq
 apply wpS_region
 simp [wpOpsS,go_sem,recoverD,aL,ntmps192,Exit.thenS];refine wpS_cond (t:=true) Pn ?_;simp only [if_true]
 apply wpS_region
 simp [wpOpsS,go_sem,W,b2,V,a6,bodyPostS,results,results192]
theorem Jf (p q:Addr) (w:World) :
 CallsD prog 192 #[.pointer (some p),.pointer (some q)] .returning w fun e S G=>e = .returned (.tuple #[])/\S = .returning/\G=w:=by
 refine callsD_of_wpS func192 rfl fun a s aL=>?_
 apply wpS_seq
 apply wpS_region
 simp [wpOpsS,go_sem,recoverD,aL,ntmps192,Exit.thenS];refine wpS_cond (t:=false) Pn ?_;simp only [qA,if_false];refine wpS_of_wp (wp_skip ?_)
 cases a
 simp_all [bodyPostS,results,results192]
structure hm (w W:World) (v:Value) (ts:List Tk):Prop where
 below:dm w W
 size:w.heap.size+2<=W.heap.size
 cell:W.cell? (dj w.heap.size 0)=some v
 free:W.frozen? (dj w.heap.size 0)=false
 ecell:W.cell? ⟨w.heap.size+1,0,none⟩=some (di 0)
 efree:W.frozen? ⟨w.heap.size+1,0,none⟩=false
 own:W.ownsRow (w.heap.size+2) 184 3 v ts.length (cellsOf ts)
theorem hm.start (w:World):hm w ((w.alloc (Obj.cells #[Value.slice none 0 0] 177)).alloc (Obj.cells #[Value.int IntKind.i64 0] 31)) (dt) [] where
 below:=((Below.refl _ _).alloc (dA _) _).alloc Ob _
 size:=Ob
 cell:=O5
 free:=O5
 ecell:=O5
 efree:=O5
 own:=jU _ _ _ _
theorem hm.later (h:hm w M v d) (I:dm M c):hm w c v d where
 below:=h.below.trans (I.mono h.below.size)
 size:=fZ h.size I.size
 cell:=(I.cell (p:=(dj w.heap.size 0)) (by have:=h.size;show w.heap.size<_;omega)).trans h.cell
 free:=(I.frozen (p:=(dj w.heap.size 0)) (by have:=h.size;show w.heap.size<_;omega)).trans h.free
 ecell:=(I.cell (p:=⟨w.heap.size+1,0,none⟩) (by have:=h.size;show w.heap.size+1<_;omega)).trans h.ecell
 efree:=(I.frozen (p:=⟨w.heap.size+1,0,none⟩) (by have:=h.size;show w.heap.size+1<_;omega)).trans h.efree
 own:=ownsRow_later h.own I
theorem Jg {s:ByteArray} (h:ia s=some t) (a8:s.size<=maxLen):t.fits:=by
 unfold ia at h;unfold Tk.fits
 split at h
 . cases h;exact a8
 . split at h
   . cases h;exact a8
   . split at h
     . cases h;exact dY _
     . cases h
theorem hm.drewT (h:hm w M v d):hm w M.drew v d:=
 ⟨h.below.drew,h.size,h.cell,h.free,h.ecell,h.efree,h.own⟩
theorem hm.allocT (h:hm w M v d) (o:Obj):hm w (M.alloc o) v d:=
 h.later ((Below.refl _ _).alloc (dA _) _)
theorem hm.notOwn (h:hm w M v d) (b:Nat) (I:b<w.heap.size+2):some b≠v.ownBlock:=by
 intro e;have:=(h.own.lt b e.symm).1;omega
theorem hm.grown {aa:Value} (h:hm w M v d) (ak:M.grownBy c v.ownBlock) (ap:c.ownsRow (w.heap.size+2) 184 3 aa (d.length+1) (cellsOf d++qk t)) :
 c.cell? (dj w.heap.size 0)=some v/\c.frozen? (dj w.heap.size 0)=false/\hm w (c.setCell (dj w.heap.size 0) aa) aa (d++[t]):=by
 have am:=h.size;have bt:=(ak.cell_far (dj w.heap.size 0) PP (h.notOwn w.heap.size N7)).trans h.cell;have bk:=(ak.frozen_far (dj w.heap.size 0) PP (h.notOwn w.heap.size N7)).trans h.free;have ah:=(ak.cell_far ⟨w.heap.size+1,0,none⟩ (by show w.heap.size+1<_;omega) (h.notOwn (w.heap.size+1) N7)).trans h.ecell;have bz:=(ak.frozen_far ⟨w.heap.size+1,0,none⟩ (by show w.heap.size+1<_;omega) (h.notOwn (w.heap.size+1) N7)).trans h.efree;have I:dm w c:=h.below.grown ak h.below.size (fun k N=>by have:=(h.own.lt k N).1;omega);have C:M.heap.size<=c.heap.size:=ak.size;refine ⟨bt,bk,?_⟩
 exact {
  below:=I.setCell (p:=(dj w.heap.size 0)) (dA _) _
  size:=by
   show w.heap.size+2<=(c.setCell (dj w.heap.size 0) aa).heap.size;rw [hk];omega
  cell:=rK _ _ _ (by rw [bt])
  free:=by rw [World.frozen?_setCell];exact bk
  ecell:=by rw [rJ _ _ _ _ Ob];exact ah
  efree:=by rw [World.frozen?_setCell];exact bz
  own:=by
   rw [Ge,eM]
   exact ownsRow_setCell_below ap PP _ }
theorem hm.leave {a:OA} {q:Nat} (h:hm w M (.slice a d.length q) d) (Y:AllFit d) :
 (∀ t:Array Value,t.getD 2 undef=dF w.heap.size 0->t.getD 3 undef = .pointer (some ⟨w.heap.size+1,0,none⟩)->
   (results Tryz.f157 t).run prog ((M.setCell (dj w.heap.size 0) (.slice a d.length q)).setCell ⟨w.heap.size+1,0,none⟩ (di 0)) =
     .ok (.tuple #[.slice a d.length q,di 0]) ((M.setCell (dj w.heap.size 0) (.slice a d.length q)).setCell ⟨w.heap.size+1,0,none⟩ (di 0)))/\
 i8 ((M.setCell (dj w.heap.size 0) (.slice a d.length q)).setCell ⟨w.heap.size+1,0,none⟩ (di 0)) a d/\
 dm w ((M.setCell (dj w.heap.size 0) (.slice a d.length q)).setCell ⟨w.heap.size+1,0,none⟩ (di 0)):=by
 have bt:((M.setCell (dj w.heap.size 0) (.slice a d.length q)).setCell ⟨w.heap.size+1,0,none⟩ (di 0)).cell? (dj w.heap.size 0)=some (.slice a d.length q):=by
  rw [rJ _ _ _ _ Ob];exact rK _ _ _ (by rw [h.cell])
 have ah:((M.setCell (dj w.heap.size 0) (.slice a d.length q)).setCell ⟨w.heap.size+1,0,none⟩ (di 0)).cell? ⟨w.heap.size+1,0,none⟩=some (di 0):=by
  refine rK (u:=di 0) _ _ _ ?_;rw [rJ _ _ _ _ Ob,h.ecell]
 have c:((M.setCell (dj w.heap.size 0) (.slice a d.length q)).setCell ⟨w.heap.size+1,0,none⟩ (di 0)).ownsRow (w.heap.size+2) 184 3 (.slice a d.length q) d.length (cellsOf d):=
  ownsRow_setCell_below (ownsRow_setCell_below h.own PP _) (by show w.heap.size+1<_;omega) _
 refine ⟨?_,?_,(h.below.setCell (p:=(dj w.heap.size 0)) (dA _) _).setCell (p:=⟨w.heap.size+1,0,none⟩) (rT _) _⟩
 . intro t J U
   generalize ((M.setCell (dj w.heap.size 0) (.slice a d.length q)).setCell ⟨w.heap.size+1,0,none⟩ (di 0))=g at *
   have b:t[2]?.getD undef=dF w.heap.size 0:=Pg
   have i:t[3]?.getD undef = .pointer (some ⟨w.heap.size+1,0,none⟩):=Qm
   simp [results,results157,go_sem,b,i,bt,ah]
 . obtain ⟨O,f,af,H⟩:=Gf c Y
   cases af;exact H
theorem hm.caught (h:hm w M v d) {R:Ending->World->Prop} (t:Array Value)
 (J:t.getD 2 undef=dF w.heap.size 0) (U:t.getD 3 undef = .pointer (some ⟨w.heap.size+1,0,none⟩))
 (H:∀ c,dm w c->R (.returned (.tuple #[dt,di 1])) c) :
 Leaves prog Tryz.f157 t R [{ target:=Target.fn (Fn.func 192) #[Value.pointer (some (dj w.heap.size 0)),Value.pointer (some ⟨w.heap.size+1,0,none⟩)],args:=#[] }] (.panicking iQ) M:=by
 refine leaves_cons (f:=192) (args:=#[dF w.heap.size 0,.pointer (some ⟨w.heap.size+1,0,none⟩)]) Ob O5 ?_;refine (Je w.heap.size v 0 31 (di 1) [] _ h.cell h.free h.ecell h.efree).mono ?_;rintro e S a7 ⟨rfl,rfl,rfl⟩
 have bt:((M.setCell (dj w.heap.size 0) (dt)).setCell ⟨w.heap.size+1,0,none⟩ (di 1)).cell? (dj w.heap.size 0)=some (dt):=by
  rw [rJ _ _ _ _ Ob];exact rK _ _ _ (by rw [h.cell])
 have ah:((M.setCell (dj w.heap.size 0) (dt)).setCell ⟨w.heap.size+1,0,none⟩ (di 1)).cell? ⟨w.heap.size+1,0,none⟩=some (di 1):=by
  refine rK (u:=di 0) _ _ _ ?_;rw [rJ _ _ _ _ Ob,h.ecell]
 have I:dm w ((M.setCell (dj w.heap.size 0) (dt)).setCell ⟨w.heap.size+1,0,none⟩ (di 1)):=
  (h.below.setCell (p:=(dj w.heap.size 0)) (dA _) _).setCell (p:=⟨w.heap.size+1,0,none⟩) (rT _) _
 generalize ((M.setCell (dj w.heap.size 0) (dt)).setCell ⟨w.heap.size+1,0,none⟩ (di 1))=g at *
 have b:t[2]?.getD undef=dF w.heap.size 0:=Pg
 have i:t[3]?.getD undef = .pointer (some ⟨w.heap.size+1,0,none⟩):=Qm
 refine ⟨.tuple #[dt,di 1],?_,H g I⟩;simp [results,results157,go_sem,b,i,bt,ah]
theorem Jh (s:ByteArray) (w:World) (a8:s.size<=4096) :
 dw 157 #[.string s] w fun e G=>∃ a q,e = .returned (.tuple #[.slice a (jV s).length q,di (kZ s)])/\i8 G a (jV s)/\dm w G:=by
 obtain ⟨aY,V,a9,ba,bA⟩:=info_parts Tryz.infoTok
 have x:∀ (a2:Fn) (first q:Array Value) (w:World),(Instr.makeFunc a2 first q).run prog w = .ok (.func a2 first q) w:=fun _ _ _ _=>rfl
 go_enter_defers func157,ntmps157;go_wp2_with fail
 go_loopw [4,5] (fun i _ wr=>∃ (k:Nat) (d:List Tk) (v:Value),k<=s.size/\i=di k/\iB s k d/\AllFit d/\d.length<=k/\hm w wr v d) (fun i _ _=>s.size - (intOf i).toNat)
 case atStart=>exact ⟨0,[],dt,dY _,rfl,iB.start s,AllFit.nil,dA _,hm.start w⟩
 case round =>
  obtain ⟨k,d,v,N,rfl,hinv,bg,b1,htw⟩:=hrel;have y:Hid (iB s k d):=hinv;have aD:Hid (AllFit d):=bg
  obtain ⟨a,q,rfl⟩:∃ a q,v = .slice a d.length q:=by
   rcases htw.own.2 with ⟨F,J⟩ | ⟨al,q,o,F,_⟩
   . exact ⟨none,0,by rw [J];exact F⟩
   . exact ⟨_,_,F⟩
  have aS:Hid (hm w wr (.slice a d.length q) d):=htw;have W:=htw.cell;have Y:=htw.free;have u:=htw.ecell;have C:=htw.efree;clear hinv bg htw
  by_cases ac:k<s.size
  . have A : Hid (∀ w:World,dw 193 #[.string s,di k] w fun e G=>e = .returned (di ((k+Lx.pieceN s k:Nat):Int))/\G=w):=fun w=>F4 s k w Oh ac
    have n:=Lx.z1y s k ac;have E:=Lx.zje s k
    by_cases bb:lZ s[k]=true
    . have bz:Hid (iB s (k+Lx.pieceN s k) d):=y.blank ac bb
      have m:(((s[k].toNat:Nat):Int) != 32)=false\/((((s[k].toNat:Nat):Int) != 32)=true/\(((s[k].toNat:Nat):Int) != 10)=false):=by
       unfold lZ at bb;simp only [xy,beq_iff_eq] at bb
       rcases bb with h | h
       . rw [h];exact Or.inl rfl
       . rw [h];exact Or.inr ⟨rfl,rfl⟩
      clear bb;generalize Lx.pieceN s k=a5 at *
      rcases m with p | ⟨p,B⟩
      all_goals
       go_wp2_with (go_at_call 193;refine (A _).mono ?_;rintro e w2 ⟨rfl,J⟩;obtain rfl:=J.symm)
       go_roundw
       case rel=>exact ⟨k+a5,d,_,N7,Ou,bz,aD,N7,aS⟩
       case measure=>simp [intOf];omega
    . have r:lZ s[k]=false:=by simpa using bb
      have p:(((s[k].toNat:Nat):Int) != 32)=true:=by
       rw [bne_iff_ne];intro h
       have:s[k]=32:=xw.1 (by show s[k].toNat=32;omega)
       rw [this] at r;cases r
      have B:(((s[k].toNat:Nat):Int) != 10)=true:=by
       rw [bne_iff_ne];intro h
       have:s[k]=10:=xw.1 (by show s[k].toNat=10;omega)
       rw [this] at r;cases r
      have ag:Hid (lZ s[k]=false):=r;clear bb r
      cases g:ia (s.extract k (k+Lx.pieceN s k)) with
      | none=>
        have aP:Hid (jV s=[]/\kZ s=1):=Gd N7 (y.stop ac ag g)
        have j:(s.extract k (k+Lx.pieceN s k)).size<=4096:=by rw [wI s k _ n];omega
        have b9:Hid (∀ w:World,dw 173 #[.string (s.extract k (k+Lx.pieceN s k))] w fun e G=>e = .returned (.string (s.extract k (k+Lx.pieceN s k)))/\dm w G):=fun w=>AD _ w N7
        have l:Hid (∀ w:World,dw 194 #[.string (s.extract k (k+Lx.pieceN s k))] w fun e G=>e = .panicked iQ/\dm w G):=fun w=>by
         refine (AE _ w Oh).mono ?_;rintro e G ⟨⟨D,F,J⟩ | ⟨F,J⟩,I⟩
         . rw [g] at F;cases F
         . exact ⟨J,I⟩
        clear g j y aD ag;generalize aw:Lx.pieceN s k=a5 at *;clear aw
        go_wp2_with (go_at_call 193;refine (A _).mono ?_;rintro e w2 ⟨rfl,J⟩;obtain rfl:=J.symm)
        have ck:(0:Int)<=(k:Int):=Int.natCast_nonneg _
        have a4:(k:Int)<=(k:Int)+(a5:Int):=N7
        have am:(k:Int)+(a5:Int)<=(s.size:Int):=N7
        refine wp_region_any (by kernel_rfl) ?_
        change wpAny _ _ _ _ _ _ _ (World.drew _)
        refine wpAny_take (i:=1) (v:=.string s) rfl (by kernel_rfl) (by kernel_rfl) (by kernel_rfl) (fun an a w h=>vd 25 _ N9 N9 an a w h) (Or.inl ⟨Oq,fun w=>by go_simp⟩) ?_;refine wpAny_take (i:=2) (v:=di k) rfl (by kernel_rfl) (by kernel_rfl) (by kernel_rfl) (fun an a w h=>vd 26 _ N9 N9 an a w h) (Or.inl ⟨Oq,fun w=>by go_simp⟩) ?_;refine wpAny_take (i:=3) (v:=di ((k:Int)+(a5:Int))) rfl (by kernel_rfl) (by kernel_rfl) (by kernel_rfl) (fun an a w h=>vd 27 _ N9 N9 an a w h) (Or.inl ⟨Oq,fun w=>by go_simp⟩) ?_;refine wpAny_take (i:=4) (v:=.string (s.extract k (k+a5))) rfl (by kernel_rfl) (by kernel_rfl) (by kernel_rfl) (fun an a w h=>vd 28 _ N9 N9 an a w h) (Or.inl ⟨Oq,fun w=>by go_simp;rw [show ((k:Int)+(a5:Int)).toNat=k+a5 from N7]⟩) ?_
        refine wpAny_ready (rs:=[0,5]) (by kernel_rfl) Ob ?_;refine nk rfl (fun K aO=>?_) (nk rfl (fun K aO=>?_) qj)
        . go_simp
          refine aO _ _ ?_;clear aO K;refine wpAny_ready (rs:=[5]) (by kernel_rfl) Ob ?_;refine nk rfl (fun K aO=>?_) qj;refine step_call1 Oq 173 _ _ Oq en36 _ Oq _ (b9 _) ?_;intro w2 aN;have bp:=(aS.drewT.later aN).cell;exact QY
        . refine step_call1 Oq 173 _ _ Oq en36 _ Oq _ (b9 _) ?_
          intro w2 aN;have bp:=(aS.drewT.later aN).cell;refine aO _ _ ?_;clear aO K;refine wpAny_ready (rs:=[0,6]) (by kernel_rfl) Ob ?_;refine nk rfl (fun K aO=>?_) (nk rfl (fun K aO=>?_) qj)
          . go_simp
            exact QY
          . refine xK Oq 194 _ _ Oq en35 _ Oq iQ (l _) ?_
            intro dC T;exact (hm.caught ((aS.drewT.later aN).later T) _ rfl rfl (fun c aF=>⟨none,0,PO,PB,aF⟩))
      | some t=>
        have bz:Hid (iB s (k+Lx.pieceN s k) (d++[t])/\AllFit (d++[t])):=⟨y.tok ac ag g,aD.snoc (Jg g (by rw [wI s k _ n];unfold maxLen;omega))⟩
        have j:(s.extract k (k+Lx.pieceN s k)).size<=4096:=by rw [wI s k _ n];omega
        have b9:Hid (∀ w:World,dw 173 #[.string (s.extract k (k+Lx.pieceN s k))] w fun e G=>e = .returned (.string (s.extract k (k+Lx.pieceN s k)))/\dm w G):=fun w=>AD _ w N7
        have c4:Hid (∀ w:World,dw 194 #[.string (s.extract k (k+Lx.pieceN s k))] w fun e G=>e = .returned (.agg #[di t.kind,di t.n,.string t.text])/\dm w G):=fun w=>by
         refine (AE _ w Oh).mono ?_;rintro e G ⟨⟨D,F,J⟩ | ⟨F,J⟩,I⟩
         . rw [g] at F
           obtain rfl:=eX F;exact ⟨J,I⟩
         . rw [g] at F;cases F
        clear g j y aD ag;generalize aw:Lx.pieceN s k=a5 at *;clear aw
        go_wp2_with (go_at_call 193;refine (A _).mono ?_;rintro e w2 ⟨rfl,J⟩;obtain rfl:=J.symm)
        have ck:(0:Int)<=(k:Int):=Int.natCast_nonneg _
        have a4:(k:Int)<=(k:Int)+(a5:Int):=N7
        have am:(k:Int)+(a5:Int)<=(s.size:Int):=N7
        refine wp_region_noPanic ?_
        go_region_law
         (first
           | (refine step_call1 Oq 173 _ _ Oq en36 _ Oq _ (b9 _) ?_;intro w2 aN;have bp:=(aS.drewT.later aN).cell)
           | (refine step_call1 Oq 194 _ _ Oq en35 _ Oq _ (c4 _) ?_;intro dC T;have M:=((aS.drewT.later aN).later T).cell;have bX:=((aS.drewT.later aN).later T).size;have L:w.heap.size<dC.heap.size:=N7)
           | (refine step_append_lies _ Oq _ _ _ Oq (w.heap.size+2) 184 aY _ 3 32 Tryz.underlying177 V a9 ba bA rfl N7 (.slice a d.length q) d.length (cellsOf d) Oq (((aS.drewT.later aN).later T).allocT _).own (dj dC.heap.size 0) 1 1 (qk t) Oq Oq (Gg _ _ _ _ _) (Gh _) N7 Oh N7 (by have:=((aS.drewT.later aN).later T).size;simp;omega) (dC.heap.size+1) Ob ?_;intro gg b dD hown1 f a3 z;obtain ⟨ai,P,htw4⟩:=(((aS.drewT.later aN).later T).allocT _).grown f hown1;have aJ:Hid (hm w (dD.setCell (dj w.heap.size 0) (.slice (some (dj gg 0)) (d.length+1) b)) (.slice (some (dj gg 0)) (d.length+1) b) (d++[t])):=htw4;clear hown1 f htw4))
        all_goals
         refine NoPanic.normal ?_;go_wp2_with fail;go_roundw
         case rel=>exact ⟨k+a5,d++[t],_,N7,Ou,bz.1,bz.2,by rw [eM];simp only [gY,pA];omega,aJ⟩
         case measure=>simp [intOf];omega
  . have aP:Hid (jV s=d/\kZ s=0):=AH N7 (y.done ac)
    go_wp2_with fail;refine leaves_cons (f:=192) (args:=#[dF w.heap.size 0,.pointer (some ⟨w.heap.size+1,0,none⟩)]) Ob O5 ?_;refine (Jf (dj w.heap.size 0) ⟨w.heap.size+1,0,none⟩ _).mono ?_;rintro e S a7 ⟨rfl,rfl,rfl⟩;obtain ⟨Q,H,aF⟩:=aS.leave aD;refine ⟨_,Q _ rfl rfl,a,q,by rw [aP.out.1,aP.out.2],by rw [aP.out.1];exact H,aF⟩
end Go.Proofs.YtndkhgakfodldaaGreatDoor
