import Derived.Test.YtndkhgakfodldaaGreatDoorLeafc
import Derived.Deep.RegionHeld3
import Derived.Deep.AppendLies
namespace Go.Proofs.YtndkhgakfodldaaGreatDoor
open Go.RowKit Go.Shelf
section
variable {P:Program} {ops:Array Oper} {o:Oper} {a:Act} {w:World} {K:Act->World->Prop} {Q:Exit->Act->World->Prop} {E:Prop}
theorem run_call1 (f:FuncId) (x:Operand) (ty:TypeId) (ho:o.op = .call { callee:=.value (.func f),args:=#[x],argTypes:=#[ty] })
 (Ci:Enters P f) (v:Value) (hx:a.eval x=v):(execOp a.eval o).run P w = .ok (.enter f #[v]) w:=by
 have h:=Ci #[v] w;exact gL
theorem step_call1 (BK:o.guard=none) (f:FuncId) (x:Operand) (ty:TypeId) (ho:o.op = .call { callee:=.value (.func f),args:=#[x],argTypes:=#[ty] })
 (Ci:Enters P f) (v:Value) (hx:a.eval x=v) (u:Value) {R:World->Prop} (hC:Calls P f #[v] w fun e w'=>e = .returned u/\R w')
 (h:∀ w',R w'->K (a.put o.dst u) w'):if Region.wanted o (yielded ops a.tmps)=true then Oper.wp P o a w K Q else E:=by
 exact ic
theorem zh0 (BK:o.guard=none) (f:FuncId) (x:Operand) (ty:TypeId) (ho:o.op = .call { callee:=.value (.func f),args:=#[x],argTypes:=#[ty] })
 (Ci:Enters P f) (v:Value) (hx:a.eval x=v) (c:List PanicEntry) {R:World->Prop} (hC:Calls P f #[v] w fun e w'=>e = .panicked c/\R w')
 (h:∀ w',R w'->Q (.panic c) a w'):if Region.wanted o (yielded ops a.tmps)=true then Oper.wp P o a w K Q else E:=by
 exact ic
end
theorem zh1 {P:Program} {fn:Func} {t1 t2:Array Value} {R:Ending->World->Prop} (h:results fn t1=results fn t2) :
 ∀ (ds:List Deferred) (u:FrameMode) (w:World),Leaves P fn t1 R ds u w->Leaves P fn t2 R ds u w
 | [],.returning,w,hl=>by simpa only [Leaves,h] using hl
 | [],.panicking _,_,hl=>hl
 | [],.run,_,hl=>hl
 | d :: ds,u,w,hl=>by
   obtain ⟨h1,fv,cap,f,args,h2,h3,h4⟩:=hl;refine ⟨h1,fv,cap,f,args,h2,h3,h4.mono ?_⟩;intro e u' w' h5
   cases e with
   | returned v=>exact zh1 h ds _ w' h5
   | panicked c=>exact zh1 h ds _ w' h5
   | outgrown=>exact h5
theorem zpe (t:Array Value) (d:Nat) (v:Value) (h2:d≠2) (h3:d≠3):results Tryz.f157 (t.setIfInBounds d v)=results Tryz.f157 t:=by
 unfold results;rw [Tryz.results157];simp [Array.getElem?_setIfInBounds,h2,h3]
theorem zg6 {R:Ending->World->Prop} (d:Nat) (v:Value) (h2:d≠2) (h3:d≠3) (c:List PanicEntry) (a:Act) (w:World)
 (h:bodyPostD Tryz.prog Tryz.f157 R (.panic c) (a.put (some d) v) w):bodyPostD Tryz.prog Tryz.f157 R (.panic c) a w:=
 zh1 (zpe a.tmps d v h2 h3) _ _ _ h
end Go.Proofs.YtndkhgakfodldaaGreatDoor

namespace Go.Proofs.YtndkhgakfodldaaGreatDoor
set_option maxRecDepth 100000
set_option maxHeartbeats 1000000
open Go.RowKit
theorem en36:Enters Tryz.prog 173:=enters_of Tryz.func173 ah rfl
theorem en35:Enters Tryz.prog 194:=enters_of Tryz.func194 ah rfl
theorem zlr (b:Nat) (x:Value) (y:Int) (u:TypeId) (pv:Value) (older:List PanicEntry) (w:World)
 (hc:w.cell? (qa b 0)=some x) (hz:w.frozen? (qa b 0)=false) (hd:w.cell? ⟨b+1,0,none⟩=some (qi y)) (hy:w.frozen? ⟨b+1,0,none⟩=false) :
 CallsD Tryz.prog 192 #[pq b 0,.pointer (some ⟨b+1,0,none⟩)] (.panicking ({ v:=.iface u pv,recovered:=false } :: older)) w fun e u' w'=>
  e = .returned (.tuple #[])/\u' = .panicking ({ v:=.iface u pv,recovered:=true } :: older)/\w'=(w.setCell (qa b 0) (qs)).setCell ⟨b+1,0,none⟩ (qi 1):=by
 have DE:(w.setCell (qa b 0) (qs)).cell? ⟨b+1,0,none⟩=some (qi y):=by
  rw [vbx _ _ _ _ aA];exact hd
 have D0:(w.setCell (qa b 0) (qs)).frozen? ⟨b+1,0,none⟩=false:=by
  simpa using hy
 refine callsD_of_wpS Tryz.func192 rfl fun c₀ cs hu=>?_
 apply wpS_seq
 apply wpS_region
 simp [wpOpsS,go_sem,recoverD,hu,Tryz.ntmps192,Exit.thenS];refine wpS_cond (t:=true) cg ?_;simp only [if_true]
 apply wpS_region
 simp [wpOpsS,go_sem,hc,hz,DE,D0,bodyPostS,results,Tryz.results192]
theorem zw4 (p q:Addr) (w:World) :
 CallsD Tryz.prog 192 #[.pointer (some p),.pointer (some q)] .returning w fun e u' w'=>e = .returned (.tuple #[])/\u' = .returning/\w'=w:=by
 refine callsD_of_wpS Tryz.func192 rfl fun c₀ cs hu=>?_
 apply wpS_seq
 apply wpS_region
 simp [wpOpsS,go_sem,recoverD,hu,Tryz.ntmps192,Exit.thenS];refine wpS_cond (t:=false) cg ?_;simp only [vcx,if_false];refine wpS_of_wp (wp_skip ?_)
 cases c₀
 simp_all [bodyPostS,results,Tryz.results192]
structure TokWorld (w W:World) (v:Value) (ts:List Tk):Prop where
 below:qb w W
 size:w.heap.size+2<=W.heap.size
 cell:W.cell? (qa w.heap.size 0)=some v
 free:W.frozen? (qa w.heap.size 0)=false
 ecell:W.cell? ⟨w.heap.size+1,0,none⟩=some (qi 0)
 efree:W.frozen? ⟨w.heap.size+1,0,none⟩=false
 own:W.ownsRow (w.heap.size+2) 184 3 v ts.length (cellsOf ts)
theorem TokWorld.start (w:World):TokWorld w ((w.alloc (Obj.cells #[Value.slice none 0 0] 177)).alloc (Obj.cells #[Value.int IntKind.i64 0] 31)) (qs) [] where
 below:=((Below.refl _ _).alloc (vaa _) _).alloc aA _
 size:=aA
 cell:=cN
 free:=cN
 ecell:=cN
 efree:=cN
 own:=ves _ _ _ _
theorem TokWorld.later {w W W':World} {v:Value} {ts:List Tk} (h:TokWorld w W v ts) (hb:qb W W'):TokWorld w W' v ts where
 below:=h.below.trans (hb.mono h.below.size)
 size:=vbd h.size hb.size
 cell:=(hb.cell (p:=(qa w.heap.size 0)) (by have:=h.size;show w.heap.size<_;omega)).trans h.cell
 free:=(hb.frozen (p:=(qa w.heap.size 0)) (by have:=h.size;show w.heap.size<_;omega)).trans h.free
 ecell:=(hb.cell (p:=⟨w.heap.size+1,0,none⟩) (by have:=h.size;show w.heap.size+1<_;omega)).trans h.ecell
 efree:=(hb.frozen (p:=⟨w.heap.size+1,0,none⟩) (by have:=h.size;show w.heap.size+1<_;omega)).trans h.efree
 own:=ownsRow_later h.own hb
theorem zw5 {s:ByteArray} {t:Tk} (h:zc9 s=some t) (hs:s.size<=maxLen):t.fits:=by
 unfold zc9 at h;unfold Tk.fits
 split at h
 . cases h;exact hs
 . split at h
   . cases h;exact hs
   . split at h
     . cases h;exact vaf _
     . cases h
theorem TokWorld.drewT {w W:World} {v:Value} {ts:List Tk} (h:TokWorld w W v ts):TokWorld w W.drew v ts:=
 ⟨h.below.drew,h.size,h.cell,h.free,h.ecell,h.efree,h.own⟩
theorem TokWorld.allocT {w W:World} {v:Value} {ts:List Tk} (h:TokWorld w W v ts) (o:Obj):TokWorld w (W.alloc o) v ts:=
 h.later ((Below.refl _ _).alloc (vaa _) _)
theorem TokWorld.notOwn {w W:World} {v:Value} {ts:List Tk} (h:TokWorld w W v ts) (b:Nat) (hb:b<w.heap.size+2):some b≠v.ownBlock:=by
 intro e;have:=(h.own.lt b e.symm).1;omega
theorem TokWorld.grown {w W W':World} {v v':Value} {ts:List Tk} {t:Tk} (h:TokWorld w W v ts) (hg:W.grownBy W' v.ownBlock) (ho:W'.ownsRow (w.heap.size+2) 184 3 v' (ts.length+1) (cellsOf ts++tkCells t)) :
 W'.cell? (qa w.heap.size 0)=some v/\W'.frozen? (qa w.heap.size 0)=false/\TokWorld w (W'.setCell (qa w.heap.size 0) v') v' (ts++[t]):=by
 have Cy:=h.size;have c0:=(hg.cell_far (qa w.heap.size 0) ey (h.notOwn w.heap.size ae)).trans h.cell;have f0:=(hg.frozen_far (qa w.heap.size 0) ey (h.notOwn w.heap.size ae)).trans h.free;have c1:=(hg.cell_far ⟨w.heap.size+1,0,none⟩ (by show w.heap.size+1<_;omega) (h.notOwn (w.heap.size+1) ae)).trans h.ecell;have f1:=(hg.frozen_far ⟨w.heap.size+1,0,none⟩ (by show w.heap.size+1<_;omega) (h.notOwn (w.heap.size+1) ae)).trans h.efree;have hb:qb w W':=h.below.grown hg h.below.size (fun k hk=>by have:=(h.own.lt k hk).1;omega);have F9:W.heap.size<=W'.heap.size:=hg.size;refine ⟨c0,f0,?_⟩
 exact {
  below:=hb.setCell (p:=(qa w.heap.size 0)) (vaa _) _
  size:=by
   show w.heap.size+2<=(W'.setCell (qa w.heap.size 0) v').heap.size;rw [vaq];omega
  cell:=vcb _ _ _ (by rw [c0])
  free:=by rw [World.frozen?_setCell];exact f0
  ecell:=by rw [vbx _ _ _ _ aA];exact c1
  efree:=by rw [World.frozen?_setCell];exact f1
  own:=by
   rw [zqv,vaj]
   exact ownsRow_setCell_below ho ey _ }
theorem TokWorld.leave {w W:World} {a:OA} {cap:Nat} {ts:List Tk} (h:TokWorld w W (.slice a ts.length cap) ts) (hf:AllFit ts) :
 (∀ t:Array Value,t.getD 2 undef=pq w.heap.size 0->t.getD 3 undef = .pointer (some ⟨w.heap.size+1,0,none⟩)->
   (results Tryz.f157 t).run Tryz.prog ((W.setCell (qa w.heap.size 0) (.slice a ts.length cap)).setCell ⟨w.heap.size+1,0,none⟩ (qi 0)) =
     .ok (.tuple #[.slice a ts.length cap,qi 0]) ((W.setCell (qa w.heap.size 0) (.slice a ts.length cap)).setCell ⟨w.heap.size+1,0,none⟩ (qi 0)))/\
 zdb ((W.setCell (qa w.heap.size 0) (.slice a ts.length cap)).setCell ⟨w.heap.size+1,0,none⟩ (qi 0)) a ts/\
 qb w ((W.setCell (qa w.heap.size 0) (.slice a ts.length cap)).setCell ⟨w.heap.size+1,0,none⟩ (qi 0)):=by
 have c0:((W.setCell (qa w.heap.size 0) (.slice a ts.length cap)).setCell ⟨w.heap.size+1,0,none⟩ (qi 0)).cell? (qa w.heap.size 0)=some (.slice a ts.length cap):=by
  rw [vbx _ _ _ _ aA];exact vcb _ _ _ (by rw [h.cell])
 have c1:((W.setCell (qa w.heap.size 0) (.slice a ts.length cap)).setCell ⟨w.heap.size+1,0,none⟩ (qi 0)).cell? ⟨w.heap.size+1,0,none⟩=some (qi 0):=by
  refine vcb (u:=qi 0) _ _ _ ?_;rw [vbx _ _ _ _ aA,h.ecell]
 have own:((W.setCell (qa w.heap.size 0) (.slice a ts.length cap)).setCell ⟨w.heap.size+1,0,none⟩ (qi 0)).ownsRow (w.heap.size+2) 184 3 (.slice a ts.length cap) ts.length (cellsOf ts):=
  ownsRow_setCell_below (ownsRow_setCell_below h.own ey _) (by show w.heap.size+1<_;omega) _
 refine ⟨?_,?_,(h.below.setCell (p:=(qa w.heap.size 0)) (vaa _) _).setCell (p:=⟨w.heap.size+1,0,none⟩) (vel _) _⟩
 . intro t h2 h3
   generalize ((W.setCell (qa w.heap.size 0) (.slice a ts.length cap)).setCell ⟨w.heap.size+1,0,none⟩ (qi 0))=X at *
   have Gz:t[2]?.getD undef=pq w.heap.size 0:=dz
   have He:t[3]?.getD undef = .pointer (some ⟨w.heap.size+1,0,none⟩):=by simpa using h3
   simp [results,Tryz.results157,go_sem,Gz,He,c0,c1]
 . obtain ⟨a',cap',hv,hT⟩:=zwh own hf
   cases hv;exact hT
theorem TokWorld.caught {w W:World} {v:Value} {ts:List Tk} (h:TokWorld w W v ts) {R:Ending->World->Prop} (t:Array Value)
 (h2:t.getD 2 undef=pq w.heap.size 0) (h3:t.getD 3 undef = .pointer (some ⟨w.heap.size+1,0,none⟩))
 (hR:∀ W',qb w W'->R (.returned (.tuple #[qs,qi 1])) W') :
 Leaves Tryz.prog Tryz.f157 t R [{ target:=Target.fn (Fn.func 192) #[Value.pointer (some (qa w.heap.size 0)),Value.pointer (some ⟨w.heap.size+1,0,none⟩)],args:=#[] }] (.panicking zai) W:=by
 refine leaves_cons (f:=192) (args:=#[pq w.heap.size 0,.pointer (some ⟨w.heap.size+1,0,none⟩)]) aA cN ?_;refine (zlr w.heap.size v 0 31 (qi 1) [] _ h.cell h.free h.ecell h.efree).mono ?_;rintro e u' AC ⟨rfl,rfl,rfl⟩
 have c0:((W.setCell (qa w.heap.size 0) (qs)).setCell ⟨w.heap.size+1,0,none⟩ (qi 1)).cell? (qa w.heap.size 0)=some (qs):=by
  rw [vbx _ _ _ _ aA];exact vcb _ _ _ (by rw [h.cell])
 have c1:((W.setCell (qa w.heap.size 0) (qs)).setCell ⟨w.heap.size+1,0,none⟩ (qi 1)).cell? ⟨w.heap.size+1,0,none⟩=some (qi 1):=by
  refine vcb (u:=qi 0) _ _ _ ?_;rw [vbx _ _ _ _ aA,h.ecell]
 have hb:qb w ((W.setCell (qa w.heap.size 0) (qs)).setCell ⟨w.heap.size+1,0,none⟩ (qi 1)):=
  (h.below.setCell (p:=(qa w.heap.size 0)) (vaa _) _).setCell (p:=⟨w.heap.size+1,0,none⟩) (vel _) _
 generalize ((W.setCell (qa w.heap.size 0) (qs)).setCell ⟨w.heap.size+1,0,none⟩ (qi 1))=X at *
 have Gz:t[2]?.getD undef=pq w.heap.size 0:=dz
 have He:t[3]?.getD undef = .pointer (some ⟨w.heap.size+1,0,none⟩):=by simpa using h3
 refine ⟨.tuple #[qs,qi 1],?_,hR X hb⟩;simp [results,Tryz.results157,go_sem,Gz,He,c0,c1]
theorem zw6 (s:ByteArray) (w:World) (hs:s.size<=4096) :
 qc 157 #[.string s] w fun e w'=>∃ a cap,e = .returned (.tuple #[.slice a (lexT s).length cap,qi (lexE s)])/\zdb w' a (lexT s)/\qb w w':=by
 obtain ⟨i0,hi,Bx,Ao,Ay⟩:=info_parts Tryz.infoTok
 have Ru:∀ (fn:Fn) (first cap:Array Value) (w:World),(Instr.makeFunc fn first cap).run Tryz.prog w = .ok (.func fn first cap) w:=fun _ _ _ _=>rfl
 go_enter_defers Tryz.func157,Tryz.ntmps157;go_wp2_with fail
 go_loopw [4,5] (fun i _ wr=>∃ (k:Nat) (ts:List Tk) (v:Value),k<=s.size/\i=qi k/\zcf s k ts/\AllFit ts/\ts.length<=k/\TokWorld w wr v ts) (fun i _ _=>s.size - (intOf i).toNat)
 case atStart=>exact ⟨0,[],qs,vaf _,rfl,zcf.start s,AllFit.nil,vaa _,TokWorld.start w⟩
 case round =>
  obtain ⟨k,ts,v,hk,rfl,hinv,Bu,Ah,htw⟩:=hrel;have HI:Hid (zcf s k ts):=hinv;have HF:Hid (AllFit ts):=Bu
  obtain ⟨a,cap,rfl⟩:∃ a cap,v = .slice a ts.length cap:=by
   rcases htw.own.2 with ⟨h1,h2⟩ | ⟨g,cap,AD,h1,_⟩
   . exact ⟨none,0,by rw [h2];exact h1⟩
   . exact ⟨_,_,h1⟩
  have HW:Hid (TokWorld w wr (.slice a ts.length cap) ts):=htw;have hc:=htw.cell;have hf:=htw.free;have PN:=htw.ecell;have Uf:=htw.efree;clear hinv Bu htw
  by_cases A0:k<s.size
  . have HP : Hid (∀ w:World,qc 193 #[.string s,qi k] w fun e w'=>e = .returned (qi ((k+Lx.pieceN s k:Nat):Int))/\w'=w):=fun w=>zqs s k w aP A0
    have I0:=Lx.zz8 s k A0;have Pp:=Lx.zg4 s k
    by_cases Av:ze4 s[k]=true
    . have HG:Hid (zcf s (k+Lx.pieceN s k) ts):=HI.out.blank A0 Av
      have Fb:(((s[k].toNat:Nat):Int) != 32)=false\/((((s[k].toNat:Nat):Int) != 32)=true/\(((s[k].toNat:Nat):Int) != 10)=false):=by
       unfold ze4 at Av;simp only [vef,beq_iff_eq] at Av
       rcases Av with h | h
       . rw [h];exact Or.inl rfl
       . rw [h];exact Or.inr ⟨rfl,rfl⟩
      clear Av;generalize Lx.pieceN s k=N at *
      rcases Fb with Q6 | ⟨Q6,Ef⟩
      all_goals
       go_wp2_with (go_at_call 193;refine (HP.out _).mono ?_;rintro e w2 ⟨rfl,h2⟩;obtain rfl:=h2.symm)
       go_roundw
       case rel=>exact ⟨k+N,ts,_,ae,aR,HG.out,HF.out,ae,HW.out⟩
       case measure=>simp [intOf];omega
    . have DG:ze4 s[k]=false:=by simpa using Av
      have Q6:(((s[k].toNat:Nat):Int) != 32)=true:=by
       rw [bne_iff_ne];intro h
       have:s[k]=32:=veh.1 (by show s[k].toNat=32;omega)
       rw [this] at DG;cases DG
      have Ef:(((s[k].toNat:Nat):Int) != 10)=true:=by
       rw [bne_iff_ne];intro h
       have:s[k]=10:=veh.1 (by show s[k].toNat=10;omega)
       rw [this] at DG;cases DG
      have HB:Hid (ze4 s[k]=false):=DG;clear Av DG
      cases FP:zc9 (s.extract k (k+Lx.pieceN s k)) with
      | none=>
        have HE:Hid (lexT s=[]/\lexE s=1):=z70 ae (HI.out.stop A0 HB.out FP)
        have Hz:(s.extract k (k+Lx.pieceN s k)).size<=4096:=by rw [zgk s k _ I0];omega
        have F3:Hid (∀ w:World,qc 173 #[.string (s.extract k (k+Lx.pieceN s k))] w fun e w'=>e = .returned (.string (s.extract k (k+Lx.pieceN s k)))/\qb w w'):=fun w=>zqt _ w ae
        have O4:Hid (∀ w:World,qc 194 #[.string (s.extract k (k+Lx.pieceN s k))] w fun e w'=>e = .panicked zai/\qb w w'):=fun w=>by
         refine (zqu _ w aP).mono ?_;rintro e w' ⟨⟨t',h1,h2⟩ | ⟨h1,h2⟩,hb⟩
         . rw [FP] at h1;cases h1
         . exact ⟨h2,hb⟩
        clear FP Hz HI HF HB;generalize hN:Lx.pieceN s k=N at *;clear hN
        go_wp2_with (go_at_call 193;refine (HP.out _).mono ?_;rintro e w2 ⟨rfl,h2⟩;obtain rfl:=h2.symm)
        have LF:(0:Int)<=(k:Int):=Int.natCast_nonneg _
        have AP:(k:Int)<=(k:Int)+(N:Int):=ae
        have AG:(k:Int)+(N:Int)<=(s.size:Int):=ae
        refine wp_region_any ah ?_
        change wpAny _ _ _ _ _ _ _ (World.drew _)
        refine wpAny_take (i:=1) (v:=.string s) rfl ah ah ah (fun c a w h=>zg6 25 _ aq aq c a w h) (Or.inl ⟨aH,fun w=>by go_simp⟩) ?_;refine wpAny_take (i:=2) (v:=qi k) rfl ah ah ah (fun c a w h=>zg6 26 _ aq aq c a w h) (Or.inl ⟨aH,fun w=>by go_simp⟩) ?_;refine wpAny_take (i:=3) (v:=qi ((k:Int)+(N:Int))) rfl ah ah ah (fun c a w h=>zg6 27 _ aq aq c a w h) (Or.inl ⟨aH,fun w=>by go_simp⟩) ?_;refine wpAny_take (i:=4) (v:=.string (s.extract k (k+N))) rfl ah ah ah (fun c a w h=>zg6 28 _ aq aq c a w h) (Or.inl ⟨aH,fun w=>by go_simp;rw [show ((k:Int)+(N:Int)).toNat=k+N from ae]⟩) ?_
        refine wpAny_ready (rs:=[0,5]) ah aA ?_;refine ver rfl (fun K hK=>?_) (ver rfl (fun K hK=>?_) veu)
        . go_simp
          refine hK _ _ ?_;clear hK K;refine wpAny_ready (rs:=[5]) ah aA ?_;refine ver rfl (fun K hK=>?_) veu;refine step_call1 aH 173 _ _ aH en36 _ aH _ (F3.out _) ?_;intro w2 Ab;have C7:=(HW.out.drewT.later Ab).cell;exact gz
        . refine step_call1 aH 173 _ _ aH en36 _ aH _ (F3.out _) ?_
          intro w2 Ab;have C7:=(HW.out.drewT.later Ab).cell;refine hK _ _ ?_;clear hK K;refine wpAny_ready (rs:=[0,6]) ah aA ?_;refine ver rfl (fun K hK=>?_) (ver rfl (fun K hK=>?_) veu)
          . go_simp
            exact gz
          . refine zh0 aH 194 _ _ aH en35 _ aH zai (O4.out _) ?_
            intro w3 A9;exact (TokWorld.caught ((HW.out.drewT.later Ab).later A9) _ rfl rfl (fun W' hB=>⟨none,0,ew,dA,hB⟩))
      | some t=>
        have HG:Hid (zcf s (k+Lx.pieceN s k) (ts++[t])/\AllFit (ts++[t])):=⟨HI.out.tok A0 HB.out FP,HF.out.snoc (zw5 FP (by rw [zgk s k _ I0];unfold maxLen;omega))⟩
        have Hz:(s.extract k (k+Lx.pieceN s k)).size<=4096:=by rw [zgk s k _ I0];omega
        have F3:Hid (∀ w:World,qc 173 #[.string (s.extract k (k+Lx.pieceN s k))] w fun e w'=>e = .returned (.string (s.extract k (k+Lx.pieceN s k)))/\qb w w'):=fun w=>zqt _ w ae
        have O5:Hid (∀ w:World,qc 194 #[.string (s.extract k (k+Lx.pieceN s k))] w fun e w'=>e = .returned (.agg #[qi t.kind,qi t.n,.string t.text])/\qb w w'):=fun w=>by
         refine (zqu _ w aP).mono ?_;rintro e w' ⟨⟨t',h1,h2⟩ | ⟨h1,h2⟩,hb⟩
         . rw [FP] at h1
           obtain rfl:=vab h1;exact ⟨h2,hb⟩
         . rw [FP] at h1;cases h1
        clear FP Hz HI HF HB;generalize hN:Lx.pieceN s k=N at *;clear hN
        go_wp2_with (go_at_call 193;refine (HP.out _).mono ?_;rintro e w2 ⟨rfl,h2⟩;obtain rfl:=h2.symm)
        have LF:(0:Int)<=(k:Int):=Int.natCast_nonneg _
        have AP:(k:Int)<=(k:Int)+(N:Int):=ae
        have AG:(k:Int)+(N:Int)<=(s.size:Int):=ae
        refine wp_region_noPanic ?_
        go_region_law
         (first
           | (refine step_call1 aH 173 _ _ aH en36 _ aH _ (F3.out _) ?_;intro w2 Ab;have C7:=(HW.out.drewT.later Ab).cell)
           | (refine step_call1 aH 194 _ _ aH en35 _ aH _ (O5.out _) ?_;intro w3 A9;have EX:=((HW.out.drewT.later Ab).later A9).cell;have BB:=((HW.out.drewT.later Ab).later A9).size;have QW:w.heap.size<w3.heap.size:=ae)
           | (refine step_append_lies _ aH _ _ _ aH (w.heap.size+2) 184 i0 _ 3 32 Tryz.underlying177 hi Bx Ao Ay rfl ae (.slice a ts.length cap) ts.length (cellsOf ts) aH (((HW.out.drewT.later Ab).later A9).allocT _).own (qa w3.heap.size 0) 1 1 (tkCells t) aH aH (zys _ _ _ _ _) (zyt _) ae aP ae (by have:=((HW.out.drewT.later Ab).later A9).size;simp;omega) (w3.heap.size+1) aA ?_;intro gg Bg w4 hown1 AM AH N1;obtain ⟨Gu,LQ,htw4⟩:=(((HW.out.drewT.later Ab).later A9).allocT _).grown AM hown1;have SN:Hid (TokWorld w (w4.setCell (qa w.heap.size 0) (.slice (some (qa gg 0)) (ts.length+1) Bg)) (.slice (some (qa gg 0)) (ts.length+1) Bg) (ts++[t])):=htw4;clear hown1 AM htw4))
        all_goals
         refine NoPanic.normal ?_;go_wp2_with fail;go_roundw
         case rel=>exact ⟨k+N,ts++[t],_,ae,aR,HG.out.1,HG.out.2,by rw [vaj];simp only [vaw,vcr];omega,SN.out⟩
         case measure=>simp [intOf];omega
  . have HE:Hid (lexT s=ts/\lexE s=0):=zyq ae (HI.out.done A0)
    go_wp2_with fail;refine leaves_cons (f:=192) (args:=#[pq w.heap.size 0,.pointer (some ⟨w.heap.size+1,0,none⟩)]) aA cN ?_;refine (zw4 (qa w.heap.size 0) ⟨w.heap.size+1,0,none⟩ _).mono ?_;rintro e u' AC ⟨rfl,rfl,rfl⟩;obtain ⟨hr,hT,hB⟩:=HW.out.leave HF.out;refine ⟨_,hr _ rfl rfl,a,cap,by rw [HE.out.1,HE.out.2],by rw [HE.out.1];exact hT,hB⟩
end Go.Proofs.YtndkhgakfodldaaGreatDoor
