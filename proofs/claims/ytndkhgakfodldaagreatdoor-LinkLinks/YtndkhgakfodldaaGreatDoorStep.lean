import Derived.Test.YtndkhgakfodldaaGreatDoorLeafc
import Derived.Deep.RegionHeld3
import Derived.Deep.AppendLies
namespace Go.Proofs.YtndkhgakfodldaaGreatDoor
open Go.RowKit Go.Shelf
section
variable {P:Program} {ops:Array Oper} {o:Oper} {a:Act} {w:World} {K:Act->World->Prop} {Q:Exit->Act->World->Prop} {E:Prop}
theorem run_call1 (f:FuncId) (x:Operand) (ty:TypeId) (ho:o.op = .call { callee:=.value (.func f),args:=#[x],argTypes:=#[ty] })
 (C7:Enters P f) (v:Value) (hx:a.eval x=v):(execOp a.eval o).run P w = .ok (.enter f #[v]) w:=by
 have h:=C7 #[v] w;have hf:a.eval (.func f) = .func (.func f) #[] #[]:=rfl;simp [execOp,ho,resolve,invoke,hx,hf,h,Deferred.ofValue]
theorem step_call1 (BC:o.guard=none) (f:FuncId) (x:Operand) (ty:TypeId) (ho:o.op = .call { callee:=.value (.func f),args:=#[x],argTypes:=#[ty] })
 (C7:Enters P f) (v:Value) (hx:a.eval x=v) (u:Value) {R:World->Prop} (hC:Calls P f #[v] w fun e w'=>e = .returned u/\R w')
 (h:∀ w',R w'->K (a.put o.dst u) w'):if Region.wanted o (yielded ops a.tmps)=true then Oper.wp P o a w K Q else E:=by
 have hw:Region.wanted o (yielded ops a.tmps)=true:=by simp [Region.wanted,BC]
 rw [if_pos hw];unfold Oper.wp;rw [run_call1 f x ty ho C7 v hx,vds];refine hC.mono ?_;rintro e w' ⟨rfl,hR⟩;exact h w' hR
theorem zgx (BC:o.guard=none) (f:FuncId) (x:Operand) (ty:TypeId) (ho:o.op = .call { callee:=.value (.func f),args:=#[x],argTypes:=#[ty] })
 (C7:Enters P f) (v:Value) (hx:a.eval x=v) (c:List PanicEntry) {R:World->Prop} (hC:Calls P f #[v] w fun e w'=>e = .panicked c/\R w')
 (h:∀ w',R w'->Q (.panic c) a w'):if Region.wanted o (yielded ops a.tmps)=true then Oper.wp P o a w K Q else E:=by
 have hw:Region.wanted o (yielded ops a.tmps)=true:=by simp [Region.wanted,BC]
 rw [if_pos hw];unfold Oper.wp;rw [run_call1 f x ty ho C7 v hx,vds];refine hC.mono ?_;rintro e w' ⟨rfl,hR⟩;exact h w' hR
end
theorem zgy {P:Program} {fn:Func} {t1 t2:Array Value} {R:Ending->World->Prop} (h:results fn t1=results fn t2) :
 ∀ (ds:List Deferred) (u:FrameMode) (w:World),Leaves P fn t1 R ds u w->Leaves P fn t2 R ds u w
 | [],.returning,w,hl=>by simpa only [Leaves,h] using hl
 | [],.panicking _,_,hl=>hl
 | [],.run,_,hl=>hl
 | d :: ds,u,w,hl=>by
   obtain ⟨h1,fv,cap,f,args,h2,h3,h4⟩:=hl;refine ⟨h1,fv,cap,f,args,h2,h3,h4.mono ?_⟩;intro e u' w' h5
   cases e with
   | returned v=>exact zgy h ds _ w' h5
   | panicked c=>exact zgy h ds _ w' h5
   | outgrown=>exact h5
theorem znr (t:Array Value) (d:Nat) (v:Value) (h2:d≠2) (h3:d≠3):results Tryz.f157 (t.setIfInBounds d v)=results Tryz.f157 t:=by
 unfold results;rw [Tryz.results157];simp [Array.getElem?_setIfInBounds,h2,h3]
theorem zf9 {R:Ending->World->Prop} (d:Nat) (v:Value) (h2:d≠2) (h3:d≠3) (c:List PanicEntry) (a:Act) (w:World)
 (h:bodyPostD Tryz.prog Tryz.f157 R (.panic c) (a.put (some d) v) w):bodyPostD Tryz.prog Tryz.f157 R (.panic c) a w:=
 zgy (znr a.tmps d v h2 h3) _ _ _ h
end Go.Proofs.YtndkhgakfodldaaGreatDoor

namespace Go.Proofs.YtndkhgakfodldaaGreatDoor
set_option maxRecDepth 100000
set_option maxHeartbeats 1000000
open Go.RowKit
theorem en36:Enters Tryz.prog 173:=enters_of Tryz.func173 (by kernel_rfl) rfl
theorem en35:Enters Tryz.prog 194:=enters_of Tryz.func194 (by kernel_rfl) rfl
theorem zj9 (b:Nat) (x:Value) (y:Int) (u:TypeId) (pv:Value) (older:List PanicEntry) (w:World)
 (hc:w.cell? (qa b 0)=some x) (hz:w.frozen? (qa b 0)=false) (hd:w.cell? ⟨b+1,0,none⟩=some (qi y)) (hy:w.frozen? ⟨b+1,0,none⟩=false) :
 CallsD Tryz.prog 192 #[pq b 0,.pointer (some ⟨b+1,0,none⟩)] (.panicking ({ v:=.iface u pv,recovered:=false } :: older)) w fun e u' w'=>
  e = .returned (.tuple #[])/\u' = .panicking ({ v:=.iface u pv,recovered:=true } :: older)/\w'=(w.setCell (qa b 0) (qs)).setCell ⟨b+1,0,none⟩ (qi 1):=by
 have Df:(w.setCell (qa b 0) (qs)).cell? ⟨b+1,0,none⟩=some (qi y):=by
  rw [vbx _ _ _ _ (by simp)];exact hd
 have CW:(w.setCell (qa b 0) (qs)).frozen? ⟨b+1,0,none⟩=false:=by
  simpa using hy
 refine callsD_of_wpS Tryz.func192 rfl fun c₀ cs hu=>?_
 apply wpS_seq
 apply wpS_region
 simp [wpOpsS,go_sem,recoverD,hu,Tryz.ntmps192,Exit.thenS];refine wpS_cond (t:=true) (by simp [Act.eval,Array.replicate]) ?_;simp only [if_true]
 apply wpS_region
 simp [wpOpsS,go_sem,hc,hz,Df,CW,bodyPostS,results,Tryz.results192]
theorem zuz (p q:Addr) (w:World) :
 CallsD Tryz.prog 192 #[.pointer (some p),.pointer (some q)] .returning w fun e u' w'=>e = .returned (.tuple #[])/\u' = .returning/\w'=w:=by
 refine callsD_of_wpS Tryz.func192 rfl fun c₀ cs hu=>?_
 apply wpS_seq
 apply wpS_region
 simp [wpOpsS,go_sem,recoverD,hu,Tryz.ntmps192,Exit.thenS];refine wpS_cond (t:=false) (by simp [Act.eval,Array.replicate]) ?_;simp only [vcu,if_false];refine wpS_of_wp (wp_skip ?_)
 cases c₀
 simp_all [bodyPostS,results,Tryz.results192]
structure TokWorld (w W:World) (v:Value) (ts:List Tk):Prop where
 below:qb w W
 size:w.heap.size+2<=W.heap.size
 cell:W.cell? (qa w.heap.size 0)=some v
 free:W.frozen? (qa w.heap.size 0)=false
 ecell:W.cell? ⟨w.heap.size+1,0,none⟩=some (qi 0)
 efree:W.frozen? ⟨w.heap.size+1,0,none⟩=false
 own:W.ownsRow (w.heap.size+2) 184 3 v ts.length (cellsOf ts)
theorem TokWorld.start (w:World):TokWorld w ((w.alloc (Obj.cells #[Value.slice none 0 0] 177)).alloc (Obj.cells #[Value.int IntKind.i64 0] 31)) (qs) [] where
 below:=((Below.refl _ _).alloc (vaa _) _).alloc (by simp) _
 size:=by simp
 cell:=by simp [go_sem]
 free:=by simp [go_sem]
 ecell:=by simp [go_sem]
 efree:=by simp [go_sem]
 own:=ver _ _ _ _
theorem TokWorld.later {w W W':World} {v:Value} {ts:List Tk} (h:TokWorld w W v ts) (hb:qb W W'):TokWorld w W' v ts where
 below:=h.below.trans (hb.mono h.below.size)
 size:=vbd h.size hb.size
 cell:=(hb.cell (p:=(qa w.heap.size 0)) (by have:=h.size;show w.heap.size<_;omega)).trans h.cell
 free:=(hb.frozen (p:=(qa w.heap.size 0)) (by have:=h.size;show w.heap.size<_;omega)).trans h.free
 ecell:=(hb.cell (p:=⟨w.heap.size+1,0,none⟩) (by have:=h.size;show w.heap.size+1<_;omega)).trans h.ecell
 efree:=(hb.frozen (p:=⟨w.heap.size+1,0,none⟩) (by have:=h.size;show w.heap.size+1<_;omega)).trans h.efree
 own:=ownsRow_later h.own hb
theorem zu0 {s:ByteArray} {t:Tk} (h:zdu s=some t) (hs:s.size<=maxLen):t.fits:=by
 unfold zdu at h;unfold Tk.fits
 split at h
 . cases h;exact hs
 . split at h
   . cases h;exact hs
   . split at h
     . cases h;exact vae _
     . cases h
theorem TokWorld.drewT {w W:World} {v:Value} {ts:List Tk} (h:TokWorld w W v ts):TokWorld w W.drew v ts:=
 ⟨h.below.drew,h.size,h.cell,h.free,h.ecell,h.efree,h.own⟩
theorem TokWorld.allocT {w W:World} {v:Value} {ts:List Tk} (h:TokWorld w W v ts) (o:Obj):TokWorld w (W.alloc o) v ts:=
 h.later ((Below.refl _ _).alloc (vaa _) _)
theorem TokWorld.notOwn {w W:World} {v:Value} {ts:List Tk} (h:TokWorld w W v ts) (b:Nat) (hb:b<w.heap.size+2):some b≠v.ownBlock:=by
 intro e;have:=(h.own.lt b e.symm).1;omega
theorem TokWorld.grown {w W W':World} {v v':Value} {ts:List Tk} {t:Tk} (h:TokWorld w W v ts) (hg:W.grownBy W' v.ownBlock) (ho:W'.ownsRow (w.heap.size+2) 184 3 v' (ts.length+1) (cellsOf ts++tkCells t)) :
 W'.cell? (qa w.heap.size 0)=some v/\W'.frozen? (qa w.heap.size 0)=false/\TokWorld w (W'.setCell (qa w.heap.size 0) v') v' (ts++[t]):=by
 have Co:=h.size;have c0:=(hg.cell_far (qa w.heap.size 0) (by show w.heap.size<_;omega) (h.notOwn w.heap.size (by omega))).trans h.cell;have f0:=(hg.frozen_far (qa w.heap.size 0) (by show w.heap.size<_;omega) (h.notOwn w.heap.size (by omega))).trans h.free;have c1:=(hg.cell_far ⟨w.heap.size+1,0,none⟩ (by show w.heap.size+1<_;omega) (h.notOwn (w.heap.size+1) (by omega))).trans h.ecell;have f1:=(hg.frozen_far ⟨w.heap.size+1,0,none⟩ (by show w.heap.size+1<_;omega) (h.notOwn (w.heap.size+1) (by omega))).trans h.efree;have hb:qb w W':=h.below.grown hg h.below.size (fun k hk=>by have:=(h.own.lt k hk).1;omega);have Ew:W.heap.size<=W'.heap.size:=hg.size;refine ⟨c0,f0,?_⟩
 exact {
  below:=hb.setCell (p:=(qa w.heap.size 0)) (vaa _) _
  size:=by
   show w.heap.size+2<=(W'.setCell (qa w.heap.size 0) v').heap.size;rw [vaq];omega
  cell:=vca _ _ _ (by rw [c0])
  free:=by rw [World.frozen?_setCell];exact f0
  ecell:=by rw [vbx _ _ _ _ (by simp)];exact c1
  efree:=by rw [World.frozen?_setCell];exact f1
  own:=by
   rw [zpa,vak]
   exact ownsRow_setCell_below ho (by show w.heap.size<_;omega) _ }
theorem TokWorld.leave {w W:World} {a:OA} {cap:Nat} {ts:List Tk} (h:TokWorld w W (.slice a ts.length cap) ts) (hf:AllFit ts) :
 (∀ t:Array Value,t.getD 2 undef=pq w.heap.size 0->t.getD 3 undef = .pointer (some ⟨w.heap.size+1,0,none⟩)->
   (results Tryz.f157 t).run Tryz.prog ((W.setCell (qa w.heap.size 0) (.slice a ts.length cap)).setCell ⟨w.heap.size+1,0,none⟩ (qi 0)) =
     .ok (.tuple #[.slice a ts.length cap,qi 0]) ((W.setCell (qa w.heap.size 0) (.slice a ts.length cap)).setCell ⟨w.heap.size+1,0,none⟩ (qi 0)))/\
 zcm ((W.setCell (qa w.heap.size 0) (.slice a ts.length cap)).setCell ⟨w.heap.size+1,0,none⟩ (qi 0)) a ts/\
 qb w ((W.setCell (qa w.heap.size 0) (.slice a ts.length cap)).setCell ⟨w.heap.size+1,0,none⟩ (qi 0)):=by
 have c0:((W.setCell (qa w.heap.size 0) (.slice a ts.length cap)).setCell ⟨w.heap.size+1,0,none⟩ (qi 0)).cell? (qa w.heap.size 0)=some (.slice a ts.length cap):=by
  rw [vbx _ _ _ _ (by simp)];exact vca _ _ _ (by rw [h.cell])
 have c1:((W.setCell (qa w.heap.size 0) (.slice a ts.length cap)).setCell ⟨w.heap.size+1,0,none⟩ (qi 0)).cell? ⟨w.heap.size+1,0,none⟩=some (qi 0):=by
  refine vca (u:=qi 0) _ _ _ ?_;rw [vbx _ _ _ _ (by simp),h.ecell]
 have own:((W.setCell (qa w.heap.size 0) (.slice a ts.length cap)).setCell ⟨w.heap.size+1,0,none⟩ (qi 0)).ownsRow (w.heap.size+2) 184 3 (.slice a ts.length cap) ts.length (cellsOf ts):=
  ownsRow_setCell_below (ownsRow_setCell_below h.own (by show w.heap.size<_;omega) _) (by show w.heap.size+1<_;omega) _
 refine ⟨?_,?_,(h.below.setCell (p:=(qa w.heap.size 0)) (vaa _) _).setCell (p:=⟨w.heap.size+1,0,none⟩) (vel _) _⟩
 . intro t h2 h3
   generalize ((W.setCell (qa w.heap.size 0) (.slice a ts.length cap)).setCell ⟨w.heap.size+1,0,none⟩ (qi 0))=X at *
   have FG:t[2]?.getD undef=pq w.heap.size 0:=by simpa using h2
   have G5:t[3]?.getD undef = .pointer (some ⟨w.heap.size+1,0,none⟩):=by simpa using h3
   simp [results,Tryz.results157,go_sem,FG,G5,c0,c1]
 . obtain ⟨a',cap',hv,hT⟩:=zuh own hf
   cases hv;exact hT
theorem TokWorld.caught {w W:World} {v:Value} {ts:List Tk} (h:TokWorld w W v ts) {R:Ending->World->Prop} (t:Array Value)
 (h2:t.getD 2 undef=pq w.heap.size 0) (h3:t.getD 3 undef = .pointer (some ⟨w.heap.size+1,0,none⟩))
 (hR:∀ W',qb w W'->R (.returned (.tuple #[qs,qi 1])) W') :
 Leaves Tryz.prog Tryz.f157 t R [{ target:=Target.fn (Fn.func 192) #[Value.pointer (some (qa w.heap.size 0)),Value.pointer (some ⟨w.heap.size+1,0,none⟩)],args:=#[] }] (.panicking zbb) W:=by
 refine leaves_cons (f:=192) (args:=#[pq w.heap.size 0,.pointer (some ⟨w.heap.size+1,0,none⟩)]) (by simp) (by simp [go_sem]) ?_;refine (zj9 w.heap.size v 0 31 (qi 1) [] _ h.cell h.free h.ecell h.efree).mono ?_;rintro e u' Ce ⟨rfl,rfl,rfl⟩
 have c0:((W.setCell (qa w.heap.size 0) (qs)).setCell ⟨w.heap.size+1,0,none⟩ (qi 1)).cell? (qa w.heap.size 0)=some (qs):=by
  rw [vbx _ _ _ _ (by simp)];exact vca _ _ _ (by rw [h.cell])
 have c1:((W.setCell (qa w.heap.size 0) (qs)).setCell ⟨w.heap.size+1,0,none⟩ (qi 1)).cell? ⟨w.heap.size+1,0,none⟩=some (qi 1):=by
  refine vca (u:=qi 0) _ _ _ ?_;rw [vbx _ _ _ _ (by simp),h.ecell]
 have hb:qb w ((W.setCell (qa w.heap.size 0) (qs)).setCell ⟨w.heap.size+1,0,none⟩ (qi 1)):=
  (h.below.setCell (p:=(qa w.heap.size 0)) (vaa _) _).setCell (p:=⟨w.heap.size+1,0,none⟩) (vel _) _
 generalize ((W.setCell (qa w.heap.size 0) (qs)).setCell ⟨w.heap.size+1,0,none⟩ (qi 1))=X at *
 have FG:t[2]?.getD undef=pq w.heap.size 0:=by simpa using h2
 have G5:t[3]?.getD undef = .pointer (some ⟨w.heap.size+1,0,none⟩):=by simpa using h3
 refine ⟨.tuple #[qs,qi 1],?_,hR X hb⟩;simp [results,Tryz.results157,go_sem,FG,G5,c0,c1]
theorem zu1 (s:ByteArray) (w:World) (hs:s.size<=4096) :
 qc 157 #[.string s] w fun e w'=>∃ a cap,e = .returned (.tuple #[.slice a (lexT s).length cap,qi (lexE s)])/\zcm w' a (lexT s)/\qb w w':=by
 obtain ⟨i0,hi,Bs,Ao,AA⟩:=info_parts Tryz.infoTok
 have Qd:∀ (fn:Fn) (first cap:Array Value) (w:World),(Instr.makeFunc fn first cap).run Tryz.prog w = .ok (.func fn first cap) w:=fun _ _ _ _=>rfl
 go_enter_defers Tryz.func157,Tryz.ntmps157;go_wp2_with fail
 go_loopw [4,5] (fun i _ wr=>∃ (k:Nat) (ts:List Tk) (v:Value),k<=s.size/\i=qi k/\zb5 s k ts/\AllFit ts/\ts.length<=k/\TokWorld w wr v ts) (fun i _ _=>s.size - (intOf i).toNat)
 case atStart=>exact ⟨0,[],qs,vae _,rfl,zb5.start s,AllFit.nil,vaa _,TokWorld.start w⟩
 case round =>
  obtain ⟨k,ts,v,hk,rfl,hinv,Bo,Ai,htw⟩:=hrel;have HI:Hid (zb5 s k ts):=hinv;have HF:Hid (AllFit ts):=Bo
  obtain ⟨a,cap,rfl⟩:∃ a cap,v = .slice a ts.length cap:=by
   rcases htw.own.2 with ⟨h1,h2⟩ | ⟨g,cap,AC,h1,_⟩
   . exact ⟨none,0,by rw [h2];exact h1⟩
   . exact ⟨_,_,h1⟩
  have HW:Hid (TokWorld w wr (.slice a ts.length cap) ts):=htw;have hc:=htw.cell;have hf:=htw.free;have Ou:=htw.ecell;have Tc:=htw.efree;clear hinv Bo htw
  by_cases A0:k<s.size
  . have HP : Hid (∀ w:World,qc 193 #[.string s,qi k] w fun e w'=>e = .returned (qi ((k+Lx.pieceN s k:Nat):Int))/\w'=w):=fun w=>zo6 s k w (by unfold maxLen;omega) A0
    have Gw:=Lx.zx1 s k A0;have O6:=Lx.zh2 s k
    by_cases Au:zff s[k]=true
    . have HG:Hid (zb5 s (k+Lx.pieceN s k) ts):=HI.out.blank A0 Au
      have Ez:(((s[k].toNat:Nat):Int) != 32)=false\/((((s[k].toNat:Nat):Int) != 32)=true/\(((s[k].toNat:Nat):Int) != 10)=false):=by
       unfold zff at Au;simp only [vef,beq_iff_eq] at Au
       rcases Au with h | h
       . rw [h];exact Or.inl rfl
       . rw [h];exact Or.inr ⟨rfl,rfl⟩
      clear Au;generalize Lx.pieceN s k=N at *
      rcases Ez with ON | ⟨ON,DG⟩
      all_goals
       go_wp2_with (go_at_call 193;refine (HP.out _).mono ?_;rintro e w2 ⟨rfl,h2⟩;obtain rfl:=h2.symm)
       go_roundw
       case rel=>exact ⟨k+N,ts,_,by omega,by go_num,HG.out,HF.out,by omega,HW.out⟩
       case measure=>simp [intOf];omega
    . have Dh:zff s[k]=false:=by simpa using Au
      have ON:(((s[k].toNat:Nat):Int) != 32)=true:=by
       rw [bne_iff_ne];intro h
       have:s[k]=32:=veh.1 (by show s[k].toNat=32;omega)
       rw [this] at Dh;cases Dh
      have DG:(((s[k].toNat:Nat):Int) != 10)=true:=by
       rw [bne_iff_ne];intro h
       have:s[k]=10:=veh.1 (by show s[k].toNat=10;omega)
       rw [this] at Dh;cases Dh
      have HB:Hid (zff s[k]=false):=Dh;clear Au Dh
      cases EW:zdu (s.extract k (k+Lx.pieceN s k)) with
      | none=>
        have HE:Hid (lexT s=[]/\lexE s=1):=z5j (by omega) (HI.out.stop A0 HB.out EW)
        have Gv:(s.extract k (k+Lx.pieceN s k)).size<=4096:=by rw [zfr s k _ Gw];omega
        have Eq:Hid (∀ w:World,qc 173 #[.string (s.extract k (k+Lx.pieceN s k))] w fun e w'=>e = .returned (.string (s.extract k (k+Lx.pieceN s k)))/\qb w w'):=fun w=>zo7 _ w (by omega)
        have MR:Hid (∀ w:World,qc 194 #[.string (s.extract k (k+Lx.pieceN s k))] w fun e w'=>e = .panicked zbb/\qb w w'):=fun w=>by
         refine (zo8 _ w (by unfold maxLen;omega)).mono ?_;rintro e w' ⟨⟨t',h1,h2⟩ | ⟨h1,h2⟩,hb⟩
         . rw [EW] at h1;cases h1
         . exact ⟨h2,hb⟩
        clear EW Gv HI HF HB;generalize hN:Lx.pieceN s k=N at *;clear hN
        go_wp2_with (go_at_call 193;refine (HP.out _).mono ?_;rintro e w2 ⟨rfl,h2⟩;obtain rfl:=h2.symm)
        have KA:(0:Int)<=(k:Int):=Int.natCast_nonneg _
        have AK:(k:Int)<=(k:Int)+(N:Int):=by omega
        have AB:(k:Int)+(N:Int)<=(s.size:Int):=by omega
        refine wp_region_any (by kernel_rfl) ?_
        change wpAny _ _ _ _ _ _ _ (World.drew _)
        refine wpAny_take (i:=1) (v:=.string s) rfl (by kernel_rfl) (by kernel_rfl) (by kernel_rfl) (fun c a w h=>zf9 25 _ (by decide) (by decide) c a w h) (Or.inl ⟨by rfl,fun w=>by go_simp⟩) ?_;refine wpAny_take (i:=2) (v:=qi k) rfl (by kernel_rfl) (by kernel_rfl) (by kernel_rfl) (fun c a w h=>zf9 26 _ (by decide) (by decide) c a w h) (Or.inl ⟨by rfl,fun w=>by go_simp⟩) ?_;refine wpAny_take (i:=3) (v:=qi ((k:Int)+(N:Int))) rfl (by kernel_rfl) (by kernel_rfl) (by kernel_rfl) (fun c a w h=>zf9 27 _ (by decide) (by decide) c a w h) (Or.inl ⟨by rfl,fun w=>by go_simp⟩) ?_;refine wpAny_take (i:=4) (v:=.string (s.extract k (k+N))) rfl (by kernel_rfl) (by kernel_rfl) (by kernel_rfl) (fun c a w h=>zf9 28 _ (by decide) (by decide) c a w h) (Or.inl ⟨by rfl,fun w=>by go_simp;rw [show ((k:Int)+(N:Int)).toNat=k+N from by omega]⟩) ?_
        refine wpAny_ready (rs:=[0,5]) (by kernel_rfl) (by simp) ?_;refine vet rfl (fun K hK=>?_) (vet rfl (fun K hK=>?_) vev)
        . go_simp
          refine hK _ _ ?_;clear hK K;refine wpAny_ready (rs:=[5]) (by kernel_rfl) (by simp) ?_;refine vet rfl (fun K hK=>?_) vev;refine step_call1 (by rfl) 173 _ _ (by rfl) en36 _ (by rfl) _ (Eq.out _) ?_;intro w2 Aa;have C1:=(HW.out.drewT.later Aa).cell;refine hK _ _ ?_;clear hK K;refine wpAny_ready (rs:=[6]) (by kernel_rfl) (by simp) ?_;refine vet rfl (fun K hK=>?_) vev;refine zgx (by rfl) 194 _ _ (by rfl) en35 _ (by rfl) zbb (MR.out _) ?_;intro w3 A9;exact (TokWorld.caught ((HW.out.drewT.later Aa).later A9) _ rfl rfl (fun W' hB=>⟨none,0,by rw [HE.out.1,HE.out.2];rfl,by rw [HE.out.1];exact Or.inl rfl,hB⟩))
        . refine step_call1 (by rfl) 173 _ _ (by rfl) en36 _ (by rfl) _ (Eq.out _) ?_
          intro w2 Aa;have C1:=(HW.out.drewT.later Aa).cell;refine hK _ _ ?_;clear hK K;refine wpAny_ready (rs:=[0,6]) (by kernel_rfl) (by simp) ?_;refine vet rfl (fun K hK=>?_) (vet rfl (fun K hK=>?_) vev)
          . go_simp
            refine hK _ _ ?_;clear hK K;refine wpAny_ready (rs:=[6]) (by kernel_rfl) (by simp) ?_;refine vet rfl (fun K hK=>?_) vev;refine zgx (by rfl) 194 _ _ (by rfl) en35 _ (by rfl) zbb (MR.out _) ?_;intro w3 A9;exact (TokWorld.caught ((HW.out.drewT.later Aa).later A9) _ rfl rfl (fun W' hB=>⟨none,0,by rw [HE.out.1,HE.out.2];rfl,by rw [HE.out.1];exact Or.inl rfl,hB⟩))
          . refine zgx (by rfl) 194 _ _ (by rfl) en35 _ (by rfl) zbb (MR.out _) ?_
            intro w3 A9;exact (TokWorld.caught ((HW.out.drewT.later Aa).later A9) _ rfl rfl (fun W' hB=>⟨none,0,by rw [HE.out.1,HE.out.2];rfl,by rw [HE.out.1];exact Or.inl rfl,hB⟩))
      | some t=>
        have HG:Hid (zb5 s (k+Lx.pieceN s k) (ts++[t])/\AllFit (ts++[t])):=⟨HI.out.tok A0 HB.out EW,HF.out.snoc (zu0 EW (by rw [zfr s k _ Gw];unfold maxLen;omega))⟩
        have Gv:(s.extract k (k+Lx.pieceN s k)).size<=4096:=by rw [zfr s k _ Gw];omega
        have Eq:Hid (∀ w:World,qc 173 #[.string (s.extract k (k+Lx.pieceN s k))] w fun e w'=>e = .returned (.string (s.extract k (k+Lx.pieceN s k)))/\qb w w'):=fun w=>zo7 _ w (by omega)
        have MS:Hid (∀ w:World,qc 194 #[.string (s.extract k (k+Lx.pieceN s k))] w fun e w'=>e = .returned (.agg #[qi t.kind,qi t.n,.string t.text])/\qb w w'):=fun w=>by
         refine (zo8 _ w (by unfold maxLen;omega)).mono ?_;rintro e w' ⟨⟨t',h1,h2⟩ | ⟨h1,h2⟩,hb⟩
         . rw [EW] at h1
           obtain rfl:=vai h1;exact ⟨h2,hb⟩
         . rw [EW] at h1;cases h1
        clear EW Gv HI HF HB;generalize hN:Lx.pieceN s k=N at *;clear hN
        go_wp2_with (go_at_call 193;refine (HP.out _).mono ?_;rintro e w2 ⟨rfl,h2⟩;obtain rfl:=h2.symm)
        have KA:(0:Int)<=(k:Int):=Int.natCast_nonneg _
        have AK:(k:Int)<=(k:Int)+(N:Int):=by omega
        have AB:(k:Int)+(N:Int)<=(s.size:Int):=by omega
        refine wp_region_noPanic ?_
        go_region_law
         (first
           | (refine step_call1 (by rfl) 173 _ _ (by rfl) en36 _ (by rfl) _ (Eq.out _) ?_;intro w2 Aa;have C1:=(HW.out.drewT.later Aa).cell)
           | (refine step_call1 (by rfl) 194 _ _ (by rfl) en35 _ (by rfl) _ (MS.out _) ?_;intro w3 A9;have Ej:=((HW.out.drewT.later Aa).later A9).cell;have BO:=((HW.out.drewT.later Aa).later A9).size;have PJ:w.heap.size<w3.heap.size:=by omega)
           | (refine step_append_lies _ (by rfl) _ _ _ (by rfl) (w.heap.size+2) 184 i0 _ 3 32 Tryz.underlying177 hi Bs Ao AA rfl (by omega) (.slice a ts.length cap) ts.length (cellsOf ts) (by rfl) (((HW.out.drewT.later Aa).later A9).allocT _).own (qa w3.heap.size 0) 1 1 (tkCells t) (by rfl) (by rfl) (zwm _ _ _ _ _) (zwn _) (by omega) (by unfold maxLen;omega) (by omega) (by have:=((HW.out.drewT.later Aa).later A9).size;simp;omega) (w3.heap.size+1) (by simp) ?_;intro gg Bb w4 hown1 AL AF LS;obtain ⟨FA,KM,htw4⟩:=(((HW.out.drewT.later Aa).later A9).allocT _).grown AL hown1;have Rw:Hid (TokWorld w (w4.setCell (qa w.heap.size 0) (.slice (some (qa gg 0)) (ts.length+1) Bb)) (.slice (some (qa gg 0)) (ts.length+1) Bb) (ts++[t])):=htw4;clear hown1 AL htw4))
        all_goals
         refine NoPanic.normal ?_;go_wp2_with fail;go_roundw
         case rel=>exact ⟨k+N,ts++[t],_,by omega,by go_num,HG.out.1,HG.out.2,by rw [vak];simp only [vaw,vco];omega,Rw.out⟩
         case measure=>simp [intOf];omega
  . have HE:Hid (lexT s=ts/\lexE s=0):=zwl (by omega) (HI.out.done A0)
    go_wp2_with fail;refine leaves_cons (f:=192) (args:=#[pq w.heap.size 0,.pointer (some ⟨w.heap.size+1,0,none⟩)]) (by simp) (by simp [go_sem]) ?_;refine (zuz (qa w.heap.size 0) ⟨w.heap.size+1,0,none⟩ _).mono ?_;rintro e u' Ce ⟨rfl,rfl,rfl⟩;obtain ⟨hr,hT,hB⟩:=HW.out.leave HF.out;refine ⟨_,hr _ rfl rfl,a,cap,by rw [HE.out.1,HE.out.2],by rw [HE.out.1];exact hT,hB⟩
end Go.Proofs.YtndkhgakfodldaaGreatDoor
