import Derived.Test.YtndkhgakfodldaaGreatDoorMxOpx
import Derived.Deep.RegionHeldLaw
set_option maxRecDepth 100000
set_option maxHeartbeats 1600000
open Go.Proofs.Tryz
open List renaming length → ln
namespace Go.Proofs.YtndkhgakfodldaaGreatDoor
namespace Mx
open Go.RowKit Go.Shelf
variable {B K:Nat} {a:Option Addr} {l:List Int} {w:World}
theorem Fz (B R:Nat) (c:Mc.Cfg) (w0:World) (s:Mc.St) (i:Mc.Ins) (w:World) (h:fb B R c w0 w s) (G:1<=i.op) (J:i.op<=22) (ab:fit64 i.a) (F:fit64 i.b) :
 Calls prog 182 #[.pointer (some ⟨R,0,none⟩),.agg #[.int .i64 i.op,.int .i64 i.a,.int .i64 i.b]] w (eP B R c w0 (Mc.doI c.mt i s) fW):=by
 obtain ⟨p,a,V⟩:=i;simp only at G J ab F ⊢
 have a1:p=1\/p=2\/p=3\/p=4\/p=5\/p=6\/p=7\/p=8\/p=9\/p=10\/p=11\/p=12\/p=13\/p=14\/p=15\/p=16\/p=17\/p=18\/p=19\/p=20\/p=21\/p=22:=by omega
 rcases a1 with rfl | rfl | rfl | rfl | rfl | rfl | rfl | rfl | rfl | rfl | rfl | rfl | rfl | rfl | rfl | rfl | rfl | rfl | rfl | rfl | rfl | rfl
 . exact E5 B R c w0 s a V w h
 . exact EZ B R c w0 s a V w h
 . exact E0 B R c w0 s a V w h
 . exact E1 B R c w0 s a V w h
 . exact E2 B R c w0 s a V w h
 . exact E6 B R c w0 s a V w h
 . exact E3 B R c w0 s a V w h
 . exact E4 B R c w0 s a V w h
 . exact Fd B R c w0 s a V w h
 . exact E7 B R c w0 s a V w h
 . exact Fi B R c w0 s a V w h
 . exact Fj B R c w0 s a V w h
 . exact E8 B R c w0 s a V w h
 . exact E9 B R c w0 s a V w h ab F
 . exact Fa B R c w0 s a V w h
 . exact Fb B R c w0 s a V w h
 . exact Fh B R c w0 s a V w h
 . exact Ff B R c w0 s a V w h
 . exact Fg B R c w0 s a V w h
 . exact Fk B R c w0 s a V w h
 . exact Fl B R c w0 s a V w h
 . exact Fe B R c w0 s a V w h
theorem Ac:Enters prog 181:=enters_of func181 (by kernel_rfl) rfl
theorem FA (B R:Nat) (c:Mc.Cfg) (w0:World) (s:Mc.St) (w:World) (h:fb B R c w0 w s) :
 Calls prog 149 #[.pointer (some ⟨R,0,none⟩)] w (eP B R c w0 (Mc.step c s) fW):=by
 obtain ⟨x,⟨q,E,K,fr,Y,y,ou⟩,h⟩:=h;obtain ⟨bj,coff,ccap,a7,C,t⟩:=h.code;simp only at a7;subst a7;have ar:=hid h;obtain ⟨bh,a9, -, -, -, -, -, -, -, -,c10,c11,m,ag⟩:=h.cell;simp only at bh;have a1:=h.sp.1;have T:=h.sp.2;have I:=h.cfg.ms;have b0:=h.cfg.len;have ak:=h.ltR
 have ao:Hid (∀ (k:Nat) (N:k<ln c.code),w.cell? ⟨bj,coff+k*3,none⟩=some (.int .i64 c.code[k].op)/\w.cell? ⟨bj,coff+k*3+1,none⟩=some (.int .i64 c.code[k].a)/\w.cell? ⟨bj,coff+k*3+2,none⟩=some (.int .i64 c.code[k].b)):=fun k N=>by
  obtain ⟨G,J,S⟩:=t k N;exact ⟨(h.below.cell (p:=⟨bj,coff+k*3,none⟩) C).trans G,(h.below.cell (p:=⟨bj,coff+k*3+1,none⟩) C).trans J,(h.below.cell (p:=⟨bj,coff+k*3+2,none⟩) C).trans S⟩
 have P:bj≠R:=by have:=h.hR;omega
 have j:bj<w.heap.size:=Nat.lt_of_lt_of_le C h.hB;clear h t
 by_cases b6:s.steps=c.ms
 . have A:Hid (Mc.step c s = .stop { s with en:=7 }):=if_pos b6
   have F:(s.steps == c.ms)=true:=beq_iff_eq.2 b6;clear b6;go_enter func149,ntmps149;go_wp2_with fail
   go_quiet ((fail))
   go_wp2_with fail;refine (sj 7 _ ⟨_,_,ar.drewN _⟩).mono ?_;rintro e w2 ⟨rfl,a8⟩;go_wp2_with fail;exact ⟨rfl,eP.stop A rfl a8⟩
 . have F:(s.steps == c.ms)=false:=beq_eq_false_iff_ne.2 b6
   have a0:s.steps<c.ms:=by omega
   have v:Hid (∀ n,eX B R c w0 ((w.drewN n).setCell ⟨R,11,none⟩ (.int .i64 (s.steps+1))) x ⟨.slice (some ⟨bj,coff,none⟩) (ln c.code) ccap,E,K,fr,Y,y,ou⟩ { s with steps:=s.steps+1 }):=fun n=>(ar.drewN n).setSteps _ (by omega) (by omega)
   by_cases c2:0<=s.pc/\s.pc<ln c.code
   . have A:Hid (Mc.step c s=Mc.doI c.mt (c.code.getD s.pc.toNat ⟨0,0,0⟩) { s with steps:=s.steps+1,pc:=s.pc+1 }):=(if_neg b6).trans (if_pos c2)
     clear b6;obtain ⟨f,H⟩:=c2;obtain ⟨k,N⟩:=Int.eq_ofNat_of_zero_le f
     have a4:k<ln c.code:=by omega
     obtain ⟨bT,aw,aE⟩:=ao k a4
     have ax:c.code.getD s.pc.toNat ⟨0,0,0⟩=c.code[k]:=by rw [N,Int.toNat_natCast,List.getD_eq_getElem?_getD,List.getElem?_eq_getElem a4];rfl
     rw [ax] at A;have az:Hid (1<=c.code[k].op/\c.code[k].op<=22/\fit64 c.code[k].a/\fit64 c.code[k].b):=ar.cfg.ops _ (List.getElem_mem a4);have a6:=hid N;rw [N] at a9;clear ao;generalize c.code[k]=ins at *;obtain ⟨p,a,V⟩:=ins;simp only at bT aw aE;generalize (ln c.code)=b at *;clear ax N f H
     have O:(k:Int)<(b:Int):=by omega
     have l:(0:Int)<=(k:Int):=by omega
     go_enter func149,ntmps149;go_wp2_with fail
     go_quiet ((fail))
     go_wp2_with fail
     go_quiet ((go_at_call 181;exact Calls.quiet_of_same (lc _ _ _ (by first | (simp;done) | (simp;omega)))))
     go_wp2_with fail
     go_region
     go_wp2_with fail;refine (Fz B R c w0 { s with steps:=s.steps+1,pc:=s.pc+1 } ⟨p,a,V⟩ _ ?_ az.1 az.2.1 az.2.2.1 az.2.2.2).mono ?_
     . rw [a6.out]
       exact ⟨_,_,(((v _).drewN _).setPc _).alloc _⟩
     intro e eq ah
     rcases ah.parts with ⟨u,D,z,rfl,Hm⟩ | ⟨D,z,rfl,Hm⟩<;>clear ah<;>simp only [fW]
     . go_wp2_with fail
       go_returns
       exact eP.ok (A.trans z) rfl Hm.out
     . go_wp2_with fail
       exact ⟨rfl,eP.of_stop (A.trans z) Hm.out⟩
   . have A:Hid (Mc.step c s = .stop { s with steps:=s.steps+1,en:=6 }):=(if_neg b6).trans (if_neg c2)
     clear b6 ao;generalize (ln c.code)=b at *;clear bh a9
     by_cases f:0<=s.pc
     . have H:¬ s.pc<b:=fun h=>c2 ⟨f,h⟩
       obtain ⟨n,U⟩:=Int.eq_ofNat_of_zero_le f
       have L:(b:Int)<=(n:Int):=by omega
       have aF:=hid U;clear c2 H f;go_enter func149,ntmps149;go_wp2_with fail
       go_quiet ((fail))
       go_wp2_with fail;have o:=hid (v nq);clear v ar;generalize (w.drewN nq).setCell ⟨R,11,none⟩ (.int .i64 (s.steps+1))=M at *;have b5:=o.cell.1;have aL:=o.cell.2.1;simp only [U] at b5 aL;clear U;refine wp_region_held (S:=fun r=>r.cell? ⟨R,1,none⟩=some (.int .i64 (n:Int))/\r.cell? ⟨R,0,none⟩=some (.slice (some ⟨bj,coff,none⟩) b ccap)) (by kernel_rfl) ?_
       change wpAnyH _ _ _ _ _ _ _ _ (World.drew M)
       have g:(fun r:World=>r.cell? ⟨R,1,none⟩=some (.int .i64 (n:Int))/\r.cell? ⟨R,0,none⟩=some (.slice (some ⟨bj,coff,none⟩) b ccap)) M.drew:=⟨aL,b5⟩
       refine wpAnyH_take (i:=0) (v:=.pointer (some ⟨R,0,none⟩)) rfl (by kernel_rfl) (by kernel_rfl) (by kernel_rfl) (fun _ _ _ h=>h) (Or.inl ⟨by kernel_rfl,fun w ⟨G,J⟩=>by go_simp⟩) g ?_;refine wpAnyH_take (i:=1) (v:=.pointer (some ⟨R,0,none⟩)) rfl (by kernel_rfl) (by kernel_rfl) (by kernel_rfl) (fun _ _ _ h=>h) (Or.inl ⟨by kernel_rfl,fun w ⟨G,J⟩=>by go_simp⟩) g ?_;refine wpAnyH_take (i:=2) (v:=.pointer (some ⟨R,0,none⟩)) rfl (by kernel_rfl) (by kernel_rfl) (by kernel_rfl) (fun _ _ _ h=>h) (Or.inl ⟨by kernel_rfl,fun w ⟨G,J⟩=>by go_simp⟩) g ?_;refine wpAnyH_take (i:=3) (v:=.pointer (some ⟨R,1,none⟩)) rfl (by kernel_rfl) (by kernel_rfl) (by kernel_rfl) (fun _ _ _ h=>h) (Or.inl ⟨by kernel_rfl,fun w ⟨G,J⟩=>by go_simp⟩) g ?_;refine wpAnyH_take (i:=4) (v:=.int .i64 (n:Int)) rfl (by kernel_rfl) (by kernel_rfl) (by kernel_rfl) (fun _ _ _ h=>h) (Or.inl ⟨by kernel_rfl,fun w ⟨G,J⟩=>by go_simp⟩) g ?_
       refine wpAnyH_take (i:=5) (v:=.bool true) rfl (by kernel_rfl) (by kernel_rfl) (by kernel_rfl) (fun _ _ _ h=>h) (Or.inl ⟨by kernel_rfl,fun w ⟨G,J⟩=>by go_simp⟩) g ?_;refine wpAnyH_take (i:=6) (v:=.bool true) rfl (by kernel_rfl) (by kernel_rfl) (by kernel_rfl) (fun _ _ _ h=>h) (Or.inl ⟨by kernel_rfl,fun w ⟨G,J⟩=>by go_simp⟩) g ?_;refine wpAnyH_take (i:=7) (v:=.pointer (some ⟨R,0,none⟩)) rfl (by kernel_rfl) (by kernel_rfl) (by kernel_rfl) (fun _ _ _ h=>h) (Or.inl ⟨by kernel_rfl,fun w ⟨G,J⟩=>by go_simp⟩) g ?_;refine wpAnyH_take (i:=8) (v:=.pointer (some ⟨R,0,none⟩)) rfl (by kernel_rfl) (by kernel_rfl) (by kernel_rfl) (fun _ _ _ h=>h) (Or.inl ⟨by kernel_rfl,fun w ⟨G,J⟩=>by go_simp⟩) g ?_;refine wpAnyH_take (i:=9) (v:=.pointer (some ⟨R,1,none⟩)) rfl (by kernel_rfl) (by kernel_rfl) (by kernel_rfl) (fun _ _ _ h=>h) (Or.inl ⟨by kernel_rfl,fun w ⟨G,J⟩=>by go_simp⟩) g ?_
       refine wpAnyH_take (i:=10) (v:=.int .i64 (n:Int)) rfl (by kernel_rfl) (by kernel_rfl) (by kernel_rfl) (fun _ _ _ h=>h) (Or.inl ⟨by kernel_rfl,fun w ⟨G,J⟩=>by go_simp⟩) g ?_;refine wpAnyH_take (i:=11) (v:=.pointer (some ⟨R,0,none⟩)) rfl (by kernel_rfl) (by kernel_rfl) (by kernel_rfl) (fun _ _ _ h=>h) (Or.inl ⟨by kernel_rfl,fun w ⟨G,J⟩=>by go_simp⟩) g ?_;refine wpAnyH_take (i:=12) (v:=.pointer (some ⟨R,0,none⟩)) rfl (by kernel_rfl) (by kernel_rfl) (by kernel_rfl) (fun _ _ _ h=>h) (Or.inl ⟨by kernel_rfl,fun w ⟨G,J⟩=>by go_simp⟩) g ?_;refine wpAnyH_take (i:=13) (v:=.pointer (some ⟨R,0,none⟩)) rfl (by kernel_rfl) (by kernel_rfl) (by kernel_rfl) (fun _ _ _ h=>h) (Or.inl ⟨by kernel_rfl,fun w ⟨G,J⟩=>by go_simp⟩) g ?_;refine wpAnyH_take (i:=14) (v:=.slice (some ⟨bj,coff,none⟩) b ccap) rfl (by kernel_rfl) (by kernel_rfl) (by kernel_rfl) (fun _ _ _ h=>h) (Or.inl ⟨by kernel_rfl,fun w ⟨G,J⟩=>by go_simp⟩) g ?_
       refine wpAnyH_take (i:=15) (v:=.int .i64 (b:Int)) rfl (by kernel_rfl) (by kernel_rfl) (by kernel_rfl) (fun _ _ _ h=>h) (Or.inl ⟨by kernel_rfl,fun w ⟨G,J⟩=>by go_simp⟩) g ?_;refine wpAnyH_take (i:=16) (v:=.bool false) rfl (by kernel_rfl) (by kernel_rfl) (by kernel_rfl) (fun _ _ _ h=>h) (Or.inl ⟨by kernel_rfl,fun w ⟨G,J⟩=>by go_simp;omega⟩) g ?_;refine wpAnyH_take (i:=17) (v:=.bool false) rfl (by kernel_rfl) (by kernel_rfl) (by kernel_rfl) (fun _ _ _ h=>h) (Or.inl ⟨by kernel_rfl,fun w ⟨G,J⟩=>by go_simp⟩) g ?_;refine wpAnyH_all (rs:=[18]) (by kernel_rfl) (by simp) ?_;intro i X;obtain rfl:=List.mem_singleton.1 X;refine z7 rfl rfl 181 _ _ rfl Ac #[.pointer (some ⟨R,0,none⟩),.bool false] (by kernel_rfl) (pg _ _ rfl ⟨_,_,o.drew⟩) (fun r h=>by cases h.1) (fun d r h=>?_) (fun _ _ h=>by cases h.1);obtain ⟨G,a8⟩:=h
       cases G;exact ⟨rfl,eP.stop A rfl a8⟩
     . obtain ⟨n,U⟩:∃ n,s.pc=Int.negSucc n:=⟨(-s.pc - 1).toNat,by omega⟩
       have aF:=hid U;clear c2 f;go_enter func149,ntmps149;go_wp2_with fail
       go_quiet ((fail))
       go_wp2_with fail;have o:=hid (v nq);clear v ar;generalize (w.drewN nq).setCell ⟨R,11,none⟩ (.int .i64 (s.steps+1))=M at *;have aL:=o.cell.2.1;simp only [U] at aL;clear U;refine wp_region_held (S:=fun r=>r.cell? ⟨R,1,none⟩=some (.int .i64 (Int.negSucc n))) (by kernel_rfl) ?_
       change wpAnyH _ _ _ _ _ _ _ _ (World.drew M)
       have g:(fun r:World=>r.cell? ⟨R,1,none⟩=some (.int .i64 (Int.negSucc n))) M.drew:=aL;refine wpAnyH_take (i:=0) (v:=.pointer (some ⟨R,0,none⟩)) rfl (by kernel_rfl) (by kernel_rfl) (by kernel_rfl) (fun _ _ _ h=>h) (Or.inl ⟨by kernel_rfl,fun w g=>by go_simp⟩) g ?_;refine wpAnyH_take (i:=1) (v:=.pointer (some ⟨R,0,none⟩)) rfl (by kernel_rfl) (by kernel_rfl) (by kernel_rfl) (fun _ _ _ h=>h) (Or.inl ⟨by kernel_rfl,fun w g=>by go_simp⟩) g ?_;refine wpAnyH_take (i:=2) (v:=.pointer (some ⟨R,0,none⟩)) rfl (by kernel_rfl) (by kernel_rfl) (by kernel_rfl) (fun _ _ _ h=>h) (Or.inl ⟨by kernel_rfl,fun w g=>by go_simp⟩) g ?_;refine wpAnyH_take (i:=3) (v:=.pointer (some ⟨R,1,none⟩)) rfl (by kernel_rfl) (by kernel_rfl) (by kernel_rfl) (fun _ _ _ h=>h) (Or.inl ⟨by kernel_rfl,fun w g=>by go_simp⟩) g ?_;refine wpAnyH_take (i:=4) (v:=.int .i64 (Int.negSucc n)) rfl (by kernel_rfl) (by kernel_rfl) (by kernel_rfl) (fun _ _ _ h=>h) (Or.inl ⟨by kernel_rfl,fun w g=>by go_simp⟩) g ?_
       refine wpAnyH_take (i:=5) (v:=.bool false) rfl (by kernel_rfl) (by kernel_rfl) (by kernel_rfl) (fun _ _ _ h=>h) (Or.inl ⟨by kernel_rfl,fun w g=>by go_simp⟩) g ?_;refine wpAnyH_take (i:=6) (v:=.bool false) rfl (by kernel_rfl) (by kernel_rfl) (by kernel_rfl) (fun _ _ _ h=>h) (Or.inl ⟨by kernel_rfl,fun w g=>by go_simp⟩) g ?_;refine wpAnyH_take (i:=7) (v:=undef) rfl (by kernel_rfl) (by kernel_rfl) (by kernel_rfl) (fun _ _ _ h=>h) (Or.inr ⟨by kernel_rfl,rfl⟩) g ?_;refine wpAnyH_take (i:=8) (v:=undef) rfl (by kernel_rfl) (by kernel_rfl) (by kernel_rfl) (fun _ _ _ h=>h) (Or.inr ⟨by kernel_rfl,rfl⟩) g ?_;refine wpAnyH_take (i:=9) (v:=undef) rfl (by kernel_rfl) (by kernel_rfl) (by kernel_rfl) (fun _ _ _ h=>h) (Or.inr ⟨by kernel_rfl,rfl⟩) g ?_;refine wpAnyH_take (i:=10) (v:=undef) rfl (by kernel_rfl) (by kernel_rfl) (by kernel_rfl) (fun _ _ _ h=>h) (Or.inr ⟨by kernel_rfl,rfl⟩) g ?_
       refine wpAnyH_take (i:=11) (v:=undef) rfl (by kernel_rfl) (by kernel_rfl) (by kernel_rfl) (fun _ _ _ h=>h) (Or.inr ⟨by kernel_rfl,rfl⟩) g ?_;refine wpAnyH_take (i:=12) (v:=undef) rfl (by kernel_rfl) (by kernel_rfl) (by kernel_rfl) (fun _ _ _ h=>h) (Or.inr ⟨by kernel_rfl,rfl⟩) g ?_;refine wpAnyH_take (i:=13) (v:=undef) rfl (by kernel_rfl) (by kernel_rfl) (by kernel_rfl) (fun _ _ _ h=>h) (Or.inr ⟨by kernel_rfl,rfl⟩) g ?_;refine wpAnyH_take (i:=14) (v:=undef) rfl (by kernel_rfl) (by kernel_rfl) (by kernel_rfl) (fun _ _ _ h=>h) (Or.inr ⟨by kernel_rfl,rfl⟩) g ?_;refine wpAnyH_take (i:=15) (v:=undef) rfl (by kernel_rfl) (by kernel_rfl) (by kernel_rfl) (fun _ _ _ h=>h) (Or.inr ⟨by kernel_rfl,rfl⟩) g ?_;refine wpAnyH_take (i:=16) (v:=undef) rfl (by kernel_rfl) (by kernel_rfl) (by kernel_rfl) (fun _ _ _ h=>h) (Or.inr ⟨by kernel_rfl,rfl⟩) g ?_;refine wpAnyH_take (i:=17) (v:=.bool false) rfl (by kernel_rfl) (by kernel_rfl) (by kernel_rfl) (fun _ _ _ h=>h) (Or.inl ⟨by kernel_rfl,fun w g=>by go_simp⟩) g ?_
       refine wpAnyH_all (rs:=[18]) (by kernel_rfl) (by simp) ?_;intro i X;obtain rfl:=List.mem_singleton.1 X;refine z7 rfl rfl 181 _ _ rfl Ac #[.pointer (some ⟨R,0,none⟩),.bool false] (by kernel_rfl) (pg _ _ rfl ⟨_,_,o.drew⟩) (fun r h=>by cases h.1) (fun d r h=>?_) (fun _ _ h=>by cases h.1);obtain ⟨G,a8⟩:=h;cases G;exact ⟨rfl,eP.stop A rfl a8⟩
open Go.RowKit Go.Shelf
theorem FB (x:Int) (w:World) :
 CallsD prog 148 #[] (.panicking (kr x)) w fun e Q r=>e = .returned (.tuple #[])/\Q = .panicking [{ v:=.iface 3 (.int .i64 x),recovered:=true }]/\r=w:=by
 refine callsD_of_wpS func148 rfl fun a d aI=>?_
 apply wpS_region
 unfold kr at aI;simp [wpOpsS,go_sem,recoverD,aI,ntmps148,bodyPostS,results,results148]
def q0 (a:Int) (R:Nat) (w:World):Nat:=(a - (match w.cell? ⟨R,11,none⟩ with | some (.int _ n)=>n | _=>0)).toNat
theorem Ad {R:Nat} {c:Mc.Cfg} {w0:World} {s:Mc.St} (h:fb B R c w0 w s):q0 c.ms R w=(c.ms - s.steps).toNat/\s.steps<=c.ms:=by
 obtain ⟨x,v,h⟩:=h;unfold q0;rw [h.cell.2.2.2.2.2.2.2.2.2.2.2.1];exact ⟨rfl,h.sp.2⟩
theorem FC (B R:Nat) (c:Mc.Cfg) (w0:World) (s:Mc.St) (w:World) (h:fb B R c w0 w s) (l:Nat) (br:(c.ms - s.steps).toNat<l) :
 Calls prog 111 #[.pointer (some ⟨R,0,none⟩)] w fun e r=>e = .returned (.tuple #[])/\fb B R c w0 r (Mc.run c l s):=by
 have aq:=hid h
 have b8:Hid (∀ (eq:World) (D:Mc.St),fb B R c w0 eq D->q0 c.ms R eq=(c.ms - D.steps).toNat/\D.steps<=c.ms):=fun eq D h=>Ad h
 have Z:=(Ad h).2;have p:=hid br;have aJ:=hid Z;clear h br Z;go_enter_defers func111,ntmps111;go_wp2_with fail
 go_loopw [] (fun wr=>∃ (D:Mc.St) (f:Nat),fb B R c w0 wr D/\(c.ms - D.steps).toNat<f/\Mc.run c f D=Mc.run c l s) (fun wr=>q0 c.ms R wr)
 case atStart=>exact ⟨s,l,aq,p,rfl⟩
 case round=>
  obtain ⟨D,f,G,J,S⟩:=hrel;have aP:=hid G;have ac:=hid J;have X:=hid S;clear G J S;go_wp2_with fail;refine (FA B R c w0 D _ aP).mono ?_;intro e eq ah
  rcases ah.parts with ⟨u,b6,z,rfl,Hm⟩ | ⟨b6,z,rfl,Hm⟩<;>clear ah<;>simp only [fW]
  . go_wp2_with fail
    go_roundw
    case rel=>
     obtain ⟨G,_,S,_⟩:=Mc.step_ok z;have J:=ac.out;have a6:=(b8 _ _ aP).2
     cases f with
     | zero=>omega
     | succ f=>
       refine ⟨b6,f,Hm.out,by omega,?_⟩;rw [← X.out,Mc.run_succ,z.out]
    case measure=>
     obtain ⟨G,_,S,_⟩:=Mc.step_ok z;have a6:=b8 _ _ aP;have ap:=b8 _ _ Hm.out;show q0 c.ms R eq<q0 c.ms R wr;rw [a6.1,ap.1];omega
  . go_wp2_with fail
    have aH:Hid (Mc.run c l s=b6):=by
     show Mc.run c l s=b6;have J:=ac.out
     cases f with
     | zero=>omega
     | succ f=>rw [← X.out,Mc.run_succ,z.out]
    refine leaves_cons (f:=148) (args:=#[]) (by simp) (by simp [go_sem]) ?_;refine (FB b6.en eq).mono ?_;rintro e Q T ⟨rfl,rfl,rfl⟩;refine ⟨.tuple #[],?_,rfl,?_⟩
    . simp [results,results111]
    . rw [aH.out];exact Hm.out
open Go.RowKit Go.Shelf
def ph (w:World) (a:Option Addr) (l:List Int):Prop:=
 l=[]\/∃ V C,a=some ⟨V,C,none⟩/\V<w.heap.size/\∀ i (h:i<ln l),w.cell? ⟨V,C+i,none⟩=some (.int .i64 l[i])
theorem ph.later {r:World} (h:ph w a l) (F:Below w.heap.size w r):ph r a l:=by
 rcases h with h | ⟨V,C,e,a2,h⟩
 . exact Or.inl h
 . exact Or.inr ⟨V,C,e,Nat.lt_of_lt_of_le a2 F.size,fun i X=>(F.cell (p:=⟨V,C+i,none⟩) a2).trans (h i X)⟩
def mO (K:Nat) (w:World) (a:Option Addr) (l:List Int):Prop:=
 l=[]\/∃ V C,a=some ⟨V,C,none⟩/\K<=V/\V<w.heap.size/\∀ i (h:i<ln l),w.cell? ⟨V,C+i,none⟩=some (.int .i64 l[i])
theorem mO.at (h:mO K w a l):ph w a l:=by
 rcases h with h | ⟨V,C,e,_,a2,h⟩
 . exact Or.inl h
 . exact Or.inr ⟨V,C,e,a2,h⟩
theorem mO.mono {lo':Nat} (h:mO K w a l) (a2:lo'<=K):mO lo' w a l:=by
 rcases h with h | ⟨V,C,e,G,J,h⟩
 . exact Or.inl h
 . exact Or.inr ⟨V,C,e,Nat.le_trans a2 G,J,h⟩
theorem mO.keep {M:World} (h:mO K w a l) (aS:w.heap.size<=M.heap.size) (N:∀ k,K<=k->k<w.heap.size->M.heap[k]? = w.heap[k]?):mO K M a l:=by
 rcases h with h | ⟨V,C,e,G,J,h⟩
 . exact Or.inl h
 . exact Or.inr ⟨V,C,e,G,Nat.lt_of_lt_of_le J aS,fun i X=>(World.cell?_of_block (w:=w) (N V G J)).trans (h i X)⟩
theorem ph.of_own {T:Nat->Nat} {b:Nat} {v:Value} (h:j7 w T B b 3 1 v (ln l) (ints l)):∃ a I,v = .slice a (ln l) I/\ln l<=I/\∀ M:World,w.heap.size<=M.heap.size->(∀ k,B<=k->M.heap[k]? = w.heap[k]?)->mO B M a l:=by
 by_cases a2:0<ln l
 . obtain ⟨g,I,a7,a1,_,ab,a0,_,_,hcell⟩:=h.place a2
   refine ⟨_,I,a7,a1,fun M aS N=>Or.inr ⟨g,0,rfl,ab,Nat.lt_of_lt_of_le a0 aS,fun i X=>?_⟩⟩;rw [Nat.zero_add];have:=hcell i _ (tG l i X);rw [List.getD_eq_getElem?_getD,List.getElem?_eq_getElem X,Option.getD_some] at this;exact (World.cell?_of_block (w:=w) (N g ab)).trans this
 . obtain ⟨a,I,a7,a1,_⟩:=h.form
   exact ⟨a,I,a7,a1,fun _ _ _=>Or.inl (List.eq_nil_of_length_eq_zero (by omega))⟩
structure FD where
 en:Int
 out:List Int
 data:List Int
 ticks:Int
 steps:Int
 err:Int
def ansR (f:List Mc.Ins) (d:Int) (g:List Int) (b c:Int):FD:=
 if ml f d (ln g) b c=0 then
  let s:=Mc.run ⟨f,b,c⟩ (c.toNat+1) (jc d.toNat g)
  ⟨s.en,s.out,s.data,s.ticks,s.steps,0⟩
 else ⟨0,[],[],0,0,ml f d (ln g) b c⟩
theorem FE {f:List Mc.Ins} {d:Int} {n:Nat} {b c:Int} (h:ml f d n b c=0) :
 (1<=ln f/\ln f<=2048)/\f.all opB=true/\(0<=d/\d<=512)/\n<=64/\(0<=b/\b<=2000)/\(0<=c/\c<=134217728):=by
 unfold ml at h
 split at h
 . rename_i G;exact absurd h G
 . rename_i G
   have G:jO f d=0:=by simpa using G
   split at h
   . cases h
   . split at h
     . cases h
     . unfold jO at G
       split at G
       . cases G
       . split at G
         . split at G
           . cases G
           . exact ⟨by omega,by assumption,by omega,by omega,by omega,by omega⟩
         . cases G
theorem Run_any (a s:Option Addr) (I o:Nat) (f:List Mc.Ins) (d:Int) (g:List Int) (b c:Int) (w:World) (u:ImgAt w a f) (a2:ln f<=1000000000000000) (c7:∀ i ∈ f,InsFit i)
 (t:ph w s g) (a0:ln g<=1000000000000000) (a6:ln g<=o) (a5:o<=maxLen) :
 Calls prog 47 #[.agg #[.slice a (ln f) I,.int .i64 d],.slice s (ln g) o,.int .i64 b,.int .i64 c] w fun e r=>
  ∃ p G Y m,e = .returned (.tuple #[.agg #[.int .i64 (ansR f d g b c).en,.slice p (ansR f d g b c).out.length G,.slice Y (ansR f d g b c).data.length m,.int .i64 (ansR f d g b c).ticks],.int .i64 (ansR f d g b c).steps,.int .i64 (ansR f d g b c).err])/\
    mO w.heap.size r p (ansR f d g b c).out/\mO w.heap.size r Y (ansR f d g b c).data/\Below w.heap.size w r/\(ansR f d g b c).out.length<=G/\(ansR f d g b c).out.length<=200/\(ansR f d g b c).data.length<=512:=by
 have P:=hid u
 have ao:Hid (∀ w:World,ImgAt w a f->Calls prog 109 #[.agg #[.slice a (ln f) I,.int .i64 d],.slice s (ln g) o,.int .i64 b,.int .i64 c] w fun e r=>e = .returned (.int .i64 (ml f d (ln g) b c))/\Below w.heap.size w r):=fun w h=>EK a I f d s (ln g) o b c w h a2 a0
 by_cases a3:ml f d (ln g) b c=0
 . obtain ⟨⟨aM,b1⟩,hops,⟨A,au⟩,D,⟨Z,J⟩,a1,T⟩:=FE a3
   obtain ⟨n,rfl⟩:=Int.eq_ofNat_of_zero_le A
   have aH:Hid (ansR f n g b c=⟨(Mc.run ⟨f,b,c⟩ (c.toNat+1) (jc n g)).en,(Mc.run ⟨f,b,c⟩ (c.toNat+1) (jc n g)).out,(Mc.run ⟨f,b,c⟩ (c.toNat+1) (jc n g)).data,(Mc.run ⟨f,b,c⟩ (c.toNat+1) (jc n g)).ticks,(Mc.run ⟨f,b,c⟩ (c.toNat+1) (jc n g)).steps,0⟩):=by
    show ansR f n g b c=_;unfold ansR;rw [if_pos a3,Int.toNat_natCast]
   have y:Hid (tF ⟨f,b,c⟩):=⟨J,T,b1,fun i X=>by
    have:=List.all_eq_true.1 hops i X;simp [opB] at this
    exact ⟨this.1,this.2,(c7 i X).1,(c7 i X).2⟩⟩
   have aF:Hid (∀ M:World,Below w.heap.size w M->Calls prog 110 #[.agg #[.slice a (ln f) I,.int .i64 (n:Int)],.slice s (ln g) o,.int .i64 b,.int .i64 c] M fun e r=>∃ q x v,e = .returned (.pointer (some ⟨q,0,none⟩))/\eX M.heap.size q ⟨f,b,c⟩ M r x v (jc n g)):=fun M F=>by
    refine EQ a s I (ln f) (ln g) o n ⟨f,b,c⟩ g M (by omega) y ?_ ?_ D Z a1
    . rcases u.later F with h | ⟨V,C,e,ap,h⟩
      . rw [h] at aM;simp at aM
      . exact ⟨V,C,I,by rw [e],ap,h⟩
    . refine ⟨s,o,rfl,a6,a5,?_⟩
      rcases t.later F with h | h
      . exact Or.inl h
      . exact Or.inr h
   have K:Hid (∀ (M S:World) (q:Nat),fb M.heap.size q ⟨f,b,c⟩ M S (jc n g)->Calls prog 111 #[.pointer (some ⟨q,0,none⟩)] S fun e r=>e = .returned (.tuple #[])/\fb M.heap.size q ⟨f,b,c⟩ M r (Mc.run ⟨f,b,c⟩ (c.toNat+1) (jc n g))):=fun M S q h=>FC _ q _ M _ S h _ (by show (c - 0).toNat<_;omega)
   rw [a3] at ao;clear a3 u t c7 hops y;rw [aH.out];simp only;generalize Mc.run ⟨f,b,c⟩ (c.toNat+1) (jc n g)=l at *;go_enter func47,ntmps47;go_wp2_with fail;refine (ao _ (P.later (((Below.refl _ _).alloc (Nat.le_refl _) _).alloc (by simp) _))).mono ?_;rintro e eq ⟨rfl,ai⟩;have B:Hid (Below w.heap.size w eq):=(((Below.refl _ _).alloc (Nat.le_refl _) _).alloc (by simp) _).trans (ai.mono (by simp;omega))
   have b0:w.heap.size+2<=eq.heap.size:=by have:=ai.size;simp at this;omega
   have bx:eq.cell? ⟨w.heap.size,0,none⟩=some (.slice a (ln f) I):=(ai.cell (p:=⟨w.heap.size,0,none⟩) (by simp;omega)).trans (by simp);have bQ:eq.cell? ⟨w.heap.size,1,none⟩=some (.int .i64 (n:Int)):=(ai.cell (p:=⟨w.heap.size,1,none⟩) (by simp;omega)).trans (by simp);have W:eq.heap[w.heap.size+1]? = some (.cells #[.int .i64 0,.slice none 0 0,.slice none 0 0,.int .i64 0] 51):=(ai.block (w.heap.size+1) (by simp)).trans (by have:=_root_.Go.heap_alloc_new (w.alloc (.cells #[.slice a (ln f) I,.int .i64 (n:Int)] 81)) (.cells #[.int .i64 0,.slice none 0 0,.slice none 0 0,.int .i64 0] 51);simpa using this);have z:=hid W;clear ai W ao;go_wp2_with fail;refine (aF _ B).mono ?_;rintro e w2 ⟨q,x,v,rfl,aS⟩;have aq:=hid aS;clear aS;go_wp2_with fail;refine (K _ _ q ⟨x,v,aq⟩).mono ?_;rintro e eC ⟨rfl,hM3⟩
   obtain ⟨a7,⟨cv3,st3,lo3,fr3,da3,iv3,ou3⟩,hA3⟩:=hM3;obtain ⟨p,G,aa,hoc,aQ⟩:=ph.of_own hA3.ou;obtain ⟨Y,m,ez, -,ax⟩:=ph.of_own hA3.da;simp only at aa ez;subst aa;subst ez;have aG:=hid aQ;have aK:=hid ax;have a4:=hid hoc
   have O:Hid (ln l.out<=200/\ln l.data<=512):=⟨hA3.bou,hA3.bda⟩
   clear hoc;obtain ⟨-, -, -, -, -,m5, -,m7, -,m9, -,m11,m12, -⟩:=hA3.cell;simp only at m5 m7;have aP:=hid hA3.below;have bE:=hA3.below.size;have ak:=hA3.ltR;have ad:=hA3.hR;have aN:=hid ((hA3.below.block (w.heap.size+1) (by omega)).trans z)
   have af:eC.cell? ⟨w.heap.size+1,0,none⟩=some (.int .i64 0):=by rw [Lib.cell_of_heap aN.out];rfl
   have E:eC.cell? ⟨w.heap.size+1,1,none⟩=some (.slice none 0 0):=by rw [Lib.cell_of_heap aN.out];rfl
   have ae:eC.cell? ⟨w.heap.size+1,2,none⟩=some (.slice none 0 0):=by rw [Lib.cell_of_heap aN.out];rfl
   have H:eC.cell? ⟨w.heap.size+1,3,none⟩=some (.int .i64 0):=by rw [Lib.cell_of_heap aN.out];rfl
   have bc:∀ j,eC.frozen? ⟨w.heap.size+1,j,none⟩=false:=fun j=>Lib.frozen_of_heap aN j
   have R:w.heap.size+1<eC.heap.size:=by omega
   have aV:w.heap.size+1≠q:=by omega
   clear K hA3 aQ ax aq aF;go_wp2_with fail
   go_region
   go_wp2_with fail;refine bodyPost_ret (v:=.tuple #[.agg #[.int .i64 l.en,.slice p (ln l.out) G,.slice Y (ln l.data) m,.int .i64 l.ticks],.int .i64 l.steps,.int .i64 0]) (by simp [results,results47,go_sem,af,E,ae,H]) rfl ⟨p,G,Y,m,rfl,(aG _ (by simp) (fun k N=>?_)).mono (by omega),(aK _ (by simp) (fun k N=>?_)).mono (by omega),?_,a4,O.1,O.2⟩
   . have U:k≠w.heap.size+1:=by omega
     show (((((eC.setCell ⟨w.heap.size+1,0,none⟩ (.int .i64 l.en)).setCell ⟨w.heap.size+1,1,none⟩ (.slice p (ln l.out) G)).setCell ⟨w.heap.size+1,2,none⟩ (.slice Y (ln l.data) m)).setCell ⟨w.heap.size+1,3,none⟩ (.int .i64 l.ticks)).heap)[k]? = _;rw [Below.heap_setCell _ _ _ k U,Below.heap_setCell _ _ _ k U,Below.heap_setCell _ _ _ k U,Below.heap_setCell _ _ _ k U]
   . have U:k≠w.heap.size+1:=by omega
     show (((((eC.setCell ⟨w.heap.size+1,0,none⟩ (.int .i64 l.en)).setCell ⟨w.heap.size+1,1,none⟩ (.slice p (ln l.out) G)).setCell ⟨w.heap.size+1,2,none⟩ (.slice Y (ln l.data) m)).setCell ⟨w.heap.size+1,3,none⟩ (.int .i64 l.ticks)).heap)[k]? = _;rw [Below.heap_setCell _ _ _ k U,Below.heap_setCell _ _ _ k U,Below.heap_setCell _ _ _ k U,Below.heap_setCell _ _ _ k U]
   . have F:=B.trans (aP.mono (B':=w.heap.size) (by omega))
     exact ((((F.setCell (p:=⟨w.heap.size+1,0,none⟩) (Nat.le_succ _) _).setCell (p:=⟨w.heap.size+1,1,none⟩) (Nat.le_succ _) _).setCell (p:=⟨w.heap.size+1,2,none⟩) (Nat.le_succ _) _).setCell (p:=⟨w.heap.size+1,3,none⟩) (Nat.le_succ _) _).drew
 . have aH:Hid (ansR f d g b c=⟨0,[],[],0,0,ml f d (ln g) b c⟩):=if_neg a3
   rw [aH.out];simp only [List.length_nil]
   have Q:(ml f d (ln g) b c != 0)=true:=by rw [bne_iff_ne];exact a3
   clear a3 u t c7 aH;generalize ml f d (ln g) b c=L at *;go_enter func47,ntmps47;go_wp2_with fail;refine (ao _ (P.later (((Below.refl _ _).alloc (Nat.le_refl _) _).alloc (by simp) _))).mono ?_;rintro e eq ⟨rfl,ai⟩;have B:Hid (Below w.heap.size w eq):=(((Below.refl _ _).alloc (Nat.le_refl _) _).alloc (by simp) _).trans (ai.mono (by simp;omega))
   have b0:w.heap.size+2<=eq.heap.size:=by have:=ai.size;simp at this;omega
   have W:eq.heap[w.heap.size+1]? = some (.cells #[.int .i64 0,.slice none 0 0,.slice none 0 0,.int .i64 0] 51):=(ai.block (w.heap.size+1) (by simp)).trans (by have:=_root_.Go.heap_alloc_new (w.alloc (.cells #[.slice a (ln f) I,.int .i64 d] 81)) (.cells #[.int .i64 0,.slice none 0 0,.slice none 0 0,.int .i64 0] 51);simpa using this);have aN:=hid W
   have af:eq.cell? ⟨w.heap.size+1,0,none⟩=some (.int .i64 0):=by rw [Lib.cell_of_heap aN.out];rfl
   have E:eq.cell? ⟨w.heap.size+1,1,none⟩=some (.slice none 0 0):=by rw [Lib.cell_of_heap aN.out];rfl
   have ae:eq.cell? ⟨w.heap.size+1,2,none⟩=some (.slice none 0 0):=by rw [Lib.cell_of_heap aN.out];rfl
   have H:eq.cell? ⟨w.heap.size+1,3,none⟩=some (.int .i64 0):=by rw [Lib.cell_of_heap aN.out];rfl
   have bc:∀ j,eq.frozen? ⟨w.heap.size+1,j,none⟩=false:=fun j=>Lib.frozen_of_heap aN j
   clear ai W ao;go_wp2_with fail;refine bodyPost_ret (v:=.tuple #[.agg #[.int .i64 0,.slice none 0 0,.slice none 0 0,.int .i64 0],.int .i64 0,.int .i64 L]) (by simp [results,results47,go_sem,af,E,ae,H]) rfl ⟨none,0,none,0,rfl,Or.inl rfl,Or.inl rfl,?_,Nat.le_refl _,Nat.zero_le _,Nat.zero_le _⟩;exact (((B.setCell (p:=⟨w.heap.size+1,0,none⟩) (Nat.le_succ _) _).setCell (p:=⟨w.heap.size+1,1,none⟩) (Nat.le_succ _) _).setCell (p:=⟨w.heap.size+1,2,none⟩) (Nat.le_succ _) _).setCell (p:=⟨w.heap.size+1,3,none⟩) (Nat.le_succ _) _
end Mx
end Go.Proofs.YtndkhgakfodldaaGreatDoor
