import Derived.Test.YtndkhgakfodldaaGreatDoorMxOpx
import Derived.Deep.RegionHeldLaw
set_option maxRecDepth 100000
set_option maxHeartbeats 1600000
open Go.Proofs.Tryz
namespace Go.Proofs.YtndkhgakfodldaaGreatDoor
namespace Mx
open Go.RowKit Go.Shelf
variable {B lo:Nat} {a:Option Addr} {l:List Int} {w:World}
theorem HX (B R:Nat) (c:Mc.Cfg) (w0:World) (s:Mc.St) (i:Mc.Ins) (w:World) (h:ed B R c w0 w s) (F:1<=i.op) (J:i.op<=22) (a7:fit64 i.a) (I:fit64 i.b) :
 Calls prog 182 #[.pointer (some ⟨R,0,none⟩),.agg #[.int .i64 i.op,.int .i64 i.a,.int .i64 i.b]] w (dM B R c w0 (Mc.doI c.mt i s) e0):=by
 obtain ⟨T,a,p⟩:=i;simp only at F J a7 I ⊢
 have W:T=1\/T=2\/T=3\/T=4\/T=5\/T=6\/T=7\/T=8\/T=9\/T=10\/T=11\/T=12\/T=13\/T=14\/T=15\/T=16\/T=17\/T=18\/T=19\/T=20\/T=21\/T=22:=N8
 rcases W with rfl | rfl | rfl | rfl | rfl | rfl | rfl | rfl | rfl | rfl | rfl | rfl | rfl | rfl | rfl | rfl | rfl | rfl | rfl | rfl | rfl | rfl
 . exact Hy B R c w0 s a p w h
 . exact Hs B R c w0 s a p w h
 . exact Ht B R c w0 s a p w h
 . exact Hu B R c w0 s a p w h
 . exact Hv B R c w0 s a p w h
 . exact Hz B R c w0 s a p w h
 . exact Hw B R c w0 s a p w h
 . exact Hx B R c w0 s a p w h
 . exact HF B R c w0 s a p w h
 . exact HA B R c w0 s a p w h
 . exact HK B R c w0 s a p w h
 . exact HL B R c w0 s a p w h
 . exact HB B R c w0 s a p w h
 . exact HC B R c w0 s a p w h a7 I
 . exact HD B R c w0 s a p w h
 . exact HE B R c w0 s a p w h
 . exact HJ B R c w0 s a p w h
 . exact HH B R c w0 s a p w h
 . exact HI B R c w0 s a p w h
 . exact HM B R c w0 s a p w h
 . exact HN B R c w0 s a p w h
 . exact HG B R c w0 s a p w h
theorem Bs:Enters prog 181:=enters_of func181 (by kernel_rfl) rfl
theorem HY (B R:Nat) (c:Mc.Cfg) (w0:World) (s:Mc.St) (w:World) (h:ed B R c w0 w s) :
 Calls prog 149 #[.pointer (some ⟨R,0,none⟩)] w (dM B R c w0 (Mc.step c s) e0):=by
 obtain ⟨o,⟨aA,ad,lo,fr,ai,l,ou⟩,h⟩:=h;obtain ⟨aj,coff,ccap,af,C,j⟩:=h.code;simp only at af;subst af;have aR:=hid h;obtain ⟨bt,ah, -, -, -, -, -, -, -, -,c10,r,d,Y⟩:=h.cell;simp only at bt;have W:=h.sp.1;have a3:=h.sp.2;have H:=h.cfg.ms;have bP:=h.cfg.len;have a6:=h.ltR
 have ao:Hid (∀ (k:Nat) (N:k<c.code.length),w.cell? ⟨aj,coff+k*3,none⟩=some (.int .i64 c.code[k].op)/\w.cell? ⟨aj,coff+k*3+1,none⟩=some (.int .i64 c.code[k].a)/\w.cell? ⟨aj,coff+k*3+2,none⟩=some (.int .i64 c.code[k].b)):=fun k N=>by
  obtain ⟨F,J,U⟩:=j k N;exact ⟨(h.below.cell (p:=⟨aj,coff+k*3,none⟩) C).trans F,(h.below.cell (p:=⟨aj,coff+k*3+1,none⟩) C).trans J,(h.below.cell (p:=⟨aj,coff+k*3+2,none⟩) C).trans U⟩
 have D:aj≠R:=by have:=h.hR;omega
 have b:aj<w.heap.size:=Nat.lt_of_lt_of_le C h.hB;clear h j
 by_cases g:s.steps=c.ms
 . have A:Hid (Mc.step c s = .stop { s with en:=7 }):=if_pos g
   have I:(s.steps == c.ms)=true:=beq_iff_eq.2 g;clear g;go_enter func149,ntmps149;go_wp2_with fail
   go_quiet ((fail))
   go_wp2_with fail;refine (sS 7 _ ⟨_,_,aR.drewN _⟩).mono ?_;exact QF
 . have I:(s.steps == c.ms)=false:=beq_eq_false_iff_ne.2 g
   have ac:s.steps<c.ms:=N8
   have v:Hid (∀ n,ea B R c w0 ((w.drewN n).setCell ⟨R,11,none⟩ (.int .i64 (s.steps+1))) o ⟨.slice (some ⟨aj,coff,none⟩) c.code.length ccap,ad,lo,fr,ai,l,ou⟩ { s with steps:=s.steps+1 }):=fun n=>(aR.drewN n).setSteps _ N8 N8
   by_cases a0:0<=s.pc/\s.pc<c.code.length
   . have A:Hid (Mc.step c s=Mc.doI c.mt (c.code.getD s.pc.toNat ⟨0,0,0⟩) { s with steps:=s.steps+1,pc:=s.pc+1 }):=(if_neg g).trans (if_pos a0)
     clear g;obtain ⟨f,av⟩:=a0;obtain ⟨k,N⟩:=Int.eq_ofNat_of_zero_le f
     have m:k<c.code.length:=N8
     obtain ⟨bN,aJ,aI⟩:=ao k m
     have an:c.code.getD s.pc.toNat ⟨0,0,0⟩=c.code[k]:=by rw [N,Int.toNat_natCast,List.getD_eq_getElem?_getD,List.getElem?_eq_getElem m];rfl
     rw [an] at A;have y:Hid (1<=c.code[k].op/\c.code[k].op<=22/\fit64 c.code[k].a/\fit64 c.code[k].b):=aR.cfg.ops _ (List.getElem_mem m);have bJ:=hid N;rw [N] at ah;clear ao;generalize c.code[k]=ins at *;obtain ⟨T,a,p⟩:=ins;simp only at bN aJ aI;generalize c.code.length=a5 at *;clear an N f av
     have K:(k:Int)<(a5:Int):=N8
     have x:(0:Int)<=(k:Int):=N8
     go_enter func149,ntmps149;go_wp2_with fail
     go_quiet ((fail))
     go_wp2_with fail
     go_quiet ((go_at_call 181;exact Calls.quiet_of_same (k0 _ _ _ Ol)))
     go_wp2_with fail
     go_region
     go_wp2_with fail;refine (HX B R c w0 { s with steps:=s.steps+1,pc:=s.pc+1 } ⟨T,a,p⟩ _ ?_ y.1 y.2.1 y.2.2.1 y.2.2.2).mono ?_
     . rw [bJ.out]
       exact ⟨_,_,(((v _).drewN _).setPc _).alloc _⟩
     exact Qp
   . have A:Hid (Mc.step c s = .stop { s with steps:=s.steps+1,en:=6 }):=(if_neg g).trans (if_neg a0)
     clear g ao;generalize c.code.length=a5 at *;clear bt ah
     by_cases f:0<=s.pc
     . have av:¬ s.pc<a5:=fun h=>a0 ⟨f,h⟩
       obtain ⟨n,Z⟩:=Int.eq_ofNat_of_zero_le f
       have E:(a5:Int)<=(n:Int):=N8
       have aV:=hid Z;clear a0 av f;go_enter func149,ntmps149;go_wp2_with fail
       go_quiet ((fail))
       go_wp2_with fail;have q:=hid (v nq);clear v aR;generalize (w.drewN nq).setCell ⟨R,11,none⟩ (.int .i64 (s.steps+1))=M at *;have bE:=q.cell.1;have aT:=q.cell.2.1;simp only [Z] at bE aT;clear Z;refine wp_region_held (S:=fun G=>G.cell? ⟨R,1,none⟩=some (.int .i64 (n:Int))/\G.cell? ⟨R,0,none⟩=some (.slice (some ⟨aj,coff,none⟩) a5 ccap)) (by kernel_rfl) ?_
       change wpAnyH _ _ _ _ _ _ _ _ (World.drew M)
       have aE:(fun G:World=>G.cell? ⟨R,1,none⟩=some (.int .i64 (n:Int))/\G.cell? ⟨R,0,none⟩=some (.slice (some ⟨aj,coff,none⟩) a5 ccap)) M.drew:=⟨aT,bE⟩
       refine wpAnyH_take (i:=0) (v:=.pointer (some ⟨R,0,none⟩)) rfl (by kernel_rfl) (by kernel_rfl) (by kernel_rfl) (fun _ _ _ h=>h) (Or.inl ⟨by kernel_rfl,fun w ⟨F,J⟩=>by go_simp⟩) aE ?_;refine wpAnyH_take (i:=1) (v:=.pointer (some ⟨R,0,none⟩)) rfl (by kernel_rfl) (by kernel_rfl) (by kernel_rfl) (fun _ _ _ h=>h) (Or.inl ⟨by kernel_rfl,fun w ⟨F,J⟩=>by go_simp⟩) aE ?_;refine wpAnyH_take (i:=2) (v:=.pointer (some ⟨R,0,none⟩)) rfl (by kernel_rfl) (by kernel_rfl) (by kernel_rfl) (fun _ _ _ h=>h) (Or.inl ⟨by kernel_rfl,fun w ⟨F,J⟩=>by go_simp⟩) aE ?_;refine wpAnyH_take (i:=3) (v:=.pointer (some ⟨R,1,none⟩)) rfl (by kernel_rfl) (by kernel_rfl) (by kernel_rfl) (fun _ _ _ h=>h) (Or.inl ⟨by kernel_rfl,fun w ⟨F,J⟩=>by go_simp⟩) aE ?_;refine wpAnyH_take (i:=4) (v:=.int .i64 (n:Int)) rfl (by kernel_rfl) (by kernel_rfl) (by kernel_rfl) (fun _ _ _ h=>h) (Or.inl ⟨by kernel_rfl,fun w ⟨F,J⟩=>by go_simp⟩) aE ?_
       refine wpAnyH_take (i:=5) (v:=.bool true) rfl (by kernel_rfl) (by kernel_rfl) (by kernel_rfl) (fun _ _ _ h=>h) (Or.inl ⟨by kernel_rfl,fun w ⟨F,J⟩=>by go_simp⟩) aE ?_;refine wpAnyH_take (i:=6) (v:=.bool true) rfl (by kernel_rfl) (by kernel_rfl) (by kernel_rfl) (fun _ _ _ h=>h) (Or.inl ⟨by kernel_rfl,fun w ⟨F,J⟩=>by go_simp⟩) aE ?_;refine wpAnyH_take (i:=7) (v:=.pointer (some ⟨R,0,none⟩)) rfl (by kernel_rfl) (by kernel_rfl) (by kernel_rfl) (fun _ _ _ h=>h) (Or.inl ⟨by kernel_rfl,fun w ⟨F,J⟩=>by go_simp⟩) aE ?_;refine wpAnyH_take (i:=8) (v:=.pointer (some ⟨R,0,none⟩)) rfl (by kernel_rfl) (by kernel_rfl) (by kernel_rfl) (fun _ _ _ h=>h) (Or.inl ⟨by kernel_rfl,fun w ⟨F,J⟩=>by go_simp⟩) aE ?_;refine wpAnyH_take (i:=9) (v:=.pointer (some ⟨R,1,none⟩)) rfl (by kernel_rfl) (by kernel_rfl) (by kernel_rfl) (fun _ _ _ h=>h) (Or.inl ⟨by kernel_rfl,fun w ⟨F,J⟩=>by go_simp⟩) aE ?_
       refine wpAnyH_take (i:=10) (v:=.int .i64 (n:Int)) rfl (by kernel_rfl) (by kernel_rfl) (by kernel_rfl) (fun _ _ _ h=>h) (Or.inl ⟨by kernel_rfl,fun w ⟨F,J⟩=>by go_simp⟩) aE ?_;refine wpAnyH_take (i:=11) (v:=.pointer (some ⟨R,0,none⟩)) rfl (by kernel_rfl) (by kernel_rfl) (by kernel_rfl) (fun _ _ _ h=>h) (Or.inl ⟨by kernel_rfl,fun w ⟨F,J⟩=>by go_simp⟩) aE ?_;refine wpAnyH_take (i:=12) (v:=.pointer (some ⟨R,0,none⟩)) rfl (by kernel_rfl) (by kernel_rfl) (by kernel_rfl) (fun _ _ _ h=>h) (Or.inl ⟨by kernel_rfl,fun w ⟨F,J⟩=>by go_simp⟩) aE ?_;refine wpAnyH_take (i:=13) (v:=.pointer (some ⟨R,0,none⟩)) rfl (by kernel_rfl) (by kernel_rfl) (by kernel_rfl) (fun _ _ _ h=>h) (Or.inl ⟨by kernel_rfl,fun w ⟨F,J⟩=>by go_simp⟩) aE ?_;refine wpAnyH_take (i:=14) (v:=.slice (some ⟨aj,coff,none⟩) a5 ccap) rfl (by kernel_rfl) (by kernel_rfl) (by kernel_rfl) (fun _ _ _ h=>h) (Or.inl ⟨by kernel_rfl,fun w ⟨F,J⟩=>by go_simp⟩) aE ?_
       refine wpAnyH_take (i:=15) (v:=.int .i64 (a5:Int)) rfl (by kernel_rfl) (by kernel_rfl) (by kernel_rfl) (fun _ _ _ h=>h) (Or.inl ⟨by kernel_rfl,fun w ⟨F,J⟩=>by go_simp⟩) aE ?_;refine wpAnyH_take (i:=16) (v:=.bool false) rfl (by kernel_rfl) (by kernel_rfl) (by kernel_rfl) (fun _ _ _ h=>h) (Or.inl ⟨by kernel_rfl,fun w ⟨F,J⟩=>by go_simp;omega⟩) aE ?_;refine wpAnyH_take (i:=17) (v:=.bool false) rfl (by kernel_rfl) (by kernel_rfl) (by kernel_rfl) (fun _ _ _ h=>h) (Or.inl ⟨by kernel_rfl,fun w ⟨F,J⟩=>by go_simp⟩) aE ?_;refine wpAnyH_all (rs:=[18]) (by kernel_rfl) Oc ?_;intro i V;obtain rfl:=List.mem_singleton.1 V;refine Bo rfl rfl 181 _ _ rfl Bs #[.pointer (some ⟨R,0,none⟩),.bool false] (by kernel_rfl) (po _ _ rfl ⟨_,_,q.drew⟩) (fun G h=>by cases h.1) (fun t G h=>?_) (fun _ _ h=>by cases h.1);obtain ⟨F,a1⟩:=h
       cases F;exact ⟨rfl,dM.stop A rfl a1⟩
     . obtain ⟨n,Z⟩:∃ n,s.pc=Int.negSucc n:=⟨(-s.pc - 1).toNat,N8⟩
       have aV:=hid Z;clear a0 f;go_enter func149,ntmps149;go_wp2_with fail
       go_quiet ((fail))
       go_wp2_with fail;have q:=hid (v nq);clear v aR;generalize (w.drewN nq).setCell ⟨R,11,none⟩ (.int .i64 (s.steps+1))=M at *;have aT:=q.cell.2.1;simp only [Z] at aT;clear Z;refine wp_region_held (S:=fun G=>G.cell? ⟨R,1,none⟩=some (.int .i64 (Int.negSucc n))) (by kernel_rfl) ?_
       change wpAnyH _ _ _ _ _ _ _ _ (World.drew M)
       have aE:(fun G:World=>G.cell? ⟨R,1,none⟩=some (.int .i64 (Int.negSucc n))) M.drew:=aT;refine wpAnyH_take (i:=0) (v:=.pointer (some ⟨R,0,none⟩)) rfl (by kernel_rfl) (by kernel_rfl) (by kernel_rfl) (fun _ _ _ h=>h) (Or.inl ⟨by kernel_rfl,fun w aE=>by go_simp⟩) aE ?_;refine wpAnyH_take (i:=1) (v:=.pointer (some ⟨R,0,none⟩)) rfl (by kernel_rfl) (by kernel_rfl) (by kernel_rfl) (fun _ _ _ h=>h) (Or.inl ⟨by kernel_rfl,fun w aE=>by go_simp⟩) aE ?_;refine wpAnyH_take (i:=2) (v:=.pointer (some ⟨R,0,none⟩)) rfl (by kernel_rfl) (by kernel_rfl) (by kernel_rfl) (fun _ _ _ h=>h) (Or.inl ⟨by kernel_rfl,fun w aE=>by go_simp⟩) aE ?_;refine wpAnyH_take (i:=3) (v:=.pointer (some ⟨R,1,none⟩)) rfl (by kernel_rfl) (by kernel_rfl) (by kernel_rfl) (fun _ _ _ h=>h) (Or.inl ⟨by kernel_rfl,fun w aE=>by go_simp⟩) aE ?_;refine wpAnyH_take (i:=4) (v:=.int .i64 (Int.negSucc n)) rfl (by kernel_rfl) (by kernel_rfl) (by kernel_rfl) (fun _ _ _ h=>h) (Or.inl ⟨by kernel_rfl,fun w aE=>by go_simp⟩) aE ?_
       refine wpAnyH_take (i:=5) (v:=.bool false) rfl (by kernel_rfl) (by kernel_rfl) (by kernel_rfl) (fun _ _ _ h=>h) (Or.inl ⟨by kernel_rfl,fun w aE=>by go_simp⟩) aE ?_;refine wpAnyH_take (i:=6) (v:=.bool false) rfl (by kernel_rfl) (by kernel_rfl) (by kernel_rfl) (fun _ _ _ h=>h) (Or.inl ⟨by kernel_rfl,fun w aE=>by go_simp⟩) aE ?_;refine wpAnyH_take (i:=7) (v:=undef) rfl (by kernel_rfl) (by kernel_rfl) (by kernel_rfl) (fun _ _ _ h=>h) (Or.inr ⟨by kernel_rfl,rfl⟩) aE ?_;refine wpAnyH_take (i:=8) (v:=undef) rfl (by kernel_rfl) (by kernel_rfl) (by kernel_rfl) (fun _ _ _ h=>h) (Or.inr ⟨by kernel_rfl,rfl⟩) aE ?_;refine wpAnyH_take (i:=9) (v:=undef) rfl (by kernel_rfl) (by kernel_rfl) (by kernel_rfl) (fun _ _ _ h=>h) (Or.inr ⟨by kernel_rfl,rfl⟩) aE ?_;refine wpAnyH_take (i:=10) (v:=undef) rfl (by kernel_rfl) (by kernel_rfl) (by kernel_rfl) (fun _ _ _ h=>h) (Or.inr ⟨by kernel_rfl,rfl⟩) aE ?_
       refine wpAnyH_take (i:=11) (v:=undef) rfl (by kernel_rfl) (by kernel_rfl) (by kernel_rfl) (fun _ _ _ h=>h) (Or.inr ⟨by kernel_rfl,rfl⟩) aE ?_;refine wpAnyH_take (i:=12) (v:=undef) rfl (by kernel_rfl) (by kernel_rfl) (by kernel_rfl) (fun _ _ _ h=>h) (Or.inr ⟨by kernel_rfl,rfl⟩) aE ?_;refine wpAnyH_take (i:=13) (v:=undef) rfl (by kernel_rfl) (by kernel_rfl) (by kernel_rfl) (fun _ _ _ h=>h) (Or.inr ⟨by kernel_rfl,rfl⟩) aE ?_;refine wpAnyH_take (i:=14) (v:=undef) rfl (by kernel_rfl) (by kernel_rfl) (by kernel_rfl) (fun _ _ _ h=>h) (Or.inr ⟨by kernel_rfl,rfl⟩) aE ?_;refine wpAnyH_take (i:=15) (v:=undef) rfl (by kernel_rfl) (by kernel_rfl) (by kernel_rfl) (fun _ _ _ h=>h) (Or.inr ⟨by kernel_rfl,rfl⟩) aE ?_;refine wpAnyH_take (i:=16) (v:=undef) rfl (by kernel_rfl) (by kernel_rfl) (by kernel_rfl) (fun _ _ _ h=>h) (Or.inr ⟨by kernel_rfl,rfl⟩) aE ?_;refine wpAnyH_take (i:=17) (v:=.bool false) rfl (by kernel_rfl) (by kernel_rfl) (by kernel_rfl) (fun _ _ _ h=>h) (Or.inl ⟨by kernel_rfl,fun w aE=>by go_simp⟩) aE ?_
       refine wpAnyH_all (rs:=[18]) (by kernel_rfl) Oc ?_;intro i V;obtain rfl:=List.mem_singleton.1 V;refine Bo rfl rfl 181 _ _ rfl Bs #[.pointer (some ⟨R,0,none⟩),.bool false] (by kernel_rfl) (po _ _ rfl ⟨_,_,q.drew⟩) (fun G h=>by cases h.1) (fun t G h=>?_) (fun _ _ h=>by cases h.1);obtain ⟨F,a1⟩:=h;cases F;exact ⟨rfl,dM.stop A rfl a1⟩
open Go.RowKit Go.Shelf
theorem HZ (x:Int) (w:World) :
 CallsD prog 148 #[] (.panicking (kf x)) w fun e S G=>e = .returned (.tuple #[])/\S = .panicking [{ v:=.iface 3 (.int .i64 x),recovered:=true }]/\G=w:=by
 refine callsD_of_wpS func148 rfl fun a s aL=>?_
 apply wpS_region
 unfold kf at aL;simp [wpOpsS,go_sem,recoverD,aL,ntmps148,bodyPostS,results,results148]
def rD (a:Int) (R:Nat) (w:World):Nat:=(a - (match w.cell? ⟨R,11,none⟩ with | some (.int _ n)=>n | _=>0)).toNat
theorem Bt {R:Nat} {c:Mc.Cfg} {w0:World} {s:Mc.St} (h:ed B R c w0 w s):rD c.ms R w=(c.ms - s.steps).toNat/\s.steps<=c.ms:=by
 obtain ⟨o,v,h⟩:=h;unfold rD;rw [h.cell.2.2.2.2.2.2.2.2.2.2.2.1];exact ⟨rfl,h.sp.2⟩
theorem H0 (B R:Nat) (c:Mc.Cfg) (w0:World) (s:Mc.St) (w:World) (h:ed B R c w0 w s) (l:Nat) (b7:(c.ms - s.steps).toNat<l) :
 Calls prog 111 #[.pointer (some ⟨R,0,none⟩)] w fun e G=>e = .returned (.tuple #[])/\ed B R c w0 G (Mc.run c l s):=by
 have L:=hid h
 have b2:Hid (∀ (dk:World) (ay:Mc.St),ed B R c w0 dk ay->rD c.ms R dk=(c.ms - ay.steps).toNat/\ay.steps<=c.ms):=fun dk ay h=>Bt h
 have a8:=(Bt h).2;have aD:=hid b7;have aQ:=hid a8;clear h b7 a8;go_enter_defers func111,ntmps111;go_wp2_with fail
 go_loopw [] (fun wr=>∃ (ay:Mc.St) (f:Nat),ed B R c w0 wr ay/\(c.ms - ay.steps).toNat<f/\Mc.run c f ay=Mc.run c l s) (fun wr=>rD c.ms R wr)
 case atStart=>exact ⟨s,l,L,aD,rfl⟩
 case round=>
  obtain ⟨ay,f,F,J,U⟩:=hrel;have d:=hid F;have j:=hid J;have o:=hid U;clear F J U;go_wp2_with fail;refine (HY B R c w0 ay _ d).mono ?_;intro e dk ar
  rcases ar.parts with ⟨u,b1,z,rfl,Hm⟩ | ⟨b1,z,rfl,Hm⟩<;>clear ar<;>simp only [e0]
  . go_wp2_with fail
    go_roundw
    case rel=>
     obtain ⟨F,_,U,_⟩:=Mc.step_ok z;have J:=j.out;have aa:=(b2 _ _ d).2
     cases f with
     | zero=>omega
     | succ f=>
       refine ⟨b1,f,Hm.out,N8,?_⟩;rw [← o.out,Mc.run_succ,z.out]
    case measure=>
     obtain ⟨F,_,U,_⟩:=Mc.step_ok z;have aa:=b2 _ _ d;have aB:=b2 _ _ Hm.out;show rD c.ms R dk<rD c.ms R wr;rw [aa.1,aB.1];omega
  . go_wp2_with fail
    have aP:Hid (Mc.run c l s=b1):=by
     show Mc.run c l s=b1;have J:=j.out
     cases f with
     | zero=>omega
     | succ f=>rw [← o.out,Mc.run_succ,z.out]
    refine leaves_cons (f:=148) (args:=#[]) Oc (by simp [go_sem]) ?_;refine (HZ b1.en dk).mono ?_;rintro e S a7 ⟨rfl,rfl,rfl⟩;refine ⟨.tuple #[],?_,rfl,?_⟩
    . simp [results,results111]
    . rw [aP.out];exact Hm.out
open Go.RowKit Go.Shelf
def NumsAt (w:World) (a:Option Addr) (l:List Int):Prop:=
 l=[]\/∃ p C,a=some ⟨p,C,none⟩/\p<w.heap.size/\∀ i (h:i<l.length),w.cell? ⟨p,C+i,none⟩=some (.int .i64 l[i])
theorem NumsAt.later {G:World} (h:NumsAt w a l) (I:Below w.heap.size w G):NumsAt G a l:=by
 rcases h with h | ⟨p,C,e,X,h⟩
 . exact Or.inl h
 . exact Or.inr ⟨p,C,e,Nat.lt_of_lt_of_le X I.size,fun i V=>(I.cell (p:=⟨p,C+i,none⟩) X).trans (h i V)⟩
def mK (lo:Nat) (w:World) (a:Option Addr) (l:List Int):Prop:=
 l=[]\/∃ p C,a=some ⟨p,C,none⟩/\lo<=p/\p<w.heap.size/\∀ i (h:i<l.length),w.cell? ⟨p,C+i,none⟩=some (.int .i64 l[i])
theorem mK.at (h:mK lo w a l):NumsAt w a l:=by
 rcases h with h | ⟨p,C,e,_,X,h⟩
 . exact Or.inl h
 . exact Or.inr ⟨p,C,e,X,h⟩
theorem mK.mono {lo':Nat} (h:mK lo w a l) (X:lo'<=lo):mK lo' w a l:=by
 rcases h with h | ⟨p,C,e,F,J,h⟩
 . exact Or.inl h
 . exact Or.inr ⟨p,C,e,Nat.le_trans X F,J,h⟩
theorem mK.keep {M:World} (h:mK lo w a l) (b2:w.heap.size<=M.heap.size) (N:∀ k,lo<=k->k<w.heap.size->M.heap[k]? = w.heap[k]?):mK lo M a l:=by
 rcases h with h | ⟨p,C,e,F,J,h⟩
 . exact Or.inl h
 . exact Or.inr ⟨p,C,e,F,Nat.lt_of_lt_of_le J b2,fun i V=>(World.cell?_of_block (w:=w) (N p F J)).trans (h i V)⟩
theorem NumsAt.of_own {T:Nat->Nat} {b:Nat} {v:Value} (h:jW w T B b 3 1 v l.length (ints l)):∃ a q,v = .slice a l.length q/\l.length<=q/\∀ M:World,w.heap.size<=M.heap.size->(∀ k,B<=k->M.heap[k]? = w.heap[k]?)->mK B M a l:=by
 by_cases X:0<l.length
 . obtain ⟨al,q,af,W,_,aF,ac,_,_,hcell⟩:=h.place X
   refine ⟨_,q,af,W,fun M b2 N=>Or.inr ⟨al,0,rfl,aF,Nat.lt_of_lt_of_le ac b2,fun i V=>?_⟩⟩;rw [Nat.zero_add];have:=hcell i _ (uz l i V);rw [List.getD_eq_getElem?_getD,List.getElem?_eq_getElem V,Option.getD_some] at this;exact (World.cell?_of_block (w:=w) (N al aF)).trans this
 . obtain ⟨a,q,af,W,_⟩:=h.form
   exact ⟨a,q,af,W,fun _ _ _=>Or.inl (List.eq_nil_of_length_eq_zero N8)⟩
structure Ans where
 en:Int
 out:List Int
 data:List Int
 ticks:Int
 steps:Int
 err:Int
def ansR (f:List Mc.Ins) (d:Int) (g:List Int) (m c:Int):Ans:=
 if errR f d g.length m c=0 then
  let o:=Mc.run ⟨f,m,c⟩ (c.toNat+1) (startS d.toNat g)
  ⟨o.en,o.out,o.data,o.ticks,o.steps,0⟩
 else ⟨0,[],[],0,0,errR f d g.length m c⟩
theorem H1 {f:List Mc.Ins} {d:Int} {n:Nat} {m c:Int} (h:errR f d n m c=0) :
 (1<=f.length/\f.length<=2048)/\f.all opB=true/\(0<=d/\d<=512)/\n<=64/\(0<=m/\m<=2000)/\(0<=c/\c<=134217728):=by
 unfold errR at h
 split at h
 . rename_i F;exact absurd h F
 . rename_i F
   have F:checkI f d=0:=by simpa using F
   split at h
   . cases h
   . split at h
     . cases h
     . unfold checkI at F
       split at F
       . cases F
       . split at F
         . split at F
           . cases F
           . exact ⟨N8,by assumption,N8,N8,N8,N8⟩
         . cases F
theorem Run_any (a r:Option Addr) (q b:Nat) (f:List Mc.Ins) (d:Int) (g:List Int) (m c:Int) (w:World) (H:ImgAt w a f) (X:f.length<=1000000000000000) (bg:∀ i ∈ f,InsFit i)
 (A:NumsAt w r g) (aj:g.length<=1000000000000000) (U:g.length<=b) (T:b<=maxLen) :
 Calls prog 47 #[.agg #[.slice a f.length q,.int .i64 d],.slice r g.length b,.int .i64 m,.int .i64 c] w fun e G=>
  ∃ s J ai K,e = .returned (.tuple #[.agg #[.int .i64 (ansR f d g m c).en,.slice s (ansR f d g m c).out.length J,.slice ai (ansR f d g m c).data.length K,.int .i64 (ansR f d g m c).ticks],.int .i64 (ansR f d g m c).steps,.int .i64 (ansR f d g m c).err])/\
    mK w.heap.size G s (ansR f d g m c).out/\mK w.heap.size G ai (ansR f d g m c).data/\Below w.heap.size w G/\(ansR f d g m c).out.length<=J/\(ansR f d g m c).out.length<=200/\(ansR f d g m c).data.length<=512:=by
 have aM:=hid H
 have ao:Hid (∀ w:World,ImgAt w a f->Calls prog 109 #[.agg #[.slice a f.length q,.int .i64 d],.slice r g.length b,.int .i64 m,.int .i64 c] w fun e G=>e = .returned (.int .i64 (errR f d g.length m c))/\Below w.heap.size w G):=fun w h=>Hc a q f d r g.length b m c w h X aj
 by_cases ab:errR f d g.length m c=0
 . obtain ⟨⟨aO,bp⟩,hops,⟨x,aJ⟩,E,⟨S,a8⟩,W,a3⟩:=H1 ab
   obtain ⟨n,rfl⟩:=Int.eq_ofNat_of_zero_le x
   have aP:Hid (ansR f n g m c=⟨(Mc.run ⟨f,m,c⟩ (c.toNat+1) (startS n g)).en,(Mc.run ⟨f,m,c⟩ (c.toNat+1) (startS n g)).out,(Mc.run ⟨f,m,c⟩ (c.toNat+1) (startS n g)).data,(Mc.run ⟨f,m,c⟩ (c.toNat+1) (startS n g)).ticks,(Mc.run ⟨f,m,c⟩ (c.toNat+1) (startS n g)).steps,0⟩):=by
    show ansR f n g m c=_;unfold ansR;rw [if_pos ab,Int.toNat_natCast]
   have O:Hid (uy ⟨f,m,c⟩):=⟨a8,a3,bp,fun i V=>by
    have:=List.all_eq_true.1 hops i V;simp [opB] at this
    exact ⟨this.1,this.2,(bg i V).1,(bg i V).2⟩⟩
   have aV:Hid (∀ M:World,Below w.heap.size w M->Calls prog 110 #[.agg #[.slice a f.length q,.int .i64 (n:Int)],.slice r g.length b,.int .i64 m,.int .i64 c] M fun e G=>∃ u o v,e = .returned (.pointer (some ⟨u,0,none⟩))/\ea M.heap.size u ⟨f,m,c⟩ M G o v (startS n g)):=fun M I=>by
    refine Hi a r q f.length g.length b n ⟨f,m,c⟩ g M N8 O ?_ ?_ E S W
    . rcases H.later I with h | ⟨p,C,e,bb,h⟩
      . rw [h] at aO;simp at aO
      . exact ⟨p,C,q,by rw [e],bb,h⟩
    . refine ⟨r,b,rfl,U,T,?_⟩
      rcases A.later I with h | h
      . exact Or.inl h
      . exact Or.inr h
   have F:Hid (∀ (M aa:World) (u:Nat),ed M.heap.size u ⟨f,m,c⟩ M aa (startS n g)->Calls prog 111 #[.pointer (some ⟨u,0,none⟩)] aa fun e G=>e = .returned (.tuple #[])/\ed M.heap.size u ⟨f,m,c⟩ M G (Mc.run ⟨f,m,c⟩ (c.toNat+1) (startS n g))):=fun M aa u h=>H0 _ u _ M _ aa h _ (by show (c - 0).toNat<_;omega)
   rw [ab] at ao;clear ab H A bg hops O;rw [aP.out];simp only;generalize Mc.run ⟨f,m,c⟩ (c.toNat+1) (startS n g)=l at *;go_enter func47,ntmps47;go_wp2_with fail;refine (ao _ (aM.later (((Below.refl _ _).alloc (Nat.le_refl _) _).alloc Oc _))).mono ?_;rintro e dk ⟨rfl,aq⟩;have B:Hid (Below w.heap.size w dk):=(((Below.refl _ _).alloc (Nat.le_refl _) _).alloc Oc _).trans (aq.mono Og)
   have ba:w.heap.size+2<=dk.heap.size:=by have:=aq.size;simp at this;omega
   have aY:dk.cell? ⟨w.heap.size,0,none⟩=some (.slice a f.length q):=(aq.cell (p:=⟨w.heap.size,0,none⟩) Og).trans Oc;have aE:dk.cell? ⟨w.heap.size,1,none⟩=some (.int .i64 (n:Int)):=(aq.cell (p:=⟨w.heap.size,1,none⟩) Og).trans Oc;have Q:dk.heap[w.heap.size+1]? = some (.cells #[.int .i64 0,.slice none 0 0,.slice none 0 0,.int .i64 0] 51):=(aq.block (w.heap.size+1) Oc).trans (by have:=_root_.Go.heap_alloc_new (w.alloc (.cells #[.slice a f.length q,.int .i64 (n:Int)] 81)) (.cells #[.int .i64 0,.slice none 0 0,.slice none 0 0,.int .i64 0] 51);simpa using this);have z:=hid Q;clear aq Q ao;go_wp2_with fail;refine (aV _ B).mono ?_;rintro e w2 ⟨u,o,v,rfl,a7⟩;have L:=hid a7;clear a7;go_wp2_with fail;refine (F _ _ u ⟨o,v,L⟩).mono ?_;rintro e dC ⟨rfl,hM3⟩
   obtain ⟨a0,⟨cv3,st3,lo3,fr3,da3,iv3,ou3⟩,hA3⟩:=hM3;obtain ⟨s,J,ap,hoc,b6⟩:=NumsAt.of_own hA3.ou;obtain ⟨ai,K,hd, -,an⟩:=NumsAt.of_own hA3.da;simp only at ap hd;subst ap;subst hd;have P:=hid b6;have b0:=hid an;have Y:=hid hoc
   have D:Hid (l.out.length<=200/\l.data.length<=512):=⟨hA3.bou,hA3.bda⟩
   clear hoc;obtain ⟨-, -, -, -, -,m5, -,m7, -,m9, -,m11,m12, -⟩:=hA3.cell;simp only at m5 m7;have t:=hid hA3.below;have bX:=hA3.below.size;have a6:=hA3.ltR;have ad:=hA3.hR;have aZ:=hid ((hA3.below.block (w.heap.size+1) N8).trans z)
   have af:dC.cell? ⟨w.heap.size+1,0,none⟩=some (.int .i64 0):=OK
   have a4:dC.cell? ⟨w.heap.size+1,1,none⟩=some (.slice none 0 0):=OK
   have am:dC.cell? ⟨w.heap.size+1,2,none⟩=some (.slice none 0 0):=OK
   have a5:dC.cell? ⟨w.heap.size+1,3,none⟩=some (.int .i64 0):=OK
   have a1:∀ j,dC.frozen? ⟨w.heap.size+1,j,none⟩=false:=fun j=>Lib.frozen_of_heap aZ j
   have R:w.heap.size+1<dC.heap.size:=N8
   have aX:w.heap.size+1≠u:=N8
   clear F hA3 b6 an L aV;go_wp2_with fail
   go_region
   go_wp2_with fail;refine bodyPost_ret (v:=.tuple #[.agg #[.int .i64 l.en,.slice s l.out.length J,.slice ai l.data.length K,.int .i64 l.ticks],.int .i64 l.steps,.int .i64 0]) (by simp [results,results47,go_sem,af,a4,am,a5]) rfl ⟨s,J,ai,K,rfl,(P _ Oc (fun k N=>?_)).mono N8,(b0 _ Oc (fun k N=>?_)).mono N8,?_,Y,D.1,D.2⟩
   . exact QH
   . exact QH
   . have I:=B.trans (t.mono (B':=w.heap.size) N8)
     exact ((((I.setCell (p:=⟨w.heap.size+1,0,none⟩) (Nat.le_succ _) _).setCell (p:=⟨w.heap.size+1,1,none⟩) (Nat.le_succ _) _).setCell (p:=⟨w.heap.size+1,2,none⟩) (Nat.le_succ _) _).setCell (p:=⟨w.heap.size+1,3,none⟩) (Nat.le_succ _) _).drew
 . have aP:Hid (ansR f d g m c=⟨0,[],[],0,0,errR f d g.length m c⟩):=if_neg ab
   rw [aP.out];simp only [List.length_nil]
   have bC:(errR f d g.length m c != 0)=true:=by rw [bne_iff_ne];exact ab
   clear ab H A bg aP;generalize errR f d g.length m c=y at *;go_enter func47,ntmps47;go_wp2_with fail;refine (ao _ (aM.later (((Below.refl _ _).alloc (Nat.le_refl _) _).alloc Oc _))).mono ?_;rintro e dk ⟨rfl,aq⟩;have B:Hid (Below w.heap.size w dk):=(((Below.refl _ _).alloc (Nat.le_refl _) _).alloc Oc _).trans (aq.mono Og)
   have ba:w.heap.size+2<=dk.heap.size:=by have:=aq.size;simp at this;omega
   have Q:dk.heap[w.heap.size+1]? = some (.cells #[.int .i64 0,.slice none 0 0,.slice none 0 0,.int .i64 0] 51):=(aq.block (w.heap.size+1) Oc).trans (by have:=_root_.Go.heap_alloc_new (w.alloc (.cells #[.slice a f.length q,.int .i64 d] 81)) (.cells #[.int .i64 0,.slice none 0 0,.slice none 0 0,.int .i64 0] 51);simpa using this);have aZ:=hid Q
   have af:dk.cell? ⟨w.heap.size+1,0,none⟩=some (.int .i64 0):=OK
   have a4:dk.cell? ⟨w.heap.size+1,1,none⟩=some (.slice none 0 0):=OK
   have am:dk.cell? ⟨w.heap.size+1,2,none⟩=some (.slice none 0 0):=OK
   have a5:dk.cell? ⟨w.heap.size+1,3,none⟩=some (.int .i64 0):=OK
   have a1:∀ j,dk.frozen? ⟨w.heap.size+1,j,none⟩=false:=fun j=>Lib.frozen_of_heap aZ j
   clear aq Q ao;go_wp2_with fail;refine bodyPost_ret (v:=.tuple #[.agg #[.int .i64 0,.slice none 0 0,.slice none 0 0,.int .i64 0],.int .i64 0,.int .i64 y]) (by simp [results,results47,go_sem,af,a4,am,a5]) rfl ⟨none,0,none,0,rfl,Or.inl rfl,Or.inl rfl,?_,Nat.le_refl _,Nat.zero_le _,Nat.zero_le _⟩;exact (((B.setCell (p:=⟨w.heap.size+1,0,none⟩) (Nat.le_succ _) _).setCell (p:=⟨w.heap.size+1,1,none⟩) (Nat.le_succ _) _).setCell (p:=⟨w.heap.size+1,2,none⟩) (Nat.le_succ _) _).setCell (p:=⟨w.heap.size+1,3,none⟩) (Nat.le_succ _) _
end Mx
end Go.Proofs.YtndkhgakfodldaaGreatDoor
