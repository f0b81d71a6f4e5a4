import Derived.Test.YtndkhgakfodldaaGreatDoorMxOpx
import Derived.Deep.RegionHeldLaw
namespace Go.Proofs.YtndkhgakfodldaaGreatDoor
set_option maxRecDepth 100000
set_option maxHeartbeats 1600000
namespace Mx
open Go.RowKit Go.Shelf
theorem z5x (B R:Nat) (c:Mc.Cfg) (w0:World) (s:Mc.St) (i:Mc.Ins) (w:World) (h:Mch B R c w0 w s) (h1:1<=i.op) (h2:i.op<=22) (ha:fit64 i.a) (hb:fit64 i.b) :
 Calls Tryz.prog 182 #[.pointer (some ⟨R,0,none⟩),.agg #[.int .i64 i.op,.int .i64 i.a,.int .i64 i.b]] w (zap B R c w0 (Mc.doI c.mt i s) za3):=by
 obtain ⟨op,a,b⟩:=i;simp only at h1 h2 ha hb ⊢
 have hc:op=1\/op=2\/op=3\/op=4\/op=5\/op=6\/op=7\/op=8\/op=9\/op=10\/op=11\/op=12\/op=13\/op=14\/op=15\/op=16\/op=17\/op=18\/op=19\/op=20\/op=21\/op=22:=by omega
 rcases hc with rfl | rfl | rfl | rfl | rfl | rfl | rfl | rfl | rfl | rfl | rfl | rfl | rfl | rfl | rfl | rfl | rfl | rfl | rfl | rfl | rfl | rfl
 . exact do1 B R c w0 s a b w h
 . exact do2 B R c w0 s a b w h
 . exact do3 B R c w0 s a b w h
 . exact do4 B R c w0 s a b w h
 . exact do5 B R c w0 s a b w h
 . exact do6 B R c w0 s a b w h
 . exact do7 B R c w0 s a b w h
 . exact do8 B R c w0 s a b w h
 . exact do9 B R c w0 s a b w h
 . exact z9f B R c w0 s a b w h
 . exact z9o B R c w0 s a b w h
 . exact z9p B R c w0 s a b w h
 . exact z9g B R c w0 s a b w h
 . exact z9h B R c w0 s a b w h ha hb
 . exact z9i B R c w0 s a b w h
 . exact z9j B R c w0 s a b w h
 . exact z9n B R c w0 s a b w h
 . exact z9l B R c w0 s a b w h
 . exact z9m B R c w0 s a b w h
 . exact z9q B R c w0 s a b w h
 . exact z9r B R c w0 s a b w h
 . exact z9k B R c w0 s a b w h
theorem z87:Enters Tryz.prog 181:=enters_of Tryz.func181 (by kernel_rfl) rfl
theorem z0e (B R:Nat) (c:Mc.Cfg) (w0:World) (s:Mc.St) (w:World) (h:Mch B R c w0 w s) :
 Calls Tryz.prog 149 #[.pointer (some ⟨R,0,none⟩)] w (zap B R c w0 (Mc.step c s) za3):=by
 obtain ⟨T,⟨cv,st,lo,fr,da,iv,ou⟩,h⟩:=h;obtain ⟨cb,coff,ccap,hv,Ju,Ct⟩:=h.code;simp only at hv;subst hv;have HA:=hid h;obtain ⟨c0,c1, -, -, -, -, -, -, -, -,c10,c11,CP,hf⟩:=h.cell;simp only at c0;have O2:=h.sp.1;have Du:=h.sp.2;have SR:=h.cfg.ms;have DY:=h.cfg.len;have Bk:=h.ltR
 have HC:Hid (∀ (k:Nat) (hk:k<c.code.length),w.cell? ⟨cb,coff+k*3,none⟩=some (.int .i64 c.code[k].op)/\w.cell? ⟨cb,coff+k*3+1,none⟩=some (.int .i64 c.code[k].a)/\w.cell? ⟨cb,coff+k*3+2,none⟩=some (.int .i64 c.code[k].b)):=fun k hk=>by
  obtain ⟨h1,h2,h3⟩:=Ct k hk;exact ⟨(h.below.cell (p:=⟨cb,coff+k*3,none⟩) Ju).trans h1,(h.below.cell (p:=⟨cb,coff+k*3+1,none⟩) Ju).trans h2,(h.below.cell (p:=⟨cb,coff+k*3+2,none⟩) Ju).trans h3⟩
 have Tf:cb≠R:=by have:=h.hR;omega
 have G2:cb<w.heap.size:=Nat.lt_of_lt_of_le Ju h.hB;clear h Ct
 by_cases Cf:s.steps=c.ms
 . have HP:Hid (Mc.step c s = .stop { s with en:=7 }):=if_pos Cf
   have hb:(s.steps == c.ms)=true:=beq_iff_eq.2 Cf;clear Cf;go_enter Tryz.func149,Tryz.ntmps149;go_wp2_with fail
   go_quiet ((fail))
   go_wp2_with fail;refine (zg6 7 _ ⟨_,_,HA.out.drewN _⟩).mono ?_;rintro e w2 ⟨rfl,hm⟩;go_wp2_with fail;exact ⟨rfl,zap.stop HP.out rfl hm⟩
 . have hb:(s.steps == c.ms)=false:=beq_eq_false_iff_ne.2 Cf
   have A0:s.steps<c.ms:=by omega
   have Kx:Hid (∀ n,MAt B R c w0 ((w.drewN n).setCell ⟨R,11,none⟩ (.int .i64 (s.steps+1))) T ⟨.slice (some ⟨cb,coff,none⟩) c.code.length ccap,st,lo,fr,da,iv,ou⟩ { s with steps:=s.steps+1 }):=fun n=>(HA.out.drewN n).setSteps _ (by omega) (by omega)
   by_cases CG:0<=s.pc/\s.pc<c.code.length
   . have HP:Hid (Mc.step c s=Mc.doI c.mt (c.code.getD s.pc.toNat ⟨0,0,0⟩) { s with steps:=s.steps+1,pc:=s.pc+1 }):=(if_neg Cf).trans (if_pos CG)
     clear Cf;obtain ⟨Gx,LL⟩:=CG;obtain ⟨k,hk⟩:=Int.eq_ofNat_of_zero_le Gx
     have Ef:k<c.code.length:=by omega
     obtain ⟨e0,e1,e2⟩:=HC.out k Ef
     have hD:c.code.getD s.pc.toNat ⟨0,0,0⟩=c.code[k]:=by rw [hk,Int.toNat_natCast,List.getD_eq_getElem?_getD,List.getElem?_eq_getElem Ef];rfl
     rw [hD] at HP;have HI:Hid (1<=c.code[k].op/\c.code[k].op<=22/\fit64 c.code[k].a/\fit64 c.code[k].b):=HA.out.cfg.ops _ (List.getElem_mem Ef);have HK:=hid hk;rw [hk] at c1;clear HC;generalize c.code[k]=ins at *;obtain ⟨op,a,b⟩:=ins;simp only at e0 e1 e2;generalize c.code.length=N at *;clear hD hk Gx LL
     have Qp:(k:Int)<(N:Int):=by omega
     have GG:(0:Int)<=(k:Int):=by omega
     go_enter Tryz.func149,Tryz.ntmps149;go_wp2_with fail
     go_quiet ((fail))
     go_wp2_with fail
     go_quiet ((go_at_call 181;exact Calls.quiet_of_same (zbx _ _ _ (by first | (simp;done) | (simp;omega)))))
     go_wp2_with fail
     go_region
     go_wp2_with fail;refine (z5x B R c w0 { s with steps:=s.steps+1,pc:=s.pc+1 } ⟨op,a,b⟩ _ ?_ HI.out.1 HI.out.2.1 HI.out.2.2.1 HI.out.2.2.2).mono ?_
     . rw [HK.out]
       exact ⟨_,_,(((Kx.out _).drewN _).setPc _).alloc _⟩
     intro e w1 he
     rcases he.parts with ⟨u,s1,HR,rfl,Hm⟩ | ⟨s1,HR,rfl,Hm⟩<;>clear he<;>simp only [za3]
     . go_wp2_with fail
       go_returns
       exact zap.ok (HP.out.trans HR.out) rfl Hm.out
     . go_wp2_with fail
       exact ⟨rfl,zap.of_stop (HP.out.trans HR.out) Hm.out⟩
   . have HP:Hid (Mc.step c s = .stop { s with steps:=s.steps+1,en:=6 }):=(if_neg Cf).trans (if_neg CG)
     clear Cf HC;generalize c.code.length=N at *;clear c0 c1
     by_cases Gx:0<=s.pc
     . have LL:¬ s.pc<N:=fun h=>CG ⟨Gx,h⟩
       obtain ⟨n,hn⟩:=Int.eq_ofNat_of_zero_le Gx
       have Fu:(N:Int)<=(n:Int):=by omega
       have HN:=hid hn;clear CG LL Gx;go_enter Tryz.func149,Tryz.ntmps149;go_wp2_with fail
       go_quiet ((fail))
       go_wp2_with fail;have IM:=hid (Kx.out nq);clear Kx HA;generalize (w.drewN nq).setCell ⟨R,11,none⟩ (.int .i64 (s.steps+1))=W at *;have d0:=IM.out.cell.1;have d1:=IM.out.cell.2.1;simp only [hn] at d0 d1;clear hn;refine wp_region_held (S:=fun w'=>w'.cell? ⟨R,1,none⟩=some (.int .i64 (n:Int))/\w'.cell? ⟨R,0,none⟩=some (.slice (some ⟨cb,coff,none⟩) N ccap)) (by kernel_rfl) ?_
       change wpAnyH _ _ _ _ _ _ _ _ (World.drew W)
       have hS:(fun w':World=>w'.cell? ⟨R,1,none⟩=some (.int .i64 (n:Int))/\w'.cell? ⟨R,0,none⟩=some (.slice (some ⟨cb,coff,none⟩) N ccap)) W.drew:=⟨d1,d0⟩
       refine wpAnyH_take (i:=0) (v:=.pointer (some ⟨R,0,none⟩)) rfl (by kernel_rfl) (by kernel_rfl) (by kernel_rfl) (fun _ _ _ h=>h) (Or.inl ⟨by kernel_rfl,fun w ⟨h1,h2⟩=>by go_simp⟩) hS ?_;refine wpAnyH_take (i:=1) (v:=.pointer (some ⟨R,0,none⟩)) rfl (by kernel_rfl) (by kernel_rfl) (by kernel_rfl) (fun _ _ _ h=>h) (Or.inl ⟨by kernel_rfl,fun w ⟨h1,h2⟩=>by go_simp⟩) hS ?_;refine wpAnyH_take (i:=2) (v:=.pointer (some ⟨R,0,none⟩)) rfl (by kernel_rfl) (by kernel_rfl) (by kernel_rfl) (fun _ _ _ h=>h) (Or.inl ⟨by kernel_rfl,fun w ⟨h1,h2⟩=>by go_simp⟩) hS ?_;refine wpAnyH_take (i:=3) (v:=.pointer (some ⟨R,1,none⟩)) rfl (by kernel_rfl) (by kernel_rfl) (by kernel_rfl) (fun _ _ _ h=>h) (Or.inl ⟨by kernel_rfl,fun w ⟨h1,h2⟩=>by go_simp⟩) hS ?_;refine wpAnyH_take (i:=4) (v:=.int .i64 (n:Int)) rfl (by kernel_rfl) (by kernel_rfl) (by kernel_rfl) (fun _ _ _ h=>h) (Or.inl ⟨by kernel_rfl,fun w ⟨h1,h2⟩=>by go_simp⟩) hS ?_
       refine wpAnyH_take (i:=5) (v:=.bool true) rfl (by kernel_rfl) (by kernel_rfl) (by kernel_rfl) (fun _ _ _ h=>h) (Or.inl ⟨by kernel_rfl,fun w ⟨h1,h2⟩=>by go_simp⟩) hS ?_;refine wpAnyH_take (i:=6) (v:=.bool true) rfl (by kernel_rfl) (by kernel_rfl) (by kernel_rfl) (fun _ _ _ h=>h) (Or.inl ⟨by kernel_rfl,fun w ⟨h1,h2⟩=>by go_simp⟩) hS ?_;refine wpAnyH_take (i:=7) (v:=.pointer (some ⟨R,0,none⟩)) rfl (by kernel_rfl) (by kernel_rfl) (by kernel_rfl) (fun _ _ _ h=>h) (Or.inl ⟨by kernel_rfl,fun w ⟨h1,h2⟩=>by go_simp⟩) hS ?_;refine wpAnyH_take (i:=8) (v:=.pointer (some ⟨R,0,none⟩)) rfl (by kernel_rfl) (by kernel_rfl) (by kernel_rfl) (fun _ _ _ h=>h) (Or.inl ⟨by kernel_rfl,fun w ⟨h1,h2⟩=>by go_simp⟩) hS ?_;refine wpAnyH_take (i:=9) (v:=.pointer (some ⟨R,1,none⟩)) rfl (by kernel_rfl) (by kernel_rfl) (by kernel_rfl) (fun _ _ _ h=>h) (Or.inl ⟨by kernel_rfl,fun w ⟨h1,h2⟩=>by go_simp⟩) hS ?_
       refine wpAnyH_take (i:=10) (v:=.int .i64 (n:Int)) rfl (by kernel_rfl) (by kernel_rfl) (by kernel_rfl) (fun _ _ _ h=>h) (Or.inl ⟨by kernel_rfl,fun w ⟨h1,h2⟩=>by go_simp⟩) hS ?_;refine wpAnyH_take (i:=11) (v:=.pointer (some ⟨R,0,none⟩)) rfl (by kernel_rfl) (by kernel_rfl) (by kernel_rfl) (fun _ _ _ h=>h) (Or.inl ⟨by kernel_rfl,fun w ⟨h1,h2⟩=>by go_simp⟩) hS ?_;refine wpAnyH_take (i:=12) (v:=.pointer (some ⟨R,0,none⟩)) rfl (by kernel_rfl) (by kernel_rfl) (by kernel_rfl) (fun _ _ _ h=>h) (Or.inl ⟨by kernel_rfl,fun w ⟨h1,h2⟩=>by go_simp⟩) hS ?_;refine wpAnyH_take (i:=13) (v:=.pointer (some ⟨R,0,none⟩)) rfl (by kernel_rfl) (by kernel_rfl) (by kernel_rfl) (fun _ _ _ h=>h) (Or.inl ⟨by kernel_rfl,fun w ⟨h1,h2⟩=>by go_simp⟩) hS ?_;refine wpAnyH_take (i:=14) (v:=.slice (some ⟨cb,coff,none⟩) N ccap) rfl (by kernel_rfl) (by kernel_rfl) (by kernel_rfl) (fun _ _ _ h=>h) (Or.inl ⟨by kernel_rfl,fun w ⟨h1,h2⟩=>by go_simp⟩) hS ?_
       refine wpAnyH_take (i:=15) (v:=.int .i64 (N:Int)) rfl (by kernel_rfl) (by kernel_rfl) (by kernel_rfl) (fun _ _ _ h=>h) (Or.inl ⟨by kernel_rfl,fun w ⟨h1,h2⟩=>by go_simp⟩) hS ?_;refine wpAnyH_take (i:=16) (v:=.bool false) rfl (by kernel_rfl) (by kernel_rfl) (by kernel_rfl) (fun _ _ _ h=>h) (Or.inl ⟨by kernel_rfl,fun w ⟨h1,h2⟩=>by go_simp;omega⟩) hS ?_;refine wpAnyH_take (i:=17) (v:=.bool false) rfl (by kernel_rfl) (by kernel_rfl) (by kernel_rfl) (fun _ _ _ h=>h) (Or.inl ⟨by kernel_rfl,fun w ⟨h1,h2⟩=>by go_simp⟩) hS ?_;refine wpAnyH_all (rs:=[18]) (by kernel_rfl) (by simp) ?_;intro i hi;obtain rfl:=List.mem_singleton.1 hi;refine zl8 rfl rfl 181 _ _ rfl z87 #[.pointer (some ⟨R,0,none⟩),.bool false] (by kernel_rfl) (zcn _ _ rfl ⟨_,_,IM.out.drew⟩) (fun w' h=>by cases h.1) (fun ch w' h=>?_) (fun _ _ h=>by cases h.1);obtain ⟨h1,hm⟩:=h
       cases h1;exact ⟨rfl,zap.stop HP.out rfl hm⟩
     . obtain ⟨n,hn⟩:∃ n,s.pc=Int.negSucc n:=⟨(-s.pc - 1).toNat,by omega⟩
       have HN:=hid hn;clear CG Gx;go_enter Tryz.func149,Tryz.ntmps149;go_wp2_with fail
       go_quiet ((fail))
       go_wp2_with fail;have IM:=hid (Kx.out nq);clear Kx HA;generalize (w.drewN nq).setCell ⟨R,11,none⟩ (.int .i64 (s.steps+1))=W at *;have d1:=IM.out.cell.2.1;simp only [hn] at d1;clear hn;refine wp_region_held (S:=fun w'=>w'.cell? ⟨R,1,none⟩=some (.int .i64 (Int.negSucc n))) (by kernel_rfl) ?_
       change wpAnyH _ _ _ _ _ _ _ _ (World.drew W)
       have hS:(fun w':World=>w'.cell? ⟨R,1,none⟩=some (.int .i64 (Int.negSucc n))) W.drew:=d1;refine wpAnyH_take (i:=0) (v:=.pointer (some ⟨R,0,none⟩)) rfl (by kernel_rfl) (by kernel_rfl) (by kernel_rfl) (fun _ _ _ h=>h) (Or.inl ⟨by kernel_rfl,fun w hS=>by go_simp⟩) hS ?_;refine wpAnyH_take (i:=1) (v:=.pointer (some ⟨R,0,none⟩)) rfl (by kernel_rfl) (by kernel_rfl) (by kernel_rfl) (fun _ _ _ h=>h) (Or.inl ⟨by kernel_rfl,fun w hS=>by go_simp⟩) hS ?_;refine wpAnyH_take (i:=2) (v:=.pointer (some ⟨R,0,none⟩)) rfl (by kernel_rfl) (by kernel_rfl) (by kernel_rfl) (fun _ _ _ h=>h) (Or.inl ⟨by kernel_rfl,fun w hS=>by go_simp⟩) hS ?_;refine wpAnyH_take (i:=3) (v:=.pointer (some ⟨R,1,none⟩)) rfl (by kernel_rfl) (by kernel_rfl) (by kernel_rfl) (fun _ _ _ h=>h) (Or.inl ⟨by kernel_rfl,fun w hS=>by go_simp⟩) hS ?_;refine wpAnyH_take (i:=4) (v:=.int .i64 (Int.negSucc n)) rfl (by kernel_rfl) (by kernel_rfl) (by kernel_rfl) (fun _ _ _ h=>h) (Or.inl ⟨by kernel_rfl,fun w hS=>by go_simp⟩) hS ?_
       refine wpAnyH_take (i:=5) (v:=.bool false) rfl (by kernel_rfl) (by kernel_rfl) (by kernel_rfl) (fun _ _ _ h=>h) (Or.inl ⟨by kernel_rfl,fun w hS=>by go_simp⟩) hS ?_;refine wpAnyH_take (i:=6) (v:=.bool false) rfl (by kernel_rfl) (by kernel_rfl) (by kernel_rfl) (fun _ _ _ h=>h) (Or.inl ⟨by kernel_rfl,fun w hS=>by go_simp⟩) hS ?_;refine wpAnyH_take (i:=7) (v:=undef) rfl (by kernel_rfl) (by kernel_rfl) (by kernel_rfl) (fun _ _ _ h=>h) (Or.inr ⟨by kernel_rfl,rfl⟩) hS ?_;refine wpAnyH_take (i:=8) (v:=undef) rfl (by kernel_rfl) (by kernel_rfl) (by kernel_rfl) (fun _ _ _ h=>h) (Or.inr ⟨by kernel_rfl,rfl⟩) hS ?_;refine wpAnyH_take (i:=9) (v:=undef) rfl (by kernel_rfl) (by kernel_rfl) (by kernel_rfl) (fun _ _ _ h=>h) (Or.inr ⟨by kernel_rfl,rfl⟩) hS ?_;refine wpAnyH_take (i:=10) (v:=undef) rfl (by kernel_rfl) (by kernel_rfl) (by kernel_rfl) (fun _ _ _ h=>h) (Or.inr ⟨by kernel_rfl,rfl⟩) hS ?_
       refine wpAnyH_take (i:=11) (v:=undef) rfl (by kernel_rfl) (by kernel_rfl) (by kernel_rfl) (fun _ _ _ h=>h) (Or.inr ⟨by kernel_rfl,rfl⟩) hS ?_;refine wpAnyH_take (i:=12) (v:=undef) rfl (by kernel_rfl) (by kernel_rfl) (by kernel_rfl) (fun _ _ _ h=>h) (Or.inr ⟨by kernel_rfl,rfl⟩) hS ?_;refine wpAnyH_take (i:=13) (v:=undef) rfl (by kernel_rfl) (by kernel_rfl) (by kernel_rfl) (fun _ _ _ h=>h) (Or.inr ⟨by kernel_rfl,rfl⟩) hS ?_;refine wpAnyH_take (i:=14) (v:=undef) rfl (by kernel_rfl) (by kernel_rfl) (by kernel_rfl) (fun _ _ _ h=>h) (Or.inr ⟨by kernel_rfl,rfl⟩) hS ?_;refine wpAnyH_take (i:=15) (v:=undef) rfl (by kernel_rfl) (by kernel_rfl) (by kernel_rfl) (fun _ _ _ h=>h) (Or.inr ⟨by kernel_rfl,rfl⟩) hS ?_;refine wpAnyH_take (i:=16) (v:=undef) rfl (by kernel_rfl) (by kernel_rfl) (by kernel_rfl) (fun _ _ _ h=>h) (Or.inr ⟨by kernel_rfl,rfl⟩) hS ?_;refine wpAnyH_take (i:=17) (v:=.bool false) rfl (by kernel_rfl) (by kernel_rfl) (by kernel_rfl) (fun _ _ _ h=>h) (Or.inl ⟨by kernel_rfl,fun w hS=>by go_simp⟩) hS ?_
       refine wpAnyH_all (rs:=[18]) (by kernel_rfl) (by simp) ?_;intro i hi;obtain rfl:=List.mem_singleton.1 hi;refine zl8 rfl rfl 181 _ _ rfl z87 #[.pointer (some ⟨R,0,none⟩),.bool false] (by kernel_rfl) (zcn _ _ rfl ⟨_,_,IM.out.drew⟩) (fun w' h=>by cases h.1) (fun ch w' h=>?_) (fun _ _ h=>by cases h.1);obtain ⟨h1,hm⟩:=h;cases h1;exact ⟨rfl,zap.stop HP.out rfl hm⟩
end Mx
set_option maxHeartbeats 800000
namespace Mx
open Go.RowKit Go.Shelf
theorem zw7 (x:Int) (w:World) :
 CallsD Tryz.prog 148 #[] (.panicking (zdr x)) w fun e u' w'=>e = .returned (.tuple #[])/\u' = .panicking [{ v:=.iface 3 (.int .i64 x),recovered:=true }]/\w'=w:=by
 refine callsD_of_wpS Tryz.func148 rfl fun c₀ cs hu=>?_
 apply wpS_region
 unfold zdr at hu;simp [wpOpsS,go_sem,recoverD,hu,Tryz.ntmps148,bodyPostS,results,Tryz.results148]
def zma (ms:Int) (R:Nat) (w:World):Nat:=(ms - (match w.cell? ⟨R,11,none⟩ with | some (.int _ n)=>n | _=>0)).toNat
theorem zpl {B R:Nat} {c:Mc.Cfg} {w0 w:World} {s:Mc.St} (h:Mch B R c w0 w s):zma c.ms R w=(c.ms - s.steps).toNat/\s.steps<=c.ms:=by
 obtain ⟨T,v,h⟩:=h;unfold zma;rw [h.cell.2.2.2.2.2.2.2.2.2.2.2.1];exact ⟨rfl,h.sp.2⟩
theorem z3r (B R:Nat) (c:Mc.Cfg) (w0:World) (s:Mc.St) (w:World) (h:Mch B R c w0 w s) (F:Nat) (hF:(c.ms - s.steps).toNat<F) :
 Calls Tryz.prog 111 #[.pointer (some ⟨R,0,none⟩)] w fun e w'=>e = .returned (.tuple #[])/\Mch B R c w0 w' (Mc.run c F s):=by
 have HM:=hid h
 have HL:Hid (∀ (w1:World) (s1:Mc.St),Mch B R c w0 w1 s1->zma c.ms R w1=(c.ms - s1.steps).toNat/\s1.steps<=c.ms):=fun w1 s1 h=>zpl h
 have hs:=(zpl h).2;have HF:=hid hF;have HS:=hid hs;clear h hF hs;go_enter_defers Tryz.func111,Tryz.ntmps111;go_wp2_with fail
 go_loopw [] (fun wr=>∃ (s1:Mc.St) (f:Nat),Mch B R c w0 wr s1/\(c.ms - s1.steps).toNat<f/\Mc.run c f s1=Mc.run c F s) (fun wr=>zma c.ms R wr)
 case atStart=>exact ⟨s,F,HM.out,HF.out,rfl⟩
 case round=>
  obtain ⟨s1,f,h1,h2,h3⟩:=hrel;have H1:=hid h1;have H2:=hid h2;have H3:=hid h3;clear h1 h2 h3;go_wp2_with fail;refine (z0e B R c w0 s1 _ H1.out).mono ?_;intro e w1 he
  rcases he.parts with ⟨u,s2,HR,rfl,Hm⟩ | ⟨s2,HR,rfl,Hm⟩<;>clear he<;>simp only [za3]
  . go_wp2_with fail
    go_roundw
    case rel=>
     obtain ⟨h1,_,h3,_⟩:=Mc.step_ok HR.out;have h2:=H2.out;have h4:=(HL.out _ _ H1.out).2
     cases f with
     | zero=>omega
     | succ f=>
       refine ⟨s2,f,Hm.out,by omega,?_⟩;rw [← H3.out,Mc.run_succ,HR.out]
    case measure=>
     obtain ⟨h1,_,h3,_⟩:=Mc.step_ok HR.out;have h4:=HL.out _ _ H1.out;have h5:=HL.out _ _ Hm.out;show zma c.ms R w1<zma c.ms R wr;rw [h4.1,h5.1];omega
  . go_wp2_with fail
    have HE:Hid (Mc.run c F s=s2):=by
     show Mc.run c F s=s2;have h2:=H2.out
     cases f with
     | zero=>omega
     | succ f=>rw [← H3.out,Mc.run_succ,HR.out]
    refine leaves_cons (f:=148) (args:=#[]) (by simp) (by simp [go_sem]) ?_;refine (zw7 s2.en w1).mono ?_;rintro e u' Ce ⟨rfl,rfl,rfl⟩;refine ⟨.tuple #[],?_,rfl,?_⟩
    . simp [results,Tryz.results111]
    . rw [HE.out];exact Hm.out
end Mx
set_option maxHeartbeats 1600000
namespace Mx
open Go.RowKit Go.Shelf
def zil (w:World) (a:Option Addr) (l:List Int):Prop:=
 l=[]\/∃ b off,a=some ⟨b,off,none⟩/\b<w.heap.size/\∀ i (h:i<l.length),w.cell? ⟨b,off+i,none⟩=some (.int .i64 l[i])
theorem zil.later {w w':World} {a:Option Addr} {l:List Int} (h:zil w a l) (hb:Below w.heap.size w w'):zil w' a l:=by
 rcases h with h | ⟨b,off,e,hl,h⟩
 . exact Or.inl h
 . exact Or.inr ⟨b,off,e,Nat.lt_of_lt_of_le hl hb.size,fun i hi=>(hb.cell (p:=⟨b,off+i,none⟩) hl).trans (h i hi)⟩
def zcu (lo:Nat) (w:World) (a:Option Addr) (l:List Int):Prop:=
 l=[]\/∃ b off,a=some ⟨b,off,none⟩/\lo<=b/\b<w.heap.size/\∀ i (h:i<l.length),w.cell? ⟨b,off+i,none⟩=some (.int .i64 l[i])
theorem zcu.at {lo:Nat} {w:World} {a:Option Addr} {l:List Int} (h:zcu lo w a l):zil w a l:=by
 rcases h with h | ⟨b,off,e,_,hl,h⟩
 . exact Or.inl h
 . exact Or.inr ⟨b,off,e,hl,h⟩
theorem zcu.mono {lo lo':Nat} {w:World} {a:Option Addr} {l:List Int} (h:zcu lo w a l) (hl:lo'<=lo):zcu lo' w a l:=by
 rcases h with h | ⟨b,off,e,h1,h2,h⟩
 . exact Or.inl h
 . exact Or.inr ⟨b,off,e,Nat.le_trans hl h1,h2,h⟩
theorem zcu.keep {lo:Nat} {w W:World} {a:Option Addr} {l:List Int} (h:zcu lo w a l) (hz:w.heap.size<=W.heap.size) (hk:∀ k,lo<=k->k<w.heap.size->W.heap[k]? = w.heap[k]?):zcu lo W a l:=by
 rcases h with h | ⟨b,off,e,h1,h2,h⟩
 . exact Or.inl h
 . exact Or.inr ⟨b,off,e,h1,Nat.lt_of_lt_of_le h2 hz,fun i hi=>(World.cell?_of_block (w:=w) (hk b h1 h2)).trans (h i hi)⟩
theorem zil.of_own {w:World} {T:Nat->Nat} {B mark:Nat} {v:Value} {l:List Int} (h:Own w T B mark 3 1 v l.length (ints l)):∃ a cap,v = .slice a l.length cap/\l.length<=cap/\∀ W:World,w.heap.size<=W.heap.size->(∀ k,B<=k->W.heap[k]? = w.heap[k]?)->zcu B W a l:=by
 by_cases hl:0<l.length
 . obtain ⟨g,cap,hv,hc,_,hB,A0,_,_,hcell⟩:=h.place hl
   refine ⟨_,cap,hv,hc,fun W hz hk=>Or.inr ⟨g,0,rfl,hB,Nat.lt_of_lt_of_le A0 hz,fun i hi=>?_⟩⟩;rw [Nat.zero_add];have:=hcell i _ (zjc l i hi);rw [List.getD_eq_getElem?_getD,List.getElem?_eq_getElem hi,Option.getD_some] at this;exact (World.cell?_of_block (w:=w) (hk g hB)).trans this
 . obtain ⟨a,cap,hv,hc,_⟩:=h.form
   exact ⟨a,cap,hv,hc,fun _ _ _=>Or.inl (List.eq_nil_of_length_eq_zero (by omega))⟩
structure Ans where
 en:Int
 out:List Int
 data:List Int
 ticks:Int
 steps:Int
 err:Int
def ansR (code:List Mc.Ins) (d:Int) (inp:List Int) (ticks steps:Int):Ans:=
 if errR code d inp.length ticks steps=0 then
  let s:=Mc.run ⟨code,ticks,steps⟩ (steps.toNat+1) (zb9 d.toNat inp)
  ⟨s.en,s.out,s.data,s.ticks,s.steps,0⟩
 else ⟨0,[],[],0,0,errR code d inp.length ticks steps⟩
theorem zw8 {code:List Mc.Ins} {d:Int} {n:Nat} {ticks steps:Int} (h:errR code d n ticks steps=0) :
 (1<=code.length/\code.length<=2048)/\code.all opB=true/\(0<=d/\d<=512)/\n<=64/\(0<=ticks/\ticks<=2000)/\(0<=steps/\steps<=134217728):=by
 unfold errR at h
 split at h
 . rename_i h1;exact absurd h h1
 . rename_i h1
   have h1:checkI code d=0:=by simpa using h1
   split at h
   . cases h
   . split at h
     . cases h
     . unfold checkI at h1
       split at h1
       . cases h1
       . split at h1
         . split at h1
           . cases h1
           . exact ⟨by omega,by assumption,by omega,by omega,by omega,by omega⟩
         . cases h1
theorem Run_any (a ia:Option Addr) (cap Bx:Nat) (code:List Mc.Ins) (d:Int) (inp:List Int) (ticks steps:Int) (w:World) (hT:ImgAt w a code) (hl:code.length<=1000000000000000) (Bo:∀ i ∈ code,InsFit i)
 (hI:zil w ia inp) (Qv:inp.length<=1000000000000000) (Qw:inp.length<=Bx) (Qu:Bx<=maxLen) :
 Calls Tryz.prog 47 #[.agg #[.slice a code.length cap,.int .i64 d],.slice ia inp.length Bx,.int .i64 ticks,.int .i64 steps] w fun e w'=>
  ∃ oa oc da dc,e = .returned (.tuple #[.agg #[.int .i64 (ansR code d inp ticks steps).en,.slice oa (ansR code d inp ticks steps).out.length oc,.slice da (ansR code d inp ticks steps).data.length dc,.int .i64 (ansR code d inp ticks steps).ticks],.int .i64 (ansR code d inp ticks steps).steps,.int .i64 (ansR code d inp ticks steps).err])/\
    zcu w.heap.size w' oa (ansR code d inp ticks steps).out/\zcu w.heap.size w' da (ansR code d inp ticks steps).data/\Below w.heap.size w w'/\(ansR code d inp ticks steps).out.length<=oc/\(ansR code d inp ticks steps).out.length<=200/\(ansR code d inp ticks steps).data.length<=512:=by
 have HT:=hid hT
 have HC:Hid (∀ w:World,ImgAt w a code->Calls Tryz.prog 109 #[.agg #[.slice a code.length cap,.int .i64 d],.slice ia inp.length Bx,.int .i64 ticks,.int .i64 steps] w fun e w'=>e = .returned (.int .i64 (errR code d inp.length ticks steps))/\Below w.heap.size w w'):=fun w h=>zpi a cap code d ia inp.length Bx ticks steps w h hl Qv
 by_cases h0:errR code d inp.length ticks steps=0
 . obtain ⟨⟨Bg,C1⟩,hops,⟨Fw,C8⟩,DB,⟨O1,O0⟩,O2,Du⟩:=zw8 h0
   obtain ⟨dn,rfl⟩:=Int.eq_ofNat_of_zero_le Fw
   have HE:Hid (ansR code dn inp ticks steps=⟨(Mc.run ⟨code,ticks,steps⟩ (steps.toNat+1) (zb9 dn inp)).en,(Mc.run ⟨code,ticks,steps⟩ (steps.toNat+1) (zb9 dn inp)).out,(Mc.run ⟨code,ticks,steps⟩ (steps.toNat+1) (zb9 dn inp)).data,(Mc.run ⟨code,ticks,steps⟩ (steps.toNat+1) (zb9 dn inp)).ticks,(Mc.run ⟨code,ticks,steps⟩ (steps.toNat+1) (zb9 dn inp)).steps,0⟩):=by
    show ansR code dn inp ticks steps=_;unfold ansR;rw [if_pos h0,Int.toNat_natCast]
   have ES:Hid (CfgOk ⟨code,ticks,steps⟩):=⟨O0,Du,C1,fun i hi=>by
    have:=List.all_eq_true.1 hops i hi;simp [opB] at this
    exact ⟨this.1,this.2,(Bo i hi).1,(Bo i hi).2⟩⟩
   have HN:Hid (∀ W:World,Below w.heap.size w W->Calls Tryz.prog 110 #[.agg #[.slice a code.length cap,.int .i64 (dn:Int)],.slice ia inp.length Bx,.int .i64 ticks,.int .i64 steps] W fun e w'=>∃ R T v,e = .returned (.pointer (some ⟨R,0,none⟩))/\MAt W.heap.size R ⟨code,ticks,steps⟩ W w' T v (zb9 dn inp)):=fun W hb=>by
    refine z3n a ia cap code.length inp.length Bx dn ⟨code,ticks,steps⟩ inp W (by omega) ES.out ?_ ?_ DB O1 O2
    . rcases hT.later hb with h | ⟨b,off,e,Au,h⟩
      . rw [h] at Bg;simp at Bg
      . exact ⟨b,off,cap,by rw [e],Au,h⟩
    . refine ⟨ia,Bx,rfl,Qw,Qu,?_⟩
      rcases hI.later hb with h | h
      . exact Or.inl h
      . exact Or.inr h
   have JT:Hid (∀ (W W2:World) (R:Nat),Mch W.heap.size R ⟨code,ticks,steps⟩ W W2 (zb9 dn inp)->Calls Tryz.prog 111 #[.pointer (some ⟨R,0,none⟩)] W2 fun e w'=>e = .returned (.tuple #[])/\Mch W.heap.size R ⟨code,ticks,steps⟩ W w' (Mc.run ⟨code,ticks,steps⟩ (steps.toNat+1) (zb9 dn inp))):=fun W W2 R h=>z3r _ R _ W _ W2 h _ (by show (steps - 0).toNat<_;omega)
   rw [h0] at HC;clear h0 hT hI Bo hops ES;rw [HE.out];simp only;generalize Mc.run ⟨code,ticks,steps⟩ (steps.toNat+1) (zb9 dn inp)=F at *;go_enter Tryz.func47,Tryz.ntmps47;go_wp2_with fail;refine (HC.out _ (HT.out.later (((Below.refl _ _).alloc (Nat.le_refl _) _).alloc (by simp) _))).mono ?_;rintro e w1 ⟨rfl,A5⟩;have A8:Hid (Below w.heap.size w w1):=(((Below.refl _ _).alloc (Nat.le_refl _) _).alloc (by simp) _).trans (A5.mono (by simp;omega))
   have Ao:w.heap.size+2<=w1.heap.size:=by have:=A5.size;simp at this;omega
   have i0:w1.cell? ⟨w.heap.size,0,none⟩=some (.slice a code.length cap):=(A5.cell (p:=⟨w.heap.size,0,none⟩) (by simp;omega)).trans (by simp);have i1:w1.cell? ⟨w.heap.size,1,none⟩=some (.int .i64 (dn:Int)):=(A5.cell (p:=⟨w.heap.size,1,none⟩) (by simp;omega)).trans (by simp);have hr:w1.heap[w.heap.size+1]? = some (.cells #[.int .i64 0,.slice none 0 0,.slice none 0 0,.int .i64 0] 51):=(A5.block (w.heap.size+1) (by simp)).trans (by have:=_root_.Go.heap_alloc_new (w.alloc (.cells #[.slice a code.length cap,.int .i64 (dn:Int)] 81)) (.cells #[.int .i64 0,.slice none 0 0,.slice none 0 0,.int .i64 0] 51);simpa using this);have HR:=hid hr;clear A5 hr HC;go_wp2_with fail;refine (HN.out _ A8.out).mono ?_;rintro e w2 ⟨R,T,v,rfl,hM⟩;have HM:=hid hM;clear hM;go_wp2_with fail;refine (JT.out _ _ R ⟨T,v,HM.out⟩).mono ?_;rintro e w3 ⟨rfl,hM3⟩
   obtain ⟨T3,⟨cv3,st3,lo3,fr3,da3,iv3,ou3⟩,hA3⟩:=hM3;obtain ⟨oa,oc,ho,hoc,hO⟩:=zil.of_own hA3.ou;obtain ⟨da,dc,hd, -,hD⟩:=zil.of_own hA3.da;simp only at ho hd;subst ho;subst hd;have HO:=hid hO;have HD:=hid hD;have RM:=hid hoc
   have P6:Hid (F.out.length<=200/\F.data.length<=512):=⟨hA3.bou,hA3.bda⟩
   clear hoc;obtain ⟨-, -, -, -, -,m5, -,m7, -,m9, -,m11,m12, -⟩:=hA3.cell;simp only at m5 m7;have Af:=hid hA3.below;have BO:=hA3.below.size;have Bk:=hA3.ltR;have CT:=hA3.hR;have HX:=hid ((hA3.below.block (w.heap.size+1) (by omega)).trans HR.out)
   have x0:w3.cell? ⟨w.heap.size+1,0,none⟩=some (.int .i64 0):=by rw [Lib.cell_of_heap HX.out];rfl
   have x1:w3.cell? ⟨w.heap.size+1,1,none⟩=some (.slice none 0 0):=by rw [Lib.cell_of_heap HX.out];rfl
   have x2:w3.cell? ⟨w.heap.size+1,2,none⟩=some (.slice none 0 0):=by rw [Lib.cell_of_heap HX.out];rfl
   have x3:w3.cell? ⟨w.heap.size+1,3,none⟩=some (.int .i64 0):=by rw [Lib.cell_of_heap HX.out];rfl
   have xf:∀ j,w3.frozen? ⟨w.heap.size+1,j,none⟩=false:=fun j=>Lib.frozen_of_heap HX.out j
   have Jd:w.heap.size+1<w3.heap.size:=by omega
   have Aj:w.heap.size+1≠R:=by omega
   clear JT hA3 hO hD HM HN;go_wp2_with fail
   go_region
   go_wp2_with fail;refine bodyPost_ret (v:=.tuple #[.agg #[.int .i64 F.en,.slice oa F.out.length oc,.slice da F.data.length dc,.int .i64 F.ticks],.int .i64 F.steps,.int .i64 0]) (by simp [results,Tryz.results47,go_sem,x0,x1,x2,x3]) rfl ⟨oa,oc,da,dc,rfl,(HO.out _ (by simp) (fun k hk=>?_)).mono (by omega),(HD.out _ (by simp) (fun k hk=>?_)).mono (by omega),?_,RM.out,P6.out.1,P6.out.2⟩
   . have hn:k≠w.heap.size+1:=by omega
     show (((((w3.setCell ⟨w.heap.size+1,0,none⟩ (.int .i64 F.en)).setCell ⟨w.heap.size+1,1,none⟩ (.slice oa F.out.length oc)).setCell ⟨w.heap.size+1,2,none⟩ (.slice da F.data.length dc)).setCell ⟨w.heap.size+1,3,none⟩ (.int .i64 F.ticks)).heap)[k]? = _;rw [Below.heap_setCell _ _ _ k hn,Below.heap_setCell _ _ _ k hn,Below.heap_setCell _ _ _ k hn,Below.heap_setCell _ _ _ k hn]
   . have hn:k≠w.heap.size+1:=by omega
     show (((((w3.setCell ⟨w.heap.size+1,0,none⟩ (.int .i64 F.en)).setCell ⟨w.heap.size+1,1,none⟩ (.slice oa F.out.length oc)).setCell ⟨w.heap.size+1,2,none⟩ (.slice da F.data.length dc)).setCell ⟨w.heap.size+1,3,none⟩ (.int .i64 F.ticks)).heap)[k]? = _;rw [Below.heap_setCell _ _ _ k hn,Below.heap_setCell _ _ _ k hn,Below.heap_setCell _ _ _ k hn,Below.heap_setCell _ _ _ k hn]
   . have hb:=A8.out.trans (Af.out.mono (B':=w.heap.size) (by omega))
     exact ((((hb.setCell (p:=⟨w.heap.size+1,0,none⟩) (Nat.le_succ _) _).setCell (p:=⟨w.heap.size+1,1,none⟩) (Nat.le_succ _) _).setCell (p:=⟨w.heap.size+1,2,none⟩) (Nat.le_succ _) _).setCell (p:=⟨w.heap.size+1,3,none⟩) (Nat.le_succ _) _).drew
 . have HE:Hid (ansR code d inp ticks steps=⟨0,[],[],0,0,errR code d inp.length ticks steps⟩):=if_neg h0
   rw [HE.out];simp only [List.length_nil]
   have Di:(errR code d inp.length ticks steps != 0)=true:=by rw [bne_iff_ne];exact h0
   clear h0 hT hI Bo HE;generalize errR code d inp.length ticks steps=E at *;go_enter Tryz.func47,Tryz.ntmps47;go_wp2_with fail;refine (HC.out _ (HT.out.later (((Below.refl _ _).alloc (Nat.le_refl _) _).alloc (by simp) _))).mono ?_;rintro e w1 ⟨rfl,A5⟩;have A8:Hid (Below w.heap.size w w1):=(((Below.refl _ _).alloc (Nat.le_refl _) _).alloc (by simp) _).trans (A5.mono (by simp;omega))
   have Ao:w.heap.size+2<=w1.heap.size:=by have:=A5.size;simp at this;omega
   have hr:w1.heap[w.heap.size+1]? = some (.cells #[.int .i64 0,.slice none 0 0,.slice none 0 0,.int .i64 0] 51):=(A5.block (w.heap.size+1) (by simp)).trans (by have:=_root_.Go.heap_alloc_new (w.alloc (.cells #[.slice a code.length cap,.int .i64 d] 81)) (.cells #[.int .i64 0,.slice none 0 0,.slice none 0 0,.int .i64 0] 51);simpa using this);have HX:=hid hr
   have x0:w1.cell? ⟨w.heap.size+1,0,none⟩=some (.int .i64 0):=by rw [Lib.cell_of_heap HX.out];rfl
   have x1:w1.cell? ⟨w.heap.size+1,1,none⟩=some (.slice none 0 0):=by rw [Lib.cell_of_heap HX.out];rfl
   have x2:w1.cell? ⟨w.heap.size+1,2,none⟩=some (.slice none 0 0):=by rw [Lib.cell_of_heap HX.out];rfl
   have x3:w1.cell? ⟨w.heap.size+1,3,none⟩=some (.int .i64 0):=by rw [Lib.cell_of_heap HX.out];rfl
   have xf:∀ j,w1.frozen? ⟨w.heap.size+1,j,none⟩=false:=fun j=>Lib.frozen_of_heap HX.out j
   clear A5 hr HC;go_wp2_with fail;refine bodyPost_ret (v:=.tuple #[.agg #[.int .i64 0,.slice none 0 0,.slice none 0 0,.int .i64 0],.int .i64 0,.int .i64 E]) (by simp [results,Tryz.results47,go_sem,x0,x1,x2,x3]) rfl ⟨none,0,none,0,rfl,Or.inl rfl,Or.inl rfl,?_,Nat.le_refl _,Nat.zero_le _,Nat.zero_le _⟩;exact (((A8.out.setCell (p:=⟨w.heap.size+1,0,none⟩) (Nat.le_succ _) _).setCell (p:=⟨w.heap.size+1,1,none⟩) (Nat.le_succ _) _).setCell (p:=⟨w.heap.size+1,2,none⟩) (Nat.le_succ _) _).setCell (p:=⟨w.heap.size+1,3,none⟩) (Nat.le_succ _) _
end Mx
end Go.Proofs.YtndkhgakfodldaaGreatDoor
