/-
  Package scope: what Resolve answers.
-/
import Derived.Test.YtndkhgakfodldaaGreatDoorYa
import Derived.Test.YtndkhgakfodldaaGreatDoorUi
import Derived.Deep.RegionHeld
import Derived.Test.YtndkhgakfodldaaGreatDoorUn
import Derived.Test.YtndkhgakfodldaaGreatDoorNm
import Derived.Deep.QuietTactic
import Derived.BigQuiet
import Derived.Test.YtndkhgakfodldaaGreatDoorIa
namespace Go.Proofs.YtndkhgakfodldaaGreatDoor
set_option maxRecDepth 100000
set_option maxHeartbeats 8000000
open Go.RowKit Go.Maps Go.WideMaps
set_option linter.unusedSimpArgs false
def faceFits (p:Fc × ByteArray):Bool:=Fx.chkF p.1 == 0&&decide (p.1.name=p.2)
def resolveM (m:Mo) (l:List Fc):Except Int Un:=
 if chkM m≠0 then .error (chkM m) else if l.length≠m.uses.length then .error 8 else if (l.zip m.uses).all faceFits then unitM m l else .error 1
theorem zip_snoc {m:Mo} {l:List Fc} (hl:l.length=m.uses.length) (j:Nat) (h:j<l.length):((l.zip m.uses).take (j+1)).all faceFits=(((l.zip m.uses).take j).all faceFits&&faceFits (l[j],m.uses[j]'(by omega))):=by
 have hz:j<(l.zip m.uses).length:=by rw [List.length_zip];omega
 rw [List.take_succ_eq_append_getElem hz,List.all_append,List.getElem_zip];simp
theorem zip_not {m:Mo} {l:List Fc} (hl:l.length=m.uses.length) (j:Nat) (h:j<l.length) (hf:faceFits (l[j],m.uses[j]'(by omega))=false):(l.zip m.uses).all faceFits=false:=by
 have hz:j<(l.zip m.uses).length:=by rw [List.length_zip];omega
 rw [List.all_eq_false];exact ⟨(l.zip m.uses)[j],List.getElem_mem _,by rw [List.getElem_zip];simp [hf]⟩
theorem zip_items {m:Mo} {l:List Fc} (hl:l.length=m.uses.length) (h:(l.zip m.uses).all faceFits=true):∀ f ∈ l,f.items.length<=16:=by
 intro f hf;obtain ⟨j,hj,rfl⟩:=List.getElem_of_mem hf
 have hz:j<(l.zip m.uses).length:=by rw [List.length_zip];omega
 have:=List.all_eq_true.1 h _ (List.getElem_mem hz);rw [List.getElem_zip] at this;unfold faceFits at this;simp only [Bool.and_eq_true,beq_iff_eq] at this;have hc:=this.1;unfold Fx.chkF at hc
 by_cases h16:16<l[j].items.length
 . rw [if_pos h16] at hc;cases hc
 . omega
section
variable {P:Program} {ops:Array Oper} {Q:Exit->Act->World->Prop} {md:Region.Mode} {S:World->Prop} {o1:Op} {o2:TypeId} {o3:String} {o4:Array Edge} {o5:Option (Nat × Bool)} {v:Value} {fuel:Nat} {listed:Array Bool} {a:Act} {w:World}
theorem tq (i d:Nat) (hS:S w) (h:wpAnyH P md ops Q S fuel (listed.setIfInBounds i true) (a.put (some d) v) w) (hi:ops[i]? = some (Oper.mk (some d) o1 o2 o3 o4 o5):=by exact rfl)
 (hg:Region.wanted (Oper.mk (some d) o1 o2 o3 o4 o5) (yielded ops a.tmps)=true:=by rfl) (hy:∀ w,S w->(execOp a.eval (Oper.mk (some d) o1 o2 o3 o4 o5)).run P w = .ok (.value v) w:=by (intro w hSw;(try dsimp only at hSw);go_simp;(try with_reducible rfl)))
 (hb:(Region.noSelect ops&&(Region.free md ops listed i&&(Region.ready md ops listed).contains i))=true:=by kernel_rfl)
 (hQ:∀ c a w,Q (.panic c) (a.put (some d) v) w->Q (.panic c) a w:=by exact fun _ _ _ h=>h):wpAnyH P md ops Q S (fuel+1) listed a w:=by
 simp only [Bool.and_eq_true] at hb;exact wpAnyH_take hi hb.1 hb.2.1 hb.2.2 hQ (Or.inl ⟨hg,hy⟩) hS h
theorem tu (i d:Nat) (hS:S w) (h:wpAnyH P md ops Q S fuel (listed.setIfInBounds i true) (a.put (some d) undef) w) (hi:ops[i]? = some (Oper.mk (some d) o1 o2 o3 o4 o5):=by exact rfl)
 (hg:Region.wanted (Oper.mk (some d) o1 o2 o3 o4 o5) (yielded ops a.tmps)=false:=by rfl)
 (hb:(Region.noSelect ops&&(Region.free md ops listed i&&(Region.ready md ops listed).contains i))=true:=by kernel_rfl)
 (hQ:∀ c a w,Q (.panic c) (a.put (some d) undef) w->Q (.panic c) a w:=by exact fun _ _ _ h=>h):wpAnyH P md ops Q S (fuel+1) listed a w:=by
 simp only [Bool.and_eq_true] at hb;exact wpAnyH_take hi hb.1 hb.2.1 hb.2.2 hQ (Or.inr ⟨hg,rfl⟩) hS h
end
theorem toList_beq (a b:ByteArray):(a.toList == b.toList)=decide (a=b):=by
 rw [Bool.eq_iff_iff];simp only [beq_iff_eq,decide_eq_true_eq]
 constructor
 . intro h
   rw [Lib.toList_data,Lib.toList_data] at h;exact bytes_inj h
 . rintro rfl;rfl
theorem chk_one_two (f:Fc) (h:Fx.chkF f≠0):Fx.chkF f=1\/Fx.chkF f=2:=by
 unfold Fx.chkF at h ⊢;split
 . exact Or.inr rfl
 . rename_i h1
   rw [if_neg h1] at h;split
   . rename_i h2;rw [if_pos h2] at h;exact absurd rfl h
   . exact Or.inl rfl
theorem fits_cells {w W:World} {x0 x1 v1 z:Value} {t:TypeId} {b bu o:Nat} (hW:Below (w.alloc (.cells #[x0,x1] t)).heap.size (w.alloc (.cells #[x0,x1] t)) W) (h1:w.cell? ⟨b,1,none⟩=some v1) (hb:b<w.heap.size) (h2:w.cell? ⟨bu,o,none⟩=some z) (hbu:bu<w.heap.size) :
 W.cell? ⟨w.heap.size,0,none⟩=some x0/\W.cell? ⟨w.heap.size,1,none⟩=some x1/\W.cell? ⟨b,1,none⟩=some v1/\W.cell? ⟨bu,o,none⟩=some z:=by
 obtain ⟨k0,k1,_⟩:=cellsOf2 ((hW.block w.heap.size (by simp)).trans (heap_newP w _));exact ⟨k0,k1,(hW.cell (p:=⟨b,1,none⟩) (by show b<_;simp;omega)).trans (((al1 w _).cell (p:=⟨b,1,none⟩) hb).trans h1),(hW.cell (p:=⟨bu,o,none⟩) (by show bu<_;simp;omega)).trans (((al1 w _).cell (p:=⟨bu,o,none⟩) hbu).trans h2)⟩
theorem Resolve_any (m:Mo) (v:Value) (a1:Option Addr) (c1:Nat) (a2:Option Addr) (c2:Nat) (a3:Option Addr) (c3:Nat) (a4:Option Addr) (c4:Nat) (l:List Fc) (al:Option Addr) (cl:Nat) (w:World) (hM:MoAt w Tt m v a1 c1 a2 c2 a3 c3 a4 c4) (hF:DAt w Tt al l.length (fcsD l)) :
 Calls Tryz.prog 21 #[v,.slice al l.length cl] w fun e w'=>unitEnd w.heap.size (resolveM m l) e w'/\Below w.heap.size w w':=by
 obtain rfl:=hM.val;have HM:=hid hM;have HFs:=hid hF;have hbd:=hF.bound;have hbu:=hM.uses.bound;have HC:=hid (checkModule_any m _ a1 c1 a2 c2 a3 c3 a4 c4 ((w.alloc (.cells #[.string m.name,.slice a1 m.uses.length c1,.slice a2 m.decls.length c2,.slice a3 m.procs.length c3,.slice a4 m.main.length c4] 27)).alloc (.cells #[.string ⟨#[]⟩,.slice none 0 0,.int .i64 0,.slice none 0 0,.slice none 0 0] 42)) (hM.later (bl2 _ _ _)));clear hM hF
 obtain ⟨r,hr⟩:∃ r,r=resolveM m l:=⟨_,rfl⟩
 rw [← hr];have HR0:=hid hr;clear hr;go_enter Tryz.func21,Tryz.ntmps21;go_wp2_with fail;refine HC.out.mono ?_;rintro e w1 ⟨rfl,hb1⟩;have HB1:=hid (thenB (bl2 w _ _) hb1);have hz1:=hb1.size;simp at hz1;have P0:=hid ((hb1.block w.heap.size (by simp;omega)).trans (heap_old (heap_newP w _)));have P1:Hid (w1.heap[w.heap.size+1]? = some (.cells #[.string ⟨#[]⟩,.slice none 0 0,.int .i64 0,.slice none 0 0,.slice none 0 0] 42)):=(hb1.block (w.heap.size+1) (by simp)).trans (by simpa using heap_newP (w.alloc _) _);obtain ⟨x0,x1,x2,x3,x4,xf⟩:=cellsOf5 P0.out;obtain ⟨r0,r1,r2,r3,r4,rf⟩:=cellsOf5 P1.out;have hlx:=lt_of_heap P0.out;have hlr:=lt_of_heap P1.out;clear hb1 HC
 by_cases hc:chkM m=0
 case neg=>
  have HR:Hid (r = .error (chkM m)):=HR0.out.trans (if_pos hc);go_wp2_with fail;refine bodyPost_ret (v:=.tuple #[.agg #[.string ⟨#[]⟩,.slice none 0 0,.int .i64 0,.slice none 0 0,.slice none 0 0],.int .i64 (chkM m)]) (by simp [results,Tryz.results21,go_sem,r0,r1,r2,r3,r4,hlr]) rfl ⟨by rw [HR.out];exact ⟨rfl,hc⟩,?_⟩;exact bset5 HB1.out (by omega) _ _ _ _ _
 have HR1:Hid (r=if l.length≠m.uses.length then .error 8 else if (l.zip m.uses).all faceFits then unitM m l else .error 1):=HR0.out.trans (if_neg (by simp [hc]));have HZ:=hid hc;rw [hc];clear hc HR0
 by_cases hlen:l.length=m.uses.length
 case neg=>
  have HR:Hid (r = .error 8):=HR1.out.trans (if_pos hlen)
  have hne1:¬ ((l.length:Int)=m.uses.length):=by omega
  go_wp2_with fail;refine bodyPost_ret (v:=.tuple #[.agg #[.string ⟨#[]⟩,.slice none 0 0,.int .i64 0,.slice none 0 0,.slice none 0 0],.int .i64 8]) (by simp [results,Tryz.results21,go_sem,r0,r1,r2,r3,r4,hlr]) rfl ⟨by rw [HR.out];exact ⟨rfl,by decide⟩,?_⟩;exact bset5 HB1.out (by omega) _ _ _ _ _
 have HR2:Hid (r=if (l.zip m.uses).all faceFits then unitM m l else .error 1):=HR1.out.trans (if_neg (by simp [hlen]));have HLn:=hid hlen;have hu3:=(many_parts (chk_err HZ.out)).1
 have hlI:(l.length:Int)=(m.uses.length:Int):=by omega
 clear HR1 hlen;go_wp2_with fail;clear hlI
 go_loopw [7,8,24] (fun _ _ i wr=>∃ j:Nat,j<=l.length/\i = .int .i64 j/\((l.zip m.uses).take j).all faceFits=true/\Below w1.heap.size w1 wr) (fun _ _ i _=>l.length - (intOf i).toNat)
 case atStart=>exact ⟨0,Nat.zero_le _,rfl,rfl,Below.refl _ _⟩
 case round=>
  obtain ⟨j,hj,rfl,hall,hbr⟩:=hrel;have HAl:=hid hall;have HB:=hid hbr;have hzr:=hbr.size;have HBw:=hid (thenB HB1.out hbr);have R0:=hid ((hbr.block _ hlx).trans P0.out);have R1:=hid ((hbr.block _ hlr).trans P1.out);clear hall hbr x0 x1 x2 x3 x4 xf r0 r1 r2 r3 r4 rf;obtain ⟨x0,x1,x2,x3,x4,xf⟩:=cellsOf5 R0.out;obtain ⟨r0,r1,r2,r3,r4,rf⟩:=cellsOf5 R1.out;have hlx':=lt_of_heap R0.out;have hlr':=lt_of_heap R1.out
  by_cases hlt:j<l.length
  . have hju:j<m.uses.length:=by have:=HLn.out;omega
    obtain ⟨b,off,aj,cj,rfl,hbl,y0,y1,hnm,hdj⟩:=(HFs.out.later HBw.out).fc j hlt;obtain ⟨bu,ou,rfl,hblu,z0,hzm⟩:=(HM.out.uses.later HBw.out).str j hju;obtain ⟨HIj,HFj⟩:=items_atD hdj;have hbj:=hdj.bound;have HSn:=hid (zip_snoc HLn.out j hlt);have HNo:=hid (zip_not HLn.out j hlt)
    have hji:(j:Int)<m.uses.length:=by omega
    generalize l[j]=f at *;generalize m.uses[j]'hju=u at *;have HCf:=hid (fun W (hW:Below wr.heap.size wr W)=>Fx.scopeCheck_any f aj cj W (HIj.later hW) (by omega) hnm HFj);have HS:=hid (fun W (hW:Below (wr.alloc (.cells #[.string f.name,.slice aj f.items.length cj] 30)).heap.size (wr.alloc (.cells #[.string f.name,.slice aj f.items.length cj] 30)) W)=>(fits_cells hW x1 hlx' z0 hblu:W.cell? ⟨wr.heap.size,0,none⟩=some (.string f.name)/\W.cell? ⟨wr.heap.size,1,none⟩=some (.slice aj f.items.length cj)/\W.cell? ⟨w.heap.size,1,none⟩=some (.slice (some ⟨bu,ou,none⟩) m.uses.length c1)/\W.cell? ⟨bu,ou+j,none⟩=some (.string u)));have FF:=hid (HS.out _ (bdrew _));clear hdj HIj HFj
    by_cases hcf:Fx.chkF f=0
    . cases hsu:decide (f.name=u) with
      | true=>
        have HFf:Hid (faceFits (f,u)=true):=by show faceFits (f,u)=true;unfold faceFits;simp only [hcf,hsu];rfl
        have HSt:Hid (((l.zip m.uses).take (j+1)).all faceFits=true):=HSn.out.trans (by rw [HAl.out,HFf.out];rfl);rw [hcf] at HCf;have hst:(f.name.toList == u.toList)=true:=(toList_beq _ _).trans hsu;clear HSn HNo hcf;go_wp2_with fail
        go_region_held (fun W=>W.cell? ⟨wr.heap.size,0,none⟩=some (.string f.name)/\W.cell? ⟨wr.heap.size,1,none⟩=some (.slice aj f.items.length cj)/\W.cell? ⟨w.heap.size,1,none⟩=some (.slice (some ⟨bu,ou,none⟩) m.uses.length c1)/\W.cell? ⟨bu,ou+j,none⟩=some (.string u)) (exact FF.out)
         (first | (go_at_call 19;refine (HCf.out _ (bAdrew wr _)).mono ?_;rintro e w3 ⟨rfl,hb3⟩;have HB3:=hid (thenB (bdrew (wr.alloc (.cells #[.string f.name,.slice aj f.items.length cj] 30))) hb3);have FF:=hid (HS.out _ HB3.out);clear hb3))
        have HBf:=hid (thenB (thenB HBw.out (al1 wr (.cells #[.string f.name,.slice aj f.items.length cj] 30))) HB3.out);have hz3:=HB3.out.size;simp at hz3;have v1:=(HB3.out.block _ (by simp;omega)).trans (heap_old (o:=(.cells #[.string f.name,.slice aj f.items.length cj] 30)) R1.out);clear r0 r1 r2 r3 r4 rf;obtain ⟨r0,r1,r2,r3,r4,rf⟩:=cellsOf5 v1;have hlr3:=lt_of_heap v1;clear v1;go_wp2_with fail;go_roundw
        case rel=>exact ⟨j+1,by omega,by go_num,HSt.out,thenB (thenB HB.out (al1 wr _)) HB3.out⟩
        case measure=>simp [intOf];omega
      | false=>
        have HFf:Hid (faceFits (f,u)=false):=by show faceFits (f,u)=false;unfold faceFits;simp only [hsu,Bool.and_false]
        rw [hcf] at HCf;have hst:(f.name.toList == u.toList)=false:=(toList_beq _ _).trans hsu;clear HSn hcf;have HR:Hid (r = .error 1):=HR2.out.trans (if_neg (by rw [HNo.out HFf.out];decide));go_wp2_with fail
        go_region_held (fun W=>W.cell? ⟨wr.heap.size,0,none⟩=some (.string f.name)/\W.cell? ⟨wr.heap.size,1,none⟩=some (.slice aj f.items.length cj)/\W.cell? ⟨w.heap.size,1,none⟩=some (.slice (some ⟨bu,ou,none⟩) m.uses.length c1)/\W.cell? ⟨bu,ou+j,none⟩=some (.string u)) (exact FF.out)
         (first | (go_at_call 19;refine (HCf.out _ (bAdrew wr _)).mono ?_;rintro e w3 ⟨rfl,hb3⟩;have HB3:=hid (thenB (bdrew (wr.alloc (.cells #[.string f.name,.slice aj f.items.length cj] 30))) hb3);have FF:=hid (HS.out _ HB3.out);clear hb3))
        have HBf:=hid (thenB (thenB HBw.out (al1 wr (.cells #[.string f.name,.slice aj f.items.length cj] 30))) HB3.out);have hz3:=HB3.out.size;simp at hz3;have v1:=(HB3.out.block _ (by simp;omega)).trans (heap_old (o:=(.cells #[.string f.name,.slice aj f.items.length cj] 30)) R1.out);clear r0 r1 r2 r3 r4 rf;obtain ⟨r0,r1,r2,r3,r4,rf⟩:=cellsOf5 v1;have hlr3:=lt_of_heap v1;clear v1;go_wp2_with fail;refine bodyPost_ret (v:=.tuple #[.agg #[.string ⟨#[]⟩,.slice none 0 0,.int .i64 0,.slice none 0 0,.slice none 0 0],.int .i64 1]) (by simp [results,Tryz.results21,go_sem,r0,r1,r2,r3,r4,hlr3]) rfl ⟨by rw [HR.out];exact ⟨rfl,by decide⟩,?_⟩;exact bset5 HBf.out (by omega) _ _ _ _ _
    . have HFf:Hid (faceFits (f,u)=false):=by show faceFits (f,u)=false;unfold faceFits;simp only [beq_eq_false_iff_ne.2 hcf,Bool.false_and]
      clear HSn
      rcases chk_one_two f hcf with hc1 | hc2
      . rw [hc1] at HCf
        clear hcf hc1;have HR:Hid (r = .error 1):=HR2.out.trans (if_neg (by rw [HNo.out HFf.out];decide));go_wp2_with fail;refine wp_region_held_drew (S:=(fun W=>W.cell? ⟨wr.heap.size,0,none⟩=some (.string f.name)/\W.cell? ⟨wr.heap.size,1,none⟩=some (.slice aj f.items.length cj)/\W.cell? ⟨w.heap.size,1,none⟩=some (.slice (some ⟨bu,ou,none⟩) m.uses.length c1)/\W.cell? ⟨bu,ou+j,none⟩=some (.string u))) (by kernel_rfl) FF.out (fun hHeld=>?_);refine tq 0 29 hHeld ?_
        (try simp only [Act.put,List.setIfInBounds_toArray,List.set_cons_zero,List.set_cons_succ])
        refine wpAnyH_ready (rs:=[1]) (by kernel_rfl) (by simp) ?_;refine AllReadyH.cons rfl (fun K hK=>?_) AllReadyH.nil;go_simp
        go_wp2_with (go_at_call 19;refine (HCf.out _ (bAdrew wr _)).mono ?_;rintro e w3 ⟨rfl,hb3⟩)
        have HB3:=hid (thenB (bdrew (wr.alloc (.cells #[.string f.name,.slice aj f.items.length cj] 30))) hb3);clear hb3;refine hK.out _ _ (HS.out _ HB3.out) (fun hHeld=>?_);clear hK K;refine tq 2 31 hHeld ?_
        (try simp only [Act.put,List.setIfInBounds_toArray,List.set_cons_zero,List.set_cons_succ])
        refine tq 3 32 hHeld ?_
        (try simp only [Act.put,List.setIfInBounds_toArray,List.set_cons_zero,List.set_cons_succ])
        refine tu 4 33 hHeld ?_
        (try simp only [Act.put,List.setIfInBounds_toArray,List.set_cons_zero,List.set_cons_succ])
        refine tu 5 34 hHeld ?_
        (try simp only [Act.put,List.setIfInBounds_toArray,List.set_cons_zero,List.set_cons_succ])
        refine tu 6 35 hHeld ?_
        (try simp only [Act.put,List.setIfInBounds_toArray,List.set_cons_zero,List.set_cons_succ])
        refine tu 7 36 hHeld ?_
        (try simp only [Act.put,List.setIfInBounds_toArray,List.set_cons_zero,List.set_cons_succ])
        refine tu 8 37 hHeld ?_
        (try simp only [Act.put,List.setIfInBounds_toArray,List.set_cons_zero,List.set_cons_succ])
        refine tu 9 38 hHeld ?_
        (try simp only [Act.put,List.setIfInBounds_toArray,List.set_cons_zero,List.set_cons_succ])
        refine tu 10 39 hHeld ?_
        (try simp only [Act.put,List.setIfInBounds_toArray,List.set_cons_zero,List.set_cons_succ])
        refine tu 11 40 hHeld ?_
        (try simp only [Act.put,List.setIfInBounds_toArray,List.set_cons_zero,List.set_cons_succ])
        refine tq 12 41 hHeld ?_
        (try simp only [Act.put,List.setIfInBounds_toArray,List.set_cons_zero,List.set_cons_succ])
        refine wpAnyH_done (by kernel_rfl) ?_ _;have HBf:=hid (thenB (thenB HBw.out (al1 wr (.cells #[.string f.name,.slice aj f.items.length cj] 30))) HB3.out);have hz3:=HB3.out.size;simp at hz3;have v1:=(HB3.out.block _ (by simp;omega)).trans (heap_old (o:=(.cells #[.string f.name,.slice aj f.items.length cj] 30)) R1.out);clear r0 r1 r2 r3 r4 rf;obtain ⟨r0,r1,r2,r3,r4,rf⟩:=cellsOf5 v1;have hlr3:=lt_of_heap v1;clear v1;go_wp2_with fail;refine bodyPost_ret (v:=.tuple #[.agg #[.string ⟨#[]⟩,.slice none 0 0,.int .i64 0,.slice none 0 0,.slice none 0 0],.int .i64 1]) (by simp [results,Tryz.results21,go_sem,r0,r1,r2,r3,r4,hlr3]) rfl ⟨by rw [HR.out];exact ⟨rfl,by decide⟩,?_⟩;exact bset5 HBf.out (by omega) _ _ _ _ _
      . rw [hc2] at HCf
        clear hcf hc2;have HR:Hid (r = .error 1):=HR2.out.trans (if_neg (by rw [HNo.out HFf.out];decide));go_wp2_with fail;refine wp_region_held_drew (S:=(fun W=>W.cell? ⟨wr.heap.size,0,none⟩=some (.string f.name)/\W.cell? ⟨wr.heap.size,1,none⟩=some (.slice aj f.items.length cj)/\W.cell? ⟨w.heap.size,1,none⟩=some (.slice (some ⟨bu,ou,none⟩) m.uses.length c1)/\W.cell? ⟨bu,ou+j,none⟩=some (.string u))) (by kernel_rfl) FF.out (fun hHeld=>?_);refine tq 0 29 hHeld ?_
        (try simp only [Act.put,List.setIfInBounds_toArray,List.set_cons_zero,List.set_cons_succ])
        refine wpAnyH_ready (rs:=[1]) (by kernel_rfl) (by simp) ?_;refine AllReadyH.cons rfl (fun K hK=>?_) AllReadyH.nil;go_simp
        go_wp2_with (go_at_call 19;refine (HCf.out _ (bAdrew wr _)).mono ?_;rintro e w3 ⟨rfl,hb3⟩)
        have HB3:=hid (thenB (bdrew (wr.alloc (.cells #[.string f.name,.slice aj f.items.length cj] 30))) hb3);clear hb3;refine hK.out _ _ (HS.out _ HB3.out) (fun hHeld=>?_);clear hK K;refine tq 2 31 hHeld ?_
        (try simp only [Act.put,List.setIfInBounds_toArray,List.set_cons_zero,List.set_cons_succ])
        refine tq 3 32 hHeld ?_
        (try simp only [Act.put,List.setIfInBounds_toArray,List.set_cons_zero,List.set_cons_succ])
        refine tu 4 33 hHeld ?_
        (try simp only [Act.put,List.setIfInBounds_toArray,List.set_cons_zero,List.set_cons_succ])
        refine tu 5 34 hHeld ?_
        (try simp only [Act.put,List.setIfInBounds_toArray,List.set_cons_zero,List.set_cons_succ])
        refine tu 6 35 hHeld ?_
        (try simp only [Act.put,List.setIfInBounds_toArray,List.set_cons_zero,List.set_cons_succ])
        refine tu 7 36 hHeld ?_
        (try simp only [Act.put,List.setIfInBounds_toArray,List.set_cons_zero,List.set_cons_succ])
        refine tu 8 37 hHeld ?_
        (try simp only [Act.put,List.setIfInBounds_toArray,List.set_cons_zero,List.set_cons_succ])
        refine tu 9 38 hHeld ?_
        (try simp only [Act.put,List.setIfInBounds_toArray,List.set_cons_zero,List.set_cons_succ])
        refine tu 10 39 hHeld ?_
        (try simp only [Act.put,List.setIfInBounds_toArray,List.set_cons_zero,List.set_cons_succ])
        refine tu 11 40 hHeld ?_
        (try simp only [Act.put,List.setIfInBounds_toArray,List.set_cons_zero,List.set_cons_succ])
        refine tq 12 41 hHeld ?_
        (try simp only [Act.put,List.setIfInBounds_toArray,List.set_cons_zero,List.set_cons_succ])
        refine wpAnyH_done (by kernel_rfl) ?_ _;have HBf:=hid (thenB (thenB HBw.out (al1 wr (.cells #[.string f.name,.slice aj f.items.length cj] 30))) HB3.out);have hz3:=HB3.out.size;simp at hz3;have v1:=(HB3.out.block _ (by simp;omega)).trans (heap_old (o:=(.cells #[.string f.name,.slice aj f.items.length cj] 30)) R1.out);clear r0 r1 r2 r3 r4 rf;obtain ⟨r0,r1,r2,r3,r4,rf⟩:=cellsOf5 v1;have hlr3:=lt_of_heap v1;clear v1;go_wp2_with fail;refine bodyPost_ret (v:=.tuple #[.agg #[.string ⟨#[]⟩,.slice none 0 0,.int .i64 0,.slice none 0 0,.slice none 0 0],.int .i64 1]) (by simp [results,Tryz.results21,go_sem,r0,r1,r2,r3,r4,hlr3]) rfl ⟨by rw [HR.out];exact ⟨rfl,by decide⟩,?_⟩;exact bset5 HBf.out (by omega) _ _ _ _ _
  . obtain rfl:j=l.length:=by omega
    have hnl:¬ (l.length<m.uses.length):=by have:=HLn.out;omega
    have HAf:Hid ((l.zip m.uses).all faceFits=true):=by have:=HAl.out;rw [List.take_of_length_le (by rw [List.length_zip];omega)] at this;exact this
    have HR:Hid (r=unitM m l):=HR2.out.trans (if_pos HAf.out);have HC5:=hid (unit_any m _ a1 c1 a2 c2 a3 c3 a4 c4 l al cl wr (HM.out.later HBw.out) (chk_err HZ.out) (HFs.out.later HBw.out) (by have:=HLn.out;omega) (zip_items HLn.out HAf.out));go_wp2_with fail;refine HC5.out.mono ?_;rintro e w5 ⟨hend,hb5⟩;have HB5:=hid (thenB HBw.out hb5);have hz5:=hb5.size;have v1:=(hb5.block _ hlr').trans R1.out;clear r0 r1 r2 r3 r4 rf;obtain ⟨r0,r1,r2,r3,r4,rf⟩:=cellsOf5 v1;have hlr5:=lt_of_heap v1;clear hb5 v1 HC5
    cases hq:unitM m l with
    | error c=>
      rw [hq] at hend;obtain ⟨rfl,hne⟩:=hend;have HRe:Hid (r = .error c):=HR.out.trans hq;clear hq;go_wp2_with fail;refine bodyPost_ret (v:=.tuple #[.agg #[.string ⟨#[]⟩,.slice none 0 0,.int .i64 0,.slice none 0 0,.slice none 0 0],.int .i64 c]) (by simp [results,Tryz.results21,go_sem,r0,r1,r2,r3,r4,hlr5]) rfl ⟨by rw [HRe.out];exact ⟨rfl,hne⟩,?_⟩;exact bset5 HB5.out (by omega) _ _ _ _ _
    | ok q=>
      rw [hq] at hend;obtain ⟨g1,k1,g2,k2,g3,k3,rfl,he1,he2,he3⟩:=hend;have HRe:Hid (r = .ok q):=HR.out.trans hq
      have HMv:Hid (∀ v0 v1 v2 v3 v4,Moves w5 (wr.heap.size<=·) (set5 w5 (w.heap.size+1) v0 v1 v2 v3 v4) (w.heap.size<=·)):=fun v0 v1 v2 v3 v4=>
       ((Moves.refl w5 (wr.heap.size<=·)).set5 (b:=w.heap.size+1) (fun b _ hb=>by have:wr.heap.size<=b:=hb;omega) v0 v1 v2 v3 v4).trans ⟨Nat.le_refl _,fun b _ h=>⟨by have:wr.heap.size<=b:=h;show w.heap.size<=b;omega,rfl⟩⟩
      have HE1:=hid he1;have HE2:=hid he2;have HE3:=hid he3;clear hq he1 he2 he3;go_wp2_with fail;refine bodyPost_ret (v:=.tuple #[.agg #[.string q.name,.slice g1 q.uses.length k1,.int .i64 q.data,.slice g2 q.parts.length k2,.slice g3 q.main.length k3],.int .i64 0]) (by simp [results,Tryz.results21,go_sem,r0,r1,r2,r3,r4,hlr5]) rfl ⟨?_,?_⟩
      . rw [HRe.out]
        exact ⟨g1,k1,g2,k2,g3,k3,rfl,HE1.out.moves (HMv.out _ _ _ _ _),HE2.out.moves (HMv.out _ _ _ _ _),HE3.out.moves (HMv.out _ _ _ _ _)⟩
      . exact bset5 HB5.out (by omega) _ _ _ _ _
end Go.Proofs.YtndkhgakfodldaaGreatDoor

namespace Go.Proofs.YtndkhgakfodldaaGreatDoor
open Go.RowKit
set_option linter.unusedSimpArgs false
set_option linter.unusedVariables false
end Go.Proofs.YtndkhgakfodldaaGreatDoor

namespace Go.Proofs.YtndkhgakfodldaaGreatDoor
open Go.RowKit
set_option linter.unusedSimpArgs false
set_option linter.unusedVariables false
theorem wf_lit {n:Int} (h1 : -1000000000000000<=n) (h2:n<=1000000000000000):(Lit.int .i64 n).wf=true:=by
 simp only [Lit.wf,Bool.and_eq_true,decide_eq_true_eq];exact ⟨by show (-9223372036854775808:Int)<=n;omega,by show n<=(9223372036854775807:Int);omega⟩
end Go.Proofs.YtndkhgakfodldaaGreatDoor

namespace Go.Proofs.YtndkhgakfodldaaGreatDoor
set_option maxRecDepth 100000
set_option maxHeartbeats 800000
open Go.RowKit Go.Maps Go.WideMaps
set_option linter.unusedSimpArgs false
set_option linter.unusedVariables false
theorem dat_row {W:World} {base:Nat} {t:TypeId} {sz:Nat} {a:Option Addr} {n cap:Nat} {xs:List Value} {ds:List D} (h:W.ownsRow base t sz (.slice a n cap) n xs) (hx:DVals W Tt ds xs) (h1:n<=ds.length) (h2:ds.length<=17592186044416):DAt W Tt a n ds:=by
 refine ⟨h1,h2,?_⟩
 rcases h.2 with ⟨e,h0⟩ | ⟨g,cap',cur,e,_,hg,_⟩
 . exact Or.inl h0
 . cases e
   refine Or.inr ⟨g,0,xs,rfl,trivial,lt_of_heap hg,fun j u hj=>?_,hx⟩;have:=h.cells (g:=g) rfl j u hj;rw [show (⟨g,0,none⟩:Addr).add j=⟨g,j,none⟩ from by unfold Addr.add;split<;>simp_all] at this
   rw [Nat.zero_add];exact this
def fit15 (n:Int):Prop:=-1000000000000000<=n/\n<=1000000000000000
theorem dint15 {W:World} {n:Int} (h:fit15 n):DVal W Tt (.int n) (.int .i64 n):=dint (wf_lit h.1 h.2)
theorem gis_vals {W:World}:∀ (l:List Gi),(∀ i ∈ l,fit15 i.op/\fit15 i.a/\fit15 i.b)->DVals W Tt (gisD l) (gisV l)
 | [],_=>DVals.nil
 | i :: r,h=>by
   have h1:=h i (List.mem_cons_self ..);simp only [gisD,gisV,List.flatMap_cons];exact DVals.append (.cons (dint15 h1.1) (.cons (dint15 h1.2.1) (.cons (dint15 h1.2.2) .nil))) (gis_vals r (fun j hj=>h j (List.mem_cons_of_mem _ hj)))
theorem gfs_vals {W:World}:∀ (l:List Gf),(∀ i ∈ l,fit15 i.at_/\fit15 i.kind/\fit15 i.m)->DVals W Tt (gfsD l) (gfsV l)
 | [],_=>DVals.nil
 | i :: r,h=>by
   have h1:=h i (List.mem_cons_self ..);simp only [gfsD,gfsV,List.flatMap_cons];exact DVals.append (.cons (dint15 h1.1) (.cons (dint15 h1.2.1) (.cons (dint15 h1.2.2) .nil))) (gfs_vals r (fun j hj=>h j (List.mem_cons_of_mem _ hj)))
theorem ints_vals {W:World}:∀ (l:List Int),(∀ i ∈ l,fit15 i)->DVals W Tt (intD l) (intV l)
 | [],_=>DVals.nil
 | i :: r,h=>.cons (dint15 (h i (List.mem_cons_self ..))) (ints_vals r (fun j hj=>h j (List.mem_cons_of_mem _ hj)))
theorem strs_vals {W:World}:∀ (l:List ByteArray),(∀ s ∈ l,s.size<=maxLen)->DVals W Tt (strsD l) (strV l)
 | [],_=>DVals.nil
 | i :: r,h=>.cons (dstr (h i (List.mem_cons_self ..))) (strs_vals r (fun j hj=>h j (List.mem_cons_of_mem _ hj)))
theorem gisD_len (l:List Gi):(gisD l).length=l.length*3:=by
 induction l with
 | nil=>rfl
 | cons x r ih=>simp only [gisD,List.flatMap_cons,List.length_append,List.length_cons] at ih ⊢;rw [ih];simp [Gi.ds];omega
theorem gfsD_len (l:List Gf):(gfsD l).length=l.length*3:=by
 induction l with
 | nil=>rfl
 | cons x r ih=>simp only [gfsD,List.flatMap_cons,List.length_append,List.length_cons] at ih ⊢;rw [ih];simp [Gf.ds];omega
theorem up_len (N:Int):∀ (e:List Gf) (lo:Int),lo<=N->e.Pairwise (fun f g=>f.at_<g.at_)->(∀ f ∈ e,lo<=f.at_/\f.at_<N)->(e.length:Int)<=N - lo
 | [],lo,h,_,_=>by simp;omega
 | f :: r,lo,h,hp,hb=>by
   rw [List.pairwise_cons] at hp;have h1:=hb f (List.mem_cons_self ..);have:=up_len N r (f.at_+1) (by omega) hp.2 (fun g hg=>⟨by have:=hp.1 g hg;omega,(hb g (List.mem_cons_of_mem _ hg)).2⟩);rw [List.length_cons];omega
theorem genM_ok {u:Un} {o:Ob} (h:genM u = .ok o):o=genOb u/\holdB u numS prtS=true/\Go.Lib.containsS u.uses u.name=false/\fullW (genS u)=false:=by
 unfold genM at h
 split at h
 . cases h
 . rename_i h1
   split at h
   . cases h
   . rename_i h2
     cases h;simp only [Bool.not_eq_true,Bool.or_eq_false_iff] at h1;exact ⟨rfl,by simpa using h1.2,h1.1,by simpa using h2⟩
theorem gen_small {u:Un} (h:holdB u numS prtS=true):(∀ i ∈ (genS u).code,fit15 i.op/\fit15 i.a/\fit15 i.b)/\(∀ f ∈ (genS u).fixes,fit15 f.at_/\fit15 f.kind/\fit15 f.m)/\(∀ x ∈ entsW u.parts,fit15 x)/\fit15 ((partsW u.parts).code.length:Int)/\(genS u).fixes.length<=33000:=by
 obtain ⟨ha,_,hl,hs⟩:=gen_grow h;have hb:=genS_le h;have h3:=headB_uses (holdB_parts h).2.2;obtain ⟨e,he,hp,hr⟩:=ha.fx
 have he':(genS u).fixes=e:=by rw [he];rfl
 subst he';refine ⟨fun i hi=>?_,fun f hf=>?_,fun x hx=>?_,by unfold fit15;omega,?_⟩
 . obtain ⟨k,hk,rfl⟩:=List.getElem_of_mem hi
   have:=ha.ins k _ (Nat.zero_le _) (List.getElem?_eq_getElem hk);unfold inR at this;unfold fit15;omega
 . obtain ⟨k,i,hi,hk,_,hx⟩:=hr f hf
   have:=lt_some hi;unfold fit15
   rcases hx with ⟨h1,h2,_⟩ | ⟨h1,_,_,h4⟩<;>omega
 . rw [ents_starts,List.mem_map] at hx
   obtain ⟨b,hb',e⟩:=hx;have:=hs b hb';unfold fit15;omega
 . have:=up_len ((genS u).code.length:Int) (genS u).fixes 0 (by omega) hp (fun f hf=>by
    obtain ⟨k,i,hi,hk,_,_⟩:=hr f hf;have:=lt_some hi
    omega)
   omega
theorem own_cap {W:World} {base:Nat} {t:TypeId} {sz:Nat} {a:Option Addr} {n cap:Nat} {xs:List Value} (h:W.ownsRow base t sz (.slice a n cap) n xs):n<=cap:=by
 obtain ⟨_,_,e,h1,_⟩:=ownsRow_form h
 cases e
 exact h1
theorem gen_at {u:Un} {o:Ob} (hg:genM u = .ok o) {x1:Option Addr} {y1:Nat} {x2:Option Addr} {y2:Nat} {x3:Option Addr} {y3:Nat} {w:World} (hU:UvAt w u x1 y1 x2 y2 x3 y3) :
 Calls Tryz.prog 31 #[.agg #[.string u.name,.slice x1 u.uses.length y1,.int .i64 u.data,.slice x2 u.parts.length y2,.slice x3 u.main.length y3]] w fun e w'=>∃ x1 y1 x3 y3 x4 y4 x5 y5,e = .returned (.tuple #[.agg #[.string o.name,.slice x1 o.uses.length y1,.int .i64 o.data,.slice x3 o.code.length y3,.slice x4 o.fixes.length y4,.slice x5 o.entries.length y5,.int .i64 o.main],.int .i64 0])/\OvAt w' o x1 x3 x4 x5/\o.uses.length<=y1/\Below w.heap.size w w':=
 (Gen_any u x1 y1 x2 y2 x3 y3 w hU).mono fun e w' ⟨h,hb⟩=>by
   obtain ⟨rfl,hh,hc,hf⟩:=genM_ok hg;unfold GenEnd at h;rw [hg] at h;obtain ⟨ua,uc,ca,cc,fa,fc,ea,ec,he,h1,h2,h3,h4⟩:=h;obtain ⟨s1,s2,s3,s4,s5⟩:=gen_small hh;have hd:=headB_data (holdB_parts hh).2.2;have hu:=headB_uses (holdB_parts hh).2.2;have h6:=headB_six (holdB_parts hh).2.2;have hel:(genOb u).entries.length=u.parts.length:=entsTo_len ..;have hcl:=genS_le hh;refine ⟨ua,uc,ca,cc,fa,fc,ea,ec,he,⟨hU.wn,?_,wf_lit (by show _<=u.data;omega) (by show u.data<=_;omega),?_,?_,?_,wf_lit s4.1 s4.2⟩,own_cap h1,hb⟩
   . exact dat_row h1 (strs_vals _ (strs_at hU.uses).2) (by simp [strsD]) (by show (strsD u.uses).length<=_;simp [strsD];omega)
   . exact dat_row h2 (gis_vals _ s1) (by rw [gisD_len];omega) (by rw [gisD_len];show (genS u).code.length*3<=_;omega)
   . exact dat_row h3 (gfs_vals _ s2) (by rw [gfsD_len];omega) (by rw [gfsD_len];show (genS u).fixes.length*3<=_;omega)
   . exact dat_row h4 (ints_vals _ s3) (by simp [intD]) (by rw [show (intD (genOb u).entries).length=(genOb u).entries.length from by simp [intD],hel];omega)
theorem DAt.drw {A:Nat->Prop} {w:World} {n:Nat} {a:Option Addr} {ds:List D} (h:DAt w A a n ds) (k:Nat):DAt (w.drewN k) A a n ds:=h.moves ⟨by simp,fun b _ hb=>⟨hb,by simp⟩⟩
theorem SameInts_same (a b:Option Addr) (c1 c2:Nat) (l:List Int) (w:World) (ha:DAt w Tt a l.length (intD l)) (hb:DAt w Tt b l.length (intD l)) :
 Calls Tryz.prog 28 #[.slice a l.length c1,.slice b l.length c2] w fun e w'=>e = .returned (.bool true)/\∃ m,w'=w.drewN m:=by
 have hbd:=ha.bound;have HA:=hid ha;have HB:=hid hb;clear ha hb;go_enter Tryz.func28,Tryz.ntmps28;go_wp2_with fail
 go_loopw [5] (fun i wr=>∃ k m:Nat,k<=l.length/\i = .int .i64 k/\wr=w.drewN m) (fun i _=>l.length - (intOf i).toNat)
 case atStart=>exact ⟨0,0,Nat.zero_le _,rfl,rfl⟩
 case round=>
  obtain ⟨k,m,hk,rfl,rfl⟩:=hrel
  by_cases hlt:k<l.length
  . obtain ⟨b1,o1,rfl,hl1,hc0,_⟩:=(DAt.num (l:=l) (HA.out.drw m)) k hlt
    obtain ⟨b2,o2,rfl,hl2,hd0,_⟩:=(DAt.num (l:=l) (HB.out.drw m)) k hlt;have hc:=hid hc0;generalize l[k]=lk at *;generalize hW:w.drewN m=W at *;have HW:=hid hW;clear hW;go_wp2_with fail
    go_quiet ((fail))
    go_wp2_with fail;go_roundw
    case rel=>exact ⟨k+1,m+nq,by omega,by go_num,by rw [← HW.out,World.drewN_drewN]⟩
    case measure=>simp [intOf];omega
  . go_wp2_with fail
    go_ret;exact ⟨rfl,m,rfl⟩
end Go.Proofs.YtndkhgakfodldaaGreatDoor

namespace Go.Proofs.YtndkhgakfodldaaGreatDoor
set_option maxRecDepth 100000
set_option maxHeartbeats 1600000
open Go.RowKit Go.Shelf
set_option linter.unusedSimpArgs false
set_option linter.unusedVariables false
def listB {α:Type} (g:α->List UInt8) (l:List α):List UInt8:=Fx.numB l.length++l.flatMap g
theorem moves_below {B:Nat} {w w':World} (h:Below B w w') (hB:B<=w.heap.size):Moves w (·<B) w' (·<B):=⟨h.size,fun b _ hb=>⟨hb,h.block b hb⟩⟩
theorem flat_take {α:Type} (g:α->List UInt8) (l:List α) (j:Nat) (h:j<l.length):(l.take (j+1)).flatMap g=(l.take j).flatMap g++g l[j]:=by
 rw [List.take_succ_eq_append_getElem h,List.flatMap_append];simp
theorem flat_le {α:Type} (g:α->List UInt8) (c:Nat):∀ (l:List α),(∀ x ∈ l,(g x).length<=c)->(l.flatMap g).length<=c*l.length
 | [],_=>by simp
 | x :: r,h=>by
   have h1:=h x (List.mem_cons_self ..);have h2:=flat_le g c r (fun y hy=>h y (List.mem_cons_of_mem _ hy));rw [List.flatMap_cons,List.length_append,List.length_cons,Nat.mul_succ];omega
theorem numB_eight (n:Int):(Fx.numB n).length=8:=rfl
theorem textB_le {s:ByteArray} (h:s.size<=255):(Fx.textB s).length<=256:=by
 unfold Fx.textB;rw [List.length_cons,Lx.len_toList];omega
theorem textB_len (s:ByteArray):(Fx.textB s).length=s.size+1:=by unfold Fx.textB;rw [List.length_cons,Lx.len_toList]
theorem listB_le {α:Type} (g:α->List UInt8) (c:Nat) (l:List α) (h:∀ x ∈ l,(g x).length<=c):(listB g l).length<=8+c*l.length:=by
 unfold listB;rw [List.length_append,numB_eight];have:=flat_le g c l h;omega
theorem instrB_len (i:Gi):(instrB i).length=17:=rfl
theorem fixBy_len (i:Gf):(fixBy i).length=17:=rfl
theorem appendTexts_any (B:Nat) (v:Value) (l:List UInt8) (xs:List ByteArray) (a:Option Addr) (cap:Nat) (w:World) (h:Fx.Row B w v l) (hB:B<=w.heap.size) (hD:DAt w (·<B) a xs.length (strsD xs)) (hl:l.length+8+256*xs.length<=800000) (hs:∀ s ∈ xs,s.size<=255) :
 Calls Tryz.prog 87 #[v,.slice a xs.length cap,.func (.func 86) #[] #[]] w fun e w'=>∃ v',e = .returned v'/\(Fx.Row B w' v' (l++listB Fx.textB xs)/\Below B w w'):=by
 have hbd:=hD.bound;have HD:=hid hD
 have HG:Hid (∀ j,((xs.take j).flatMap Fx.textB).length<=256*xs.length):=fun j=>Nat.le_trans (flat_le Fx.textB 256 (xs.take j) (fun x hx=>textB_le (hs x (List.mem_of_mem_take hx)))) (Nat.mul_le_mul_left _ (by rw [List.length_take];omega))
 have HN:=hid (num_ret (xs.length:Int) h hB (by omega));clear h hD;go_enter Tryz.func87,Tryz.ntmps87;go_wp2_with fail;refine HN.out.mono ?_;rintro e w1 ⟨u1,rfl,h1,b1,_⟩;have H1:=hid h1;have B1:=hid b1;have hz1:=b1.size;clear h1 b1;go_wp2_with fail
 go_loopw [0,15] (fun u i wr=>∃ j:Nat,j<=xs.length/\i = .int .i64 j/\Fx.Row B wr u (l++(Fx.numB xs.length++(xs.take j).flatMap Fx.textB))/\Below B w wr) (fun _ i _=>xs.length - (intOf i).toNat)
 case atStart=>exact ⟨0,Nat.zero_le _,rfl,by rw [List.take_zero,List.flatMap_nil,List.append_nil];exact H1.out,B1.out⟩
 case round=>
  obtain ⟨j,hj,rfl,hr,hb⟩:=hrel;have HR:=hid hr;have HB:=hid hb;have hzr:=hb.size
  have HL:Hid ((l++(Fx.numB xs.length++(xs.take j).flatMap Fx.textB)).length<=800000):=by
   have:=HG.out j;show _<=_;rw [List.length_append,List.length_append,numB_eight];omega
  clear hr hb
  by_cases hlt:j<xs.length
  . obtain ⟨b,off,rfl,hbl,c0,hsz⟩:=(HD.out.moves (moves_below HB.out hB)).str j hlt
    have HS:Hid (l++(Fx.numB xs.length++(xs.take (j+1)).flatMap Fx.textB)=(l++(Fx.numB xs.length++(xs.take j).flatMap Fx.textB))++Fx.textB xs[j]):=by show _=_;rw [flat_take Fx.textB xs j hlt];simp only [List.append_assoc]
    have hx255:=hs xs[j] (List.getElem_mem hlt);generalize (l++(Fx.numB xs.length++(xs.take j).flatMap Fx.textB))=lj at *;generalize xs[j]=x at *;go_wp2_with fail;refine (text_ret x HR.out (by omega) (by have:=HL.out;omega) (by omega)).mono ?_;rintro e w2 ⟨u2,rfl,h2,b2⟩;have H2:=hid h2;have B2:=hid (HB.out.trans b2);clear h2 b2;go_wp2_with fail;go_roundw
    case rel=>exact ⟨j+1,by omega,by go_num,by rw [HS.out];exact H2.out,B2.out⟩
    case measure=>simp [intOf];omega
  . obtain rfl:j=xs.length:=by omega
    go_wp2_with fail
    go_returns
    refine ⟨_,rfl,?_,HB.out⟩;have:=HR.out;rw [List.take_length] at this;exact this
theorem appendInstrs_any (B:Nat) (v:Value) (l:List UInt8) (xs:List Gi) (a:Option Addr) (cap:Nat) (w:World) (h:Fx.Row B w v l) (hB:B<=w.heap.size) (hD:DAt w (·<B) a xs.length (gisD xs)) (hl:l.length+8+17*xs.length<=800000) :
 Calls Tryz.prog 89 #[v,.slice a xs.length cap,.func (.func 90) #[] #[]] w fun e w'=>∃ v',e = .returned v'/\(Fx.Row B w' v' (l++listB instrB xs)/\Below B w w'):=by
 have hbd:=hD.bound;have HD:=hid hD
 have HG:Hid (∀ j,((xs.take j).flatMap instrB).length<=17*xs.length):=fun j=>Nat.le_trans (flat_le instrB 17 (xs.take j) (fun x hx=>Nat.le_of_eq (instrB_len x))) (Nat.mul_le_mul_left _ (by rw [List.length_take];omega))
 have HN:=hid (num_ret (xs.length:Int) h hB (by omega));clear h hD;go_enter Tryz.func89,Tryz.ntmps89;go_wp2_with fail;refine HN.out.mono ?_;rintro e w1 ⟨u1,rfl,h1,b1,_⟩;have H1:=hid h1;have B1:=hid b1;have hz1:=b1.size;clear h1 b1;go_wp2_with fail
 go_loopw [0,15] (fun u i wr=>∃ j:Nat,j<=xs.length/\i = .int .i64 j/\Fx.Row B wr u (l++(Fx.numB xs.length++(xs.take j).flatMap instrB))/\Below B w wr) (fun _ i _=>xs.length - (intOf i).toNat)
 case atStart=>exact ⟨0,Nat.zero_le _,rfl,by rw [List.take_zero,List.flatMap_nil,List.append_nil];exact H1.out,B1.out⟩
 case round=>
  obtain ⟨j,hj,rfl,hr,hb⟩:=hrel;have HR:=hid hr;have HB:=hid hb;have hzr:=hb.size
  have HL:Hid ((l++(Fx.numB xs.length++(xs.take j).flatMap instrB)).length<=800000):=by
   have:=HG.out j;show _<=_;rw [List.length_append,List.length_append,numB_eight];omega
  clear hr hb
  by_cases hlt:j<xs.length
  . obtain ⟨b,off,rfl,hbl,c0,c1,c2,_,_,_⟩:=(HD.out.moves (moves_below HB.out hB)).gi j hlt
    have HS:Hid (l++(Fx.numB xs.length++(xs.take (j+1)).flatMap instrB)=(l++(Fx.numB xs.length++(xs.take j).flatMap instrB))++instrB xs[j]):=by show _=_;rw [flat_take instrB xs j hlt];simp only [List.append_assoc]
    skip
    generalize (l++(Fx.numB xs.length++(xs.take j).flatMap instrB))=lj at *;generalize xs[j]=x at *;go_wp2_with fail;refine (appendInstr_any B _ _ x _ (HR.out.later (al1 _ _)) (by simp;omega) (by have:=HL.out;omega)).mono ?_;rintro e w2 ⟨u2,rfl,h2,b2⟩;have H2:=hid h2;have B2:=hid (HB.out.trans (((al1 _ _).mono (by omega)).trans b2));clear h2 b2;go_wp2_with fail;go_roundw
    case rel=>exact ⟨j+1,by omega,by go_num,by rw [HS.out];exact H2.out,B2.out⟩
    case measure=>simp [intOf];omega
  . obtain rfl:j=xs.length:=by omega
    go_wp2_with fail
    go_returns
    refine ⟨_,rfl,?_,HB.out⟩;have:=HR.out;rw [List.take_length] at this;exact this
theorem appendFixes_any (B:Nat) (v:Value) (l:List UInt8) (xs:List Gf) (a:Option Addr) (cap:Nat) (w:World) (h:Fx.Row B w v l) (hB:B<=w.heap.size) (hD:DAt w (·<B) a xs.length (gfsD xs)) (hl:l.length+8+17*xs.length<=800000) :
 Calls Tryz.prog 91 #[v,.slice a xs.length cap,.func (.func 92) #[] #[]] w fun e w'=>∃ v',e = .returned v'/\(Fx.Row B w' v' (l++listB fixBy xs)/\Below B w w'):=by
 have hbd:=hD.bound;have HD:=hid hD
 have HG:Hid (∀ j,((xs.take j).flatMap fixBy).length<=17*xs.length):=fun j=>Nat.le_trans (flat_le fixBy 17 (xs.take j) (fun x hx=>Nat.le_of_eq (fixBy_len x))) (Nat.mul_le_mul_left _ (by rw [List.length_take];omega))
 have HN:=hid (num_ret (xs.length:Int) h hB (by omega));clear h hD;go_enter Tryz.func91,Tryz.ntmps91;go_wp2_with fail;refine HN.out.mono ?_;rintro e w1 ⟨u1,rfl,h1,b1,_⟩;have H1:=hid h1;have B1:=hid b1;have hz1:=b1.size;clear h1 b1;go_wp2_with fail
 go_loopw [0,15] (fun u i wr=>∃ j:Nat,j<=xs.length/\i = .int .i64 j/\Fx.Row B wr u (l++(Fx.numB xs.length++(xs.take j).flatMap fixBy))/\Below B w wr) (fun _ i _=>xs.length - (intOf i).toNat)
 case atStart=>exact ⟨0,Nat.zero_le _,rfl,by rw [List.take_zero,List.flatMap_nil,List.append_nil];exact H1.out,B1.out⟩
 case round=>
  obtain ⟨j,hj,rfl,hr,hb⟩:=hrel;have HR:=hid hr;have HB:=hid hb;have hzr:=hb.size
  have HL:Hid ((l++(Fx.numB xs.length++(xs.take j).flatMap fixBy)).length<=800000):=by
   have:=HG.out j;show _<=_;rw [List.length_append,List.length_append,numB_eight];omega
  clear hr hb
  by_cases hlt:j<xs.length
  . obtain ⟨b,off,rfl,hbl,c0,c1,c2,_,_,_⟩:=(HD.out.moves (moves_below HB.out hB)).gf j hlt
    have HS:Hid (l++(Fx.numB xs.length++(xs.take (j+1)).flatMap fixBy)=(l++(Fx.numB xs.length++(xs.take j).flatMap fixBy))++fixBy xs[j]):=by show _=_;rw [flat_take fixBy xs j hlt];simp only [List.append_assoc]
    skip
    generalize (l++(Fx.numB xs.length++(xs.take j).flatMap fixBy))=lj at *;generalize xs[j]=x at *;go_wp2_with fail;refine (appendFix_any B _ _ x _ (HR.out.later (al1 _ _)) (by simp;omega) (by have:=HL.out;omega)).mono ?_;rintro e w2 ⟨u2,rfl,h2,b2⟩;have H2:=hid h2;have B2:=hid (HB.out.trans (((al1 _ _).mono (by omega)).trans b2));clear h2 b2;go_wp2_with fail;go_roundw
    case rel=>exact ⟨j+1,by omega,by go_num,by rw [HS.out];exact H2.out,B2.out⟩
    case measure=>simp [intOf];omega
  . obtain rfl:j=xs.length:=by omega
    go_wp2_with fail
    go_returns
    refine ⟨_,rfl,?_,HB.out⟩;have:=HR.out;rw [List.take_length] at this;exact this
theorem appendNums_any (B:Nat) (v:Value) (l:List UInt8) (xs:List Int) (a:Option Addr) (cap:Nat) (w:World) (h:Fx.Row B w v l) (hB:B<=w.heap.size) (hD:DAt w (·<B) a xs.length (intD xs)) (hl:l.length+8+8*xs.length<=800000) :
 Calls Tryz.prog 93 #[v,.slice a xs.length cap,.func (.func 88) #[] #[]] w fun e w'=>∃ v',e = .returned v'/\(Fx.Row B w' v' (l++listB Fx.numB xs)/\Below B w w'):=by
 have hbd:=hD.bound;have HD:=hid hD
 have HG:Hid (∀ j,((xs.take j).flatMap Fx.numB).length<=8*xs.length):=fun j=>Nat.le_trans (flat_le Fx.numB 8 (xs.take j) (fun x hx=>Nat.le_of_eq (numB_eight x))) (Nat.mul_le_mul_left _ (by rw [List.length_take];omega))
 have HN:=hid (num_ret (xs.length:Int) h hB (by omega));clear h hD;go_enter Tryz.func93,Tryz.ntmps93;go_wp2_with fail;refine HN.out.mono ?_;rintro e w1 ⟨u1,rfl,h1,b1,_⟩;have H1:=hid h1;have B1:=hid b1;have hz1:=b1.size;clear h1 b1;go_wp2_with fail
 go_loopw [0,15] (fun u i wr=>∃ j:Nat,j<=xs.length/\i = .int .i64 j/\Fx.Row B wr u (l++(Fx.numB xs.length++(xs.take j).flatMap Fx.numB))/\Below B w wr) (fun _ i _=>xs.length - (intOf i).toNat)
 case atStart=>exact ⟨0,Nat.zero_le _,rfl,by rw [List.take_zero,List.flatMap_nil,List.append_nil];exact H1.out,B1.out⟩
 case round=>
  obtain ⟨j,hj,rfl,hr,hb⟩:=hrel;have HR:=hid hr;have HB:=hid hb;have hzr:=hb.size
  have HL:Hid ((l++(Fx.numB xs.length++(xs.take j).flatMap Fx.numB)).length<=800000):=by
   have:=HG.out j;show _<=_;rw [List.length_append,List.length_append,numB_eight];omega
  clear hr hb
  by_cases hlt:j<xs.length
  . obtain ⟨b,off,rfl,hbl,c0,_⟩:=(HD.out.moves (moves_below HB.out hB)).num j hlt
    have HS:Hid (l++(Fx.numB xs.length++(xs.take (j+1)).flatMap Fx.numB)=(l++(Fx.numB xs.length++(xs.take j).flatMap Fx.numB))++Fx.numB xs[j]):=by show _=_;rw [flat_take Fx.numB xs j hlt];simp only [List.append_assoc]
    skip
    generalize (l++(Fx.numB xs.length++(xs.take j).flatMap Fx.numB))=lj at *;generalize xs[j]=x at *;go_wp2_with fail;refine (num_ret x HR.out (by omega) (by have:=HL.out;omega)).mono ?_;rintro e w2 ⟨u2,rfl,h2,b2,_⟩;have H2:=hid h2;have B2:=hid (HB.out.trans b2);clear h2 b2;go_wp2_with fail;go_roundw
    case rel=>exact ⟨j+1,by omega,by go_num,by rw [HS.out];exact H2.out,B2.out⟩
    case measure=>simp [intOf];omega
  . obtain rfl:j=xs.length:=by omega
    go_wp2_with fail
    go_returns
    refine ⟨_,rfl,?_,HB.out⟩;have:=HR.out;rw [List.take_length] at this;exact this
end Go.Proofs.YtndkhgakfodldaaGreatDoor

namespace Go.Proofs.YtndkhgakfodldaaGreatDoor
set_option maxRecDepth 100000
set_option maxHeartbeats 3200000
open Go.RowKit Go.Maps Go.WideMaps
set_option linter.unusedSimpArgs false
set_option linter.unusedVariables false
theorem namesB_eq (o:Ob):namesB o=(Lx.nameB o.name.data.toList&&allTo o.uses.length (useAt o)):=rfl
theorem DVals.take {w:World} {lo:Nat->Prop}:∀ {l:List D} {cs:List Value},DVals w lo l cs->∀ j,DVals w lo (l.take j) (cs.take j)
 | [],cs,h,j=>by unfold DVals at h;subst h;simp only [List.take_nil];exact DVals.nil
 | d :: ds,cs,h,0=>by simp only [List.take_zero];exact DVals.nil
 | d :: ds,cs,h,j+1=>by
   unfold DVals at h;obtain ⟨v,r,rfl,h1,h2⟩:=h;exact DVals.cons h1 (DVals.take h2 j)
theorem strs_take {w:World} {A:Nat->Prop} {a:Option Addr} {l:List ByteArray} (h:DAt w A a l.length (strsD l)) (j:Nat):DAt w A a (l.take j).length (strsD (l.take j)):=by
 obtain ⟨h1,h2,h3⟩:=h
 have e:strsD (l.take j)=(strsD l).take j:=by simp [strsD,List.map_take]
 have hn:(strsD l).length=l.length:=by simp [strsD]
 refine ⟨by rw [e,List.length_take,List.length_take,hn];exact Nat.le_refl _,by rw [e,List.length_take];omega,?_⟩
 rcases h3 with h4 | ⟨b,off,cs,ha,hl,hb,hc,hx⟩
 . exact Or.inl (by rw [List.length_take];omega)
 . exact Or.inr ⟨b,off,cs.take j,ha,hl,hb,fun k u hk=>hc k u (by rw [List.getElem?_take] at hk;split at hk;exact hk;cases hk),by rw [e];exact hx.take j⟩
theorem namesHold_any (o:Ob) (x1:Option Addr) (y1:Nat) (x3:Option Addr) (y3:Nat) (x4:Option Addr) (y4:Nat) (x5:Option Addr) (y5:Nat) (w:World) (hO:OvAt w o x1 x3 x4 x5) (h3:o.uses.length<=3) (hcp:o.uses.length<=y1) :
 Calls Tryz.prog 82 #[.agg #[.string o.name,.slice x1 o.uses.length y1,.int .i64 o.data,.slice x3 o.code.length y3,.slice x4 o.fixes.length y4,.slice x5 o.entries.length y5,.int .i64 o.main]] w fun e w'=>e = .returned (.bool (namesB o))/\Below w.heap.size w w':=by
 have HO:=hid hO;have HN:=hid (oName_any o.name (w.alloc (.cells #[.string o.name,.slice x1 o.uses.length y1,.int .i64 o.data,.slice x3 o.code.length y3,.slice x4 o.fixes.length y4,.slice x5 o.entries.length y5,.int .i64 o.main] 62)) hO.wn);clear hO;go_enter Tryz.func82,Tryz.ntmps82;go_wp2_with fail;refine HN.out.mono ?_;rintro e w1 ⟨rfl,hb1⟩;have HB1:=hid (thenB (al1 w _) hb1);have HX1:=hid ((hb1.block _ (by simp)).trans (heap_newP w (.cells #[.string o.name,.slice x1 o.uses.length y1,.int .i64 o.data,.slice x3 o.code.length y3,.slice x4 o.fixes.length y4,.slice x5 o.entries.length y5,.int .i64 o.main] 62)));clear hb1
 cases hn:Lx.nameB o.name.data.toList with
 | false=>
   have HR:Hid (namesB o=false):=by show _=_;rw [namesB_eq,hn];rfl
   go_wp2_with fail;go_ret;exact ⟨ret_bool (by first | exact HR.out.symm | (rw [HR.out]<;>first | (simp;omega) | (simp [*];done))),HB1.out⟩
 | true=>
 have HC:Hid (namesB o=allTo o.uses.length (useAt o)):=by show _=_;rw [namesB_eq,hn];rfl
 clear hn;obtain ⟨q0,q1,q2,q3,q4,q5,q6,_⟩:=cells7 HX1.out;have qz:=lt_of_heap HX1.out;go_wp2_with fail
 go_loopw [12] (fun i wr=>∃ j:Nat,j<=o.uses.length/\i = .int .i64 j/\(∀ k,k<j->useAt o k=true)/\Below w.heap.size w wr/\wr.heap[w.heap.size]? = some (.cells #[.string o.name,.slice x1 o.uses.length y1,.int .i64 o.data,.slice x3 o.code.length y3,.slice x4 o.fixes.length y4,.slice x5 o.entries.length y5,.int .i64 o.main] 62)) (fun i _=>o.uses.length - (intOf i).toNat)
 case atStart=>exact ⟨0,Nat.zero_le _,rfl,fun k hk=>absurd hk (Nat.not_lt_zero k),HB1.out,HX1.out⟩
 case round=>
  clear q0 q1 q2 q3 q4 q5 q6 qz;obtain ⟨j,hj,rfl,hall,hb,hB⟩:=hrel;obtain ⟨q0,q1,q2,q3,q4,q5,q6,_⟩:=cells7 hB;have qz:=lt_of_heap hB;have HB:=hid hb;have HX:=hid hB;have HL:=hid hall;clear hall hB hb
  by_cases hlt:j<o.uses.length
  . obtain ⟨b,off,rfl,hbl,p0,hw⟩:=(HO.out.later HB.out).uses.str j hlt
    have HE:Hid (useAt o j=(Lx.nameB o.uses[j].data.toList&&(!decide (o.uses[j]=o.name) && !Go.Lib.containsS (o.uses.take j) o.uses[j]))):=by show _=_;unfold useAt;rw [List.getElem?_eq_getElem hlt]
    have HF:=hid (fun (h:useAt o j=false)=>(by rw [HC.out,allTo_false hlt h]:namesB o=false));have HT:=hid (fun (h:useAt o j=true)=>upto_succ HL.out (h));have HU:=hid (fun (W:World) (hW:Below wr.heap.size wr W) (y:Nat)=>(by have h:=containsU_any (o.uses.take j) o.uses[j] (some ⟨b,off,none⟩) y W (strs_take ((HO.out.later HB.out).later hW).uses j);rw [List.length_take,Nat.min_eq_left hj] at h;exact h:Calls Tryz.prog 76 #[.slice (some ⟨b,off,none⟩) j y,.string o.uses[j]] W fun e w'=>e = .returned (.bool (Go.Lib.containsS (o.uses.take j) o.uses[j]))/\w'=W))
    have hjc:j<=y1:=by omega
    generalize o.uses[j]=x at *;go_wp2_with fail;refine (oName_any x _ hw).mono ?_;rintro e w1 ⟨rfl,hb1⟩;have HB1:=hid (thenB HB.out hb1);have HX1:=hid ((hb1.block _ qz).trans HX.out);have HV:=hid (HU.out w1 hb1);clear q0 q1 q2 q3 q4 q5 q6 qz hb1 p0 hbl;obtain ⟨q0,q1,q2,q3,q4,q5,q6,_⟩:=cells7 HX1.out;have qz:=lt_of_heap HX1.out
    cases hn:Lx.nameB x.data.toList with
    | false=>
      have HR:=hid (HF.out (by rw [HE.out,hn];rfl));go_wp2_with fail;go_ret;exact ⟨ret_bool (by first | exact HR.out.symm | (rw [HR.out]<;>first | (simp;omega) | (simp [*];done))),HB1.out⟩
    | true=>
      by_cases hx:x=o.name
      . have HR:=hid (HF.out (by rw [HE.out,hn,decide_eq_true hx];rfl))
        have hx':(x.toList == o.name.toList)=true:=(str_beq _ _).trans (decide_eq_true hx);clear hx;go_wp2_with fail;go_ret;exact ⟨ret_bool (by first | exact HR.out.symm | (rw [HR.out]<;>first | (simp;omega) | (simp [*];done))),HB1.out⟩
      . have hx':(x.toList == o.name.toList)=false:=(str_beq _ _).trans (decide_eq_false hx)
        have HE':Hid (useAt o j = !Go.Lib.containsS (o.uses.take j) x):=by show _=_;rw [HE.out,hn,decide_eq_false hx];simp
        clear hx;go_wp2_with fail;refine (HV.out _).mono ?_;rintro e w2 ⟨rfl,rfl⟩
        cases hc:Go.Lib.containsS (o.uses.take j) x with
        | true=>
          have HR:=hid (HF.out (by rw [HE'.out,hc];rfl));go_wp2_with fail;go_ret;exact ⟨ret_bool (by first | exact HR.out.symm | (rw [HR.out]<;>first | (simp;omega) | (simp [*];done))),HB1.out⟩
        | false=>
          have HT':=hid (HT.out (by rw [HE'.out,hc];rfl));go_wp2_with fail;go_roundw
          case rel=>exact ⟨j+1,by omega,by go_num,HT'.out,HB1.out,HX1.out⟩
          case measure=>simp [intOf];omega
  . obtain rfl:j=o.uses.length:=by omega
    have HR:Hid (namesB o=true):=by show _=_;rw [HC.out,allTo_true.2 HL.out]
    go_wp2_with fail;go_ret;exact ⟨ret_bool (by first | exact HR.out.symm | (rw [HR.out]<;>first | (simp;omega) | (simp [*];done))),HB.out⟩
end Go.Proofs.YtndkhgakfodldaaGreatDoor
