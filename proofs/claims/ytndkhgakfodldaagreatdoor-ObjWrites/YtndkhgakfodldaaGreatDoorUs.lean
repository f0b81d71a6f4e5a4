import Derived.Test.YtndkhgakfodldaaGreatDoorUr
import Derived.Test.YtndkhgakfodldaaGreatDoorJa
namespace Go.Proofs.YtndkhgakfodldaaGreatDoor
set_option maxRecDepth 100000
set_option maxHeartbeats 8000000
open Go.RowKit Go.Maps Go.WideMaps
set_option linter.unusedSimpArgs false
def zbf (p:Fc × ByteArray):Bool:=Fx.zng p.1 == 0&&decide (p.1.name=p.2)
def zfb (m:Mo) (l:List Fc):Except Int Un:=
 if chkM m≠0 then .error (chkM m) else if l.length≠m.uses.length then .error 8 else if (l.zip m.uses).all zbf then zk1 m l else .error 1
theorem z4p {m:Mo} {l:List Fc} (hl:l.length=m.uses.length) (j:Nat) (h:j<l.length):((l.zip m.uses).take (j+1)).all zbf=(((l.zip m.uses).take j).all zbf&&zbf (l[j],m.uses[j]'(by omega))):=by
 have hz:j<(l.zip m.uses).length:=by rw [vdz];omega
 rw [vag hz,vch,veh];simp
theorem z69 {m:Mo} {l:List Fc} (hl:l.length=m.uses.length) (j:Nat) (h:j<l.length) (hf:zbf (l[j],m.uses[j]'(by omega))=false):(l.zip m.uses).all zbf=false:=by
 have hz:j<(l.zip m.uses).length:=by rw [vdz];omega
 rw [vdo];exact ⟨(l.zip m.uses)[j],vap _,by rw [veh];simp [hf]⟩
theorem z1i {m:Mo} {l:List Fc} (hl:l.length=m.uses.length) (h:(l.zip m.uses).all zbf=true):∀ f ∈ l,f.items.length<=16:=by
 intro f hf;obtain ⟨j,hj,rfl⟩:=vbd hf
 have hz:j<(l.zip m.uses).length:=by rw [vdz];omega
 have:=vax.1 h _ (vap hz);rw [veh] at this;unfold zbf at this;simp only [vad,beq_iff_eq] at this;have hc:=this.1;unfold Fx.zng at hc
 by_cases h16:16<l[j].items.length
 . rw [if_pos h16] at hc;cases hc
 . omega
section
variable {P:Program} {ops:Array Oper} {Q:Exit->Act->World->Prop} {md:Region.Mode} {S:World->Prop} {o1:Op} {o2:TypeId} {o3:String} {o4:Array Edge} {o5:Option (Nat × Bool)} {v:Value} {fuel:Nat} {listed:Array Bool} {a:Act} {w:World}
theorem tq (i d:Nat) (hS:S w) (h:wpAnyH P md ops Q S fuel (listed.setIfInBounds i true) (a.put (some d) v) w) (hi:ops[i]? = some (Oper.mk (some d) o1 o2 o3 o4 o5):=by exact rfl)
 (hg:Region.wanted (Oper.mk (some d) o1 o2 o3 o4 o5) (yielded ops a.tmps)=true:=by rfl) (hy:∀ w,S w->(execOp a.eval (Oper.mk (some d) o1 o2 o3 o4 o5)).run P w = .ok (.value v) w:=by (intro w hSw;(try dsimp only at hSw);go_simp;(try with_reducible rfl)))
 (hb:(Region.noSelect ops&&(Region.free md ops listed i&&(Region.ready md ops listed).contains i))=true:=by kernel_rfl)
 (hQ:∀ c a w,Q (.panic c) (a.put (some d) v) w->Q (.panic c) a w:=by exact fun _ _ _ h=>h):wpAnyH P md ops Q S (fuel+1) listed a w:=by
 simp only [vad] at hb;exact wpAnyH_take hi hb.1 hb.2.1 hb.2.2 hQ (Or.inl ⟨hg,hy⟩) hS h
theorem tu (i d:Nat) (hS:S w) (h:wpAnyH P md ops Q S fuel (listed.setIfInBounds i true) (a.put (some d) undef) w) (hi:ops[i]? = some (Oper.mk (some d) o1 o2 o3 o4 o5):=by exact rfl)
 (hg:Region.wanted (Oper.mk (some d) o1 o2 o3 o4 o5) (yielded ops a.tmps)=false:=by rfl)
 (hb:(Region.noSelect ops&&(Region.free md ops listed i&&(Region.ready md ops listed).contains i))=true:=by kernel_rfl)
 (hQ:∀ c a w,Q (.panic c) (a.put (some d) undef) w->Q (.panic c) a w:=by exact fun _ _ _ h=>h):wpAnyH P md ops Q S (fuel+1) listed a w:=by
 simp only [vad] at hb;exact wpAnyH_take hi hb.1 hb.2.1 hb.2.2 hQ (Or.inr ⟨hg,rfl⟩) hS h
end
theorem zpe (a b:ByteArray):(a.toList == b.toList)=decide (a=b):=by
 rw [vcq];simp only [beq_iff_eq,decide_eq_true_eq]
 constructor
 . intro h
   rw [vba,vba] at h;exact zji h
 . rintro rfl;rfl
theorem zuy (f:Fc) (h:Fx.zng f≠0):Fx.zng f=1\/Fx.zng f=2:=by
 unfold Fx.zng at h ⊢;split
 . exact Or.inr rfl
 . rename_i h1
   rw [if_neg h1] at h;split
   . rename_i h2;rw [if_pos h2] at h;exact absurd rfl h
   . exact Or.inl rfl
theorem fits_cells {w W:World} {x0 x1 v1 z:Value} {t:TypeId} {b bu o:Nat} (hW:Below (w.alloc (.cells #[x0,x1] t)).heap.size (w.alloc (.cells #[x0,x1] t)) W) (h1:w.cell? ⟨b,1,none⟩=some v1) (hb:b<w.heap.size) (h2:w.cell? ⟨bu,o,none⟩=some z) (hbu:bu<w.heap.size) :
 W.cell? ⟨w.heap.size,0,none⟩=some x0/\W.cell? ⟨w.heap.size,1,none⟩=some x1/\W.cell? ⟨b,1,none⟩=some v1/\W.cell? ⟨bu,o,none⟩=some z:=by
 obtain ⟨k0,k1,_⟩:=zc4 ((hW.block w.heap.size (by simp)).trans (heap_newP w _));exact ⟨k0,k1,(hW.cell (p:=⟨b,1,none⟩) (by show b<_;simp;omega)).trans (((al1 w _).cell (p:=⟨b,1,none⟩) hb).trans h1),(hW.cell (p:=⟨bu,o,none⟩) (by show bu<_;simp;omega)).trans (((al1 w _).cell (p:=⟨bu,o,none⟩) hbu).trans h2)⟩
theorem zuz (m:Mo) (v:Value) (a1:OA) (c1:Nat) (a2:OA) (c2:Nat) (a3:OA) (c3:Nat) (a4:OA) (c4:Nat) (l:List Fc) (al:OA) (cl:Nat) (w:World) (hM:MoAt w Tt m v a1 c1 a2 c2 a3 c3 a4 c4) (hF:DAt w Tt al l.length (z63 l)) :
 Calls Tryz.prog 21 #[v,.slice al l.length cl] w fun e w'=>z1e w.heap.size (zfb m l) e w'/\Below w.heap.size w w':=by
 obtain rfl:=hM.val;have HM:=hid hM;have HFs:=hid hF;have hbd:=hF.bound;have hbu:=hM.uses.bound;have HC:=hid (zhc m _ a1 c1 a2 c2 a3 c3 a4 c4 ((w.alloc (.cells #[.string m.name,.slice a1 m.uses.length c1,.slice a2 m.decls.length c2,.slice a3 m.procs.length c3,.slice a4 m.main.length c4] 27)).alloc (.cells #[.string ⟨#[]⟩,.slice none 0 0,.int .i64 0,.slice none 0 0,.slice none 0 0] 42)) (hM.later (bl2 _ _ _)));clear hM hF
 obtain ⟨r,hr⟩:∃ r,r=zfb m l:=⟨_,rfl⟩
 rw [← hr];have HR0:=hid hr;clear hr;go_enter Tryz.func21,Tryz.ntmps21;go_wp2_with fail;refine HC.out.mono ?_;rintro e w1 ⟨rfl,hb1⟩;have HB1:=hid (thenB (bl2 w _ _) hb1);have hz1:=hb1.size;simp at hz1;have P0:=hid ((hb1.block w.heap.size (by simp;omega)).trans (zae (heap_newP w _)));have P1:Hid (w1.heap[w.heap.size+1]? = some (.cells #[.string ⟨#[]⟩,.slice none 0 0,.int .i64 0,.slice none 0 0,.slice none 0 0] 42)):=(hb1.block (w.heap.size+1) (by simp)).trans (by simpa using heap_newP (w.alloc _) _);obtain ⟨x0,x1,x2,x3,x4,xf⟩:=zad P0.out;obtain ⟨r0,r1,r2,r3,r4,rf⟩:=zad P1.out;have hlx:=zab P0.out;have hlr:=zab P1.out;clear hb1 HC
 by_cases hc:chkM m=0
 case neg=>
  have HR:Hid (r = .error (chkM m)):=HR0.out.trans (if_pos hc);go_wp2_with fail;refine bodyPost_ret (v:=.tuple #[.agg #[.string ⟨#[]⟩,.slice none 0 0,.int .i64 0,.slice none 0 0,.slice none 0 0],.int .i64 (chkM m)]) (by simp [results,Tryz.results21,go_sem,r0,r1,r2,r3,r4,hlr]) rfl ⟨by rw [HR.out];exact ⟨rfl,hc⟩,?_⟩;exact zer HB1.out (by omega) _ _ _ _ _
 have HR1:Hid (r=if l.length≠m.uses.length then .error 8 else if (l.zip m.uses).all zbf then zk1 m l else .error 1):=HR0.out.trans (if_neg (by simp [hc]));have HZ:=hid hc;rw [hc];clear hc HR0
 by_cases hlen:l.length=m.uses.length
 case neg=>
  have HR:Hid (r = .error 8):=HR1.out.trans (if_pos hlen)
  have hne1:¬ ((l.length:Int)=m.uses.length):=by omega
  go_wp2_with fail;refine bodyPost_ret (v:=.tuple #[.agg #[.string ⟨#[]⟩,.slice none 0 0,.int .i64 0,.slice none 0 0,.slice none 0 0],.int .i64 8]) (by simp [results,Tryz.results21,go_sem,r0,r1,r2,r3,r4,hlr]) rfl ⟨by rw [HR.out];exact ⟨rfl,by decide⟩,?_⟩;exact zer HB1.out (by omega) _ _ _ _ _
 have HR2:Hid (r=if (l.zip m.uses).all zbf then zk1 m l else .error 1):=HR1.out.trans (if_neg (by simp [hlen]));have HLn:=hid hlen;have hu3:=(zga (zq4 HZ.out)).1
 have hlI:(l.length:Int)=(m.uses.length:Int):=by omega
 clear HR1 hlen;go_wp2_with fail;clear hlI
 go_loopw [7,8,24] (fun _ _ i wr=>∃ j:Nat,j<=l.length/\i = .int .i64 j/\((l.zip m.uses).take j).all zbf=true/\Below w1.heap.size w1 wr) (fun _ _ i _=>l.length - (intOf i).toNat)
 case atStart=>exact ⟨0,vae _,rfl,rfl,Below.refl _ _⟩
 case round=>
  obtain ⟨j,hj,rfl,hall,hbr⟩:=hrel;have HAl:=hid hall;have HB:=hid hbr;have hzr:=hbr.size;have HBw:=hid (thenB HB1.out hbr);have R0:=hid ((hbr.block _ hlx).trans P0.out);have R1:=hid ((hbr.block _ hlr).trans P1.out);clear hall hbr x0 x1 x2 x3 x4 xf r0 r1 r2 r3 r4 rf;obtain ⟨x0,x1,x2,x3,x4,xf⟩:=zad R0.out;obtain ⟨r0,r1,r2,r3,r4,rf⟩:=zad R1.out;have hlx':=zab R0.out;have hlr':=zab R1.out
  by_cases hlt:j<l.length
  . have hju:j<m.uses.length:=by have:=HLn.out;omega
    obtain ⟨b,off,aj,cj,rfl,hbl,y0,y1,hnm,hdj⟩:=(HFs.out.later HBw.out).fc j hlt;obtain ⟨bu,ou,rfl,hblu,z0,hzm⟩:=(HM.out.uses.later HBw.out).str j hju;obtain ⟨HIj,HFj⟩:=zmx hdj;have hbj:=hdj.bound;have HSn:=hid (z4p HLn.out j hlt);have HNo:=hid (z69 HLn.out j hlt)
    have hji:(j:Int)<m.uses.length:=by omega
    generalize l[j]=f at *;generalize m.uses[j]'hju=u at *;have HCf:=hid (fun W (hW:Below wr.heap.size wr W)=>Fx.zn5 f aj cj W (HIj.later hW) (by omega) hnm HFj);have HS:=hid (fun W (hW:Below (wr.alloc (.cells #[.string f.name,.slice aj f.items.length cj] 30)).heap.size (wr.alloc (.cells #[.string f.name,.slice aj f.items.length cj] 30)) W)=>(fits_cells hW x1 hlx' z0 hblu:W.cell? ⟨wr.heap.size,0,none⟩=some (.string f.name)/\W.cell? ⟨wr.heap.size,1,none⟩=some (.slice aj f.items.length cj)/\W.cell? ⟨w.heap.size,1,none⟩=some (.slice (some ⟨bu,ou,none⟩) m.uses.length c1)/\W.cell? ⟨bu,ou+j,none⟩=some (.string u)));have FF:=hid (HS.out _ (bdrew _));clear hdj HIj HFj
    by_cases hcf:Fx.zng f=0
    . cases hsu:decide (f.name=u) with
      | true=>
        have HFf:Hid (zbf (f,u)=true):=by show zbf (f,u)=true;unfold zbf;simp only [hcf,hsu];rfl
        have HSt:Hid (((l.zip m.uses).take (j+1)).all zbf=true):=HSn.out.trans (by rw [HAl.out,HFf.out];rfl);rw [hcf] at HCf;have hst:(f.name.toList == u.toList)=true:=(zpe _ _).trans hsu;clear HSn HNo hcf;go_wp2_with fail
        go_region_held (fun W=>W.cell? ⟨wr.heap.size,0,none⟩=some (.string f.name)/\W.cell? ⟨wr.heap.size,1,none⟩=some (.slice aj f.items.length cj)/\W.cell? ⟨w.heap.size,1,none⟩=some (.slice (some ⟨bu,ou,none⟩) m.uses.length c1)/\W.cell? ⟨bu,ou+j,none⟩=some (.string u)) (exact FF.out)
         (first | (go_at_call 19;refine (HCf.out _ (za7 wr _)).mono ?_;rintro e w3 ⟨rfl,hb3⟩;have HB3:=hid (thenB (bdrew (wr.alloc (.cells #[.string f.name,.slice aj f.items.length cj] 30))) hb3);have FF:=hid (HS.out _ HB3.out);clear hb3))
        have HBf:=hid (thenB (thenB HBw.out (al1 wr (.cells #[.string f.name,.slice aj f.items.length cj] 30))) HB3.out);have hz3:=HB3.out.size;simp at hz3;have v1:=(HB3.out.block _ (by simp;omega)).trans (zae (o:=(.cells #[.string f.name,.slice aj f.items.length cj] 30)) R1.out);clear r0 r1 r2 r3 r4 rf;obtain ⟨r0,r1,r2,r3,r4,rf⟩:=zad v1;have hlr3:=zab v1;clear v1;go_wp2_with fail;go_roundw
        case rel=>exact ⟨j+1,by omega,by go_num,HSt.out,thenB (thenB HB.out (al1 wr _)) HB3.out⟩
        case measure=>simp [intOf];omega
      | false=>
        have HFf:Hid (zbf (f,u)=false):=by show zbf (f,u)=false;unfold zbf;simp only [hsu,Bool.and_false]
        rw [hcf] at HCf;have hst:(f.name.toList == u.toList)=false:=(zpe _ _).trans hsu;clear HSn hcf;have HR:Hid (r = .error 1):=HR2.out.trans (if_neg (by rw [HNo.out HFf.out];decide));go_wp2_with fail
        go_region_held (fun W=>W.cell? ⟨wr.heap.size,0,none⟩=some (.string f.name)/\W.cell? ⟨wr.heap.size,1,none⟩=some (.slice aj f.items.length cj)/\W.cell? ⟨w.heap.size,1,none⟩=some (.slice (some ⟨bu,ou,none⟩) m.uses.length c1)/\W.cell? ⟨bu,ou+j,none⟩=some (.string u)) (exact FF.out)
         (first | (go_at_call 19;refine (HCf.out _ (za7 wr _)).mono ?_;rintro e w3 ⟨rfl,hb3⟩;have HB3:=hid (thenB (bdrew (wr.alloc (.cells #[.string f.name,.slice aj f.items.length cj] 30))) hb3);have FF:=hid (HS.out _ HB3.out);clear hb3))
        have HBf:=hid (thenB (thenB HBw.out (al1 wr (.cells #[.string f.name,.slice aj f.items.length cj] 30))) HB3.out);have hz3:=HB3.out.size;simp at hz3;have v1:=(HB3.out.block _ (by simp;omega)).trans (zae (o:=(.cells #[.string f.name,.slice aj f.items.length cj] 30)) R1.out);clear r0 r1 r2 r3 r4 rf;obtain ⟨r0,r1,r2,r3,r4,rf⟩:=zad v1;have hlr3:=zab v1;clear v1;go_wp2_with fail;refine bodyPost_ret (v:=.tuple #[.agg #[.string ⟨#[]⟩,.slice none 0 0,.int .i64 0,.slice none 0 0,.slice none 0 0],.int .i64 1]) (by simp [results,Tryz.results21,go_sem,r0,r1,r2,r3,r4,hlr3]) rfl ⟨by rw [HR.out];exact ⟨rfl,by decide⟩,?_⟩;exact zer HBf.out (by omega) _ _ _ _ _
    . have HFf:Hid (zbf (f,u)=false):=by show zbf (f,u)=false;unfold zbf;simp only [beq_eq_false_iff_ne.2 hcf,vem]
      clear HSn
      rcases zuy f hcf with hc1 | hc2
      . rw [hc1] at HCf
        clear hcf hc1;have HR:Hid (r = .error 1):=HR2.out.trans (if_neg (by rw [HNo.out HFf.out];decide));go_wp2_with fail;refine wp_region_held_drew (S:=(fun W=>W.cell? ⟨wr.heap.size,0,none⟩=some (.string f.name)/\W.cell? ⟨wr.heap.size,1,none⟩=some (.slice aj f.items.length cj)/\W.cell? ⟨w.heap.size,1,none⟩=some (.slice (some ⟨bu,ou,none⟩) m.uses.length c1)/\W.cell? ⟨bu,ou+j,none⟩=some (.string u))) (by kernel_rfl) FF.out (fun hHeld=>?_);refine tq 0 29 hHeld ?_
        (try simp only [Act.put,van,vat,vau])
        refine wpAnyH_ready (rs:=[1]) (by kernel_rfl) (by simp) ?_;refine AllReadyH.cons rfl (fun K hK=>?_) AllReadyH.nil;go_simp
        go_wp2_with (go_at_call 19;refine (HCf.out _ (za7 wr _)).mono ?_;rintro e w3 ⟨rfl,hb3⟩)
        have HB3:=hid (thenB (bdrew (wr.alloc (.cells #[.string f.name,.slice aj f.items.length cj] 30))) hb3);clear hb3;refine hK.out _ _ (HS.out _ HB3.out) (fun hHeld=>?_);clear hK K;refine tq 2 31 hHeld ?_
        (try simp only [Act.put,van,vat,vau])
        refine tq 3 32 hHeld ?_
        (try simp only [Act.put,van,vat,vau])
        refine tu 4 33 hHeld ?_
        (try simp only [Act.put,van,vat,vau])
        refine tu 5 34 hHeld ?_
        (try simp only [Act.put,van,vat,vau])
        refine tu 6 35 hHeld ?_
        (try simp only [Act.put,van,vat,vau])
        refine tu 7 36 hHeld ?_
        (try simp only [Act.put,van,vat,vau])
        refine tu 8 37 hHeld ?_
        (try simp only [Act.put,van,vat,vau])
        refine tu 9 38 hHeld ?_
        (try simp only [Act.put,van,vat,vau])
        refine tu 10 39 hHeld ?_
        (try simp only [Act.put,van,vat,vau])
        refine tu 11 40 hHeld ?_
        (try simp only [Act.put,van,vat,vau])
        refine tq 12 41 hHeld ?_
        (try simp only [Act.put,van,vat,vau])
        refine wpAnyH_done (by kernel_rfl) ?_ _;have HBf:=hid (thenB (thenB HBw.out (al1 wr (.cells #[.string f.name,.slice aj f.items.length cj] 30))) HB3.out);have hz3:=HB3.out.size;simp at hz3;have v1:=(HB3.out.block _ (by simp;omega)).trans (zae (o:=(.cells #[.string f.name,.slice aj f.items.length cj] 30)) R1.out);clear r0 r1 r2 r3 r4 rf;obtain ⟨r0,r1,r2,r3,r4,rf⟩:=zad v1;have hlr3:=zab v1;clear v1;go_wp2_with fail;refine bodyPost_ret (v:=.tuple #[.agg #[.string ⟨#[]⟩,.slice none 0 0,.int .i64 0,.slice none 0 0,.slice none 0 0],.int .i64 1]) (by simp [results,Tryz.results21,go_sem,r0,r1,r2,r3,r4,hlr3]) rfl ⟨by rw [HR.out];exact ⟨rfl,by decide⟩,?_⟩;exact zer HBf.out (by omega) _ _ _ _ _
      . rw [hc2] at HCf
        clear hcf hc2;have HR:Hid (r = .error 1):=HR2.out.trans (if_neg (by rw [HNo.out HFf.out];decide));go_wp2_with fail;refine wp_region_held_drew (S:=(fun W=>W.cell? ⟨wr.heap.size,0,none⟩=some (.string f.name)/\W.cell? ⟨wr.heap.size,1,none⟩=some (.slice aj f.items.length cj)/\W.cell? ⟨w.heap.size,1,none⟩=some (.slice (some ⟨bu,ou,none⟩) m.uses.length c1)/\W.cell? ⟨bu,ou+j,none⟩=some (.string u))) (by kernel_rfl) FF.out (fun hHeld=>?_);refine tq 0 29 hHeld ?_
        (try simp only [Act.put,van,vat,vau])
        refine wpAnyH_ready (rs:=[1]) (by kernel_rfl) (by simp) ?_;refine AllReadyH.cons rfl (fun K hK=>?_) AllReadyH.nil;go_simp
        go_wp2_with (go_at_call 19;refine (HCf.out _ (za7 wr _)).mono ?_;rintro e w3 ⟨rfl,hb3⟩)
        have HB3:=hid (thenB (bdrew (wr.alloc (.cells #[.string f.name,.slice aj f.items.length cj] 30))) hb3);clear hb3;refine hK.out _ _ (HS.out _ HB3.out) (fun hHeld=>?_);clear hK K;refine tq 2 31 hHeld ?_
        (try simp only [Act.put,van,vat,vau])
        refine tq 3 32 hHeld ?_
        (try simp only [Act.put,van,vat,vau])
        refine tu 4 33 hHeld ?_
        (try simp only [Act.put,van,vat,vau])
        refine tu 5 34 hHeld ?_
        (try simp only [Act.put,van,vat,vau])
        refine tu 6 35 hHeld ?_
        (try simp only [Act.put,van,vat,vau])
        refine tu 7 36 hHeld ?_
        (try simp only [Act.put,van,vat,vau])
        refine tu 8 37 hHeld ?_
        (try simp only [Act.put,van,vat,vau])
        refine tu 9 38 hHeld ?_
        (try simp only [Act.put,van,vat,vau])
        refine tu 10 39 hHeld ?_
        (try simp only [Act.put,van,vat,vau])
        refine tu 11 40 hHeld ?_
        (try simp only [Act.put,van,vat,vau])
        refine tq 12 41 hHeld ?_
        (try simp only [Act.put,van,vat,vau])
        refine wpAnyH_done (by kernel_rfl) ?_ _;have HBf:=hid (thenB (thenB HBw.out (al1 wr (.cells #[.string f.name,.slice aj f.items.length cj] 30))) HB3.out);have hz3:=HB3.out.size;simp at hz3;have v1:=(HB3.out.block _ (by simp;omega)).trans (zae (o:=(.cells #[.string f.name,.slice aj f.items.length cj] 30)) R1.out);clear r0 r1 r2 r3 r4 rf;obtain ⟨r0,r1,r2,r3,r4,rf⟩:=zad v1;have hlr3:=zab v1;clear v1;go_wp2_with fail;refine bodyPost_ret (v:=.tuple #[.agg #[.string ⟨#[]⟩,.slice none 0 0,.int .i64 0,.slice none 0 0,.slice none 0 0],.int .i64 1]) (by simp [results,Tryz.results21,go_sem,r0,r1,r2,r3,r4,hlr3]) rfl ⟨by rw [HR.out];exact ⟨rfl,by decide⟩,?_⟩;exact zer HBf.out (by omega) _ _ _ _ _
  . obtain rfl:j=l.length:=by omega
    have hnl:¬ (l.length<m.uses.length):=by have:=HLn.out;omega
    have HAf:Hid ((l.zip m.uses).all zbf=true):=by have:=HAl.out;rw [vav (by rw [vdz];omega)] at this;exact this
    have HR:Hid (r=zk1 m l):=HR2.out.trans (if_pos HAf.out);have HC5:=hid (z4o m _ a1 c1 a2 c2 a3 c3 a4 c4 l al cl wr (HM.out.later HBw.out) (zq4 HZ.out) (HFs.out.later HBw.out) (by have:=HLn.out;omega) (z1i HLn.out HAf.out));go_wp2_with fail;refine HC5.out.mono ?_;rintro e w5 ⟨hend,hb5⟩;have HB5:=hid (thenB HBw.out hb5);have hz5:=hb5.size;have v1:=(hb5.block _ hlr').trans R1.out;clear r0 r1 r2 r3 r4 rf;obtain ⟨r0,r1,r2,r3,r4,rf⟩:=zad v1;have hlr5:=zab v1;clear hb5 v1 HC5
    cases hq:zk1 m l with
    | error c=>
      rw [hq] at hend;obtain ⟨rfl,hne⟩:=hend;have HRe:Hid (r = .error c):=HR.out.trans hq;clear hq;go_wp2_with fail;refine bodyPost_ret (v:=.tuple #[.agg #[.string ⟨#[]⟩,.slice none 0 0,.int .i64 0,.slice none 0 0,.slice none 0 0],.int .i64 c]) (by simp [results,Tryz.results21,go_sem,r0,r1,r2,r3,r4,hlr5]) rfl ⟨by rw [HRe.out];exact ⟨rfl,hne⟩,?_⟩;exact zer HB5.out (by omega) _ _ _ _ _
    | ok q=>
      rw [hq] at hend;obtain ⟨g1,k1,g2,k2,g3,k3,rfl,he1,he2,he3⟩:=hend;have HRe:Hid (r = .ok q):=HR.out.trans hq
      have HMv:Hid (∀ v0 v1 v2 v3 v4,zai w5 (wr.heap.size<=·) (set5 w5 (w.heap.size+1) v0 v1 v2 v3 v4) (w.heap.size<=·)):=fun v0 v1 v2 v3 v4=>
       ((zai.refl w5 (wr.heap.size<=·)).set5 (b:=w.heap.size+1) (fun b _ hb=>by have:wr.heap.size<=b:=hb;omega) v0 v1 v2 v3 v4).trans ⟨vaa _,fun b _ h=>⟨by have:wr.heap.size<=b:=h;show w.heap.size<=b;omega,rfl⟩⟩
      have HE1:=hid he1;have HE2:=hid he2;have HE3:=hid he3;clear hq he1 he2 he3;go_wp2_with fail;refine bodyPost_ret (v:=.tuple #[.agg #[.string q.name,.slice g1 q.uses.length k1,.int .i64 q.data,.slice g2 q.parts.length k2,.slice g3 q.main.length k3],.int .i64 0]) (by simp [results,Tryz.results21,go_sem,r0,r1,r2,r3,r4,hlr5]) rfl ⟨?_,?_⟩
      . rw [HRe.out]
        exact ⟨g1,k1,g2,k2,g3,k3,rfl,HE1.out.moves (HMv.out _ _ _ _ _),HE2.out.moves (HMv.out _ _ _ _ _),HE3.out.moves (HMv.out _ _ _ _ _)⟩
      . exact zer HB5.out (by omega) _ _ _ _ _
end Go.Proofs.YtndkhgakfodldaaGreatDoor

namespace Go.Proofs.YtndkhgakfodldaaGreatDoor
open Go.RowKit
set_option linter.unusedSimpArgs false
set_option linter.unusedVariables false
theorem z1j {n:Int} (h1 : -1000000000000000<=n) (h2:n<=1000000000000000):(Lit.int .i64 n).wf=true:=by
 simp only [Lit.wf,vad,decide_eq_true_eq];exact ⟨by show (-9223372036854775808:Int)<=n;omega,by show n<=(9223372036854775807:Int);omega⟩
end Go.Proofs.YtndkhgakfodldaaGreatDoor

namespace Go.Proofs.YtndkhgakfodldaaGreatDoor
set_option maxRecDepth 100000
set_option maxHeartbeats 800000
open Go.RowKit Go.Maps Go.WideMaps
set_option linter.unusedSimpArgs false
set_option linter.unusedVariables false
theorem zq7 {W:World} {base:Nat} {t:TypeId} {sz:Nat} {a:OA} {n cap:Nat} {xs:List Value} {ds:List D} (h:W.ownsRow base t sz (.slice a n cap) n xs) (hx:zav W Tt ds xs) (h1:n<=ds.length) (h2:ds.length<=17592186044416):DAt W Tt a n ds:=by
 refine ⟨h1,h2,?_⟩
 rcases h.2 with ⟨e,h0⟩ | ⟨g,cap',cur,e,_,hg,_⟩
 . exact Or.inl h0
 . cases e
   refine Or.inr ⟨g,0,xs,rfl,trivial,zab hg,fun j u hj=>?_,hx⟩;have:=h.cells (g:=g) rfl j u hj;rw [show (⟨g,0,none⟩:Addr).add j=⟨g,j,none⟩ from by unfold Addr.add;split<;>simp_all] at this
   rw [vbq];exact this
def zgc (n:Int):Prop:=-1000000000000000<=n/\n<=1000000000000000
theorem zm2 {W:World} {n:Int} (h:zgc n):zd0 W Tt (.int n) (.int .i64 n):=zdk (z1j h.1 h.2)
theorem zwx {W:World}:∀ (l:List Gi),(∀ i ∈ l,zgc i.op/\zgc i.a/\zgc i.b)->zav W Tt (zri l) (zln l)
 | [],_=>zav.nil
 | i :: r,h=>by
   have h1:=h i (vam ..);simp only [zri,zln,vbg];exact zav.append (.cons (zm2 h1.1) (.cons (zm2 h1.2.1) (.cons (zm2 h1.2.2) .nil))) (zwx r (fun j hj=>h j (vaf _ hj)))
theorem zwy {W:World}:∀ (l:List Gf),(∀ i ∈ l,zgc i.at_/\zgc i.kind/\zgc i.m)->zav W Tt (zyi l) (ztc l)
 | [],_=>zav.nil
 | i :: r,h=>by
   have h1:=h i (vam ..);simp only [zyi,ztc,vbg];exact zav.append (.cons (zm2 h1.1) (.cons (zm2 h1.2.1) (.cons (zm2 h1.2.2) .nil))) (zwy r (fun j hj=>h j (vaf _ hj)))
theorem zs6 {W:World}:∀ (l:List Int),(∀ i ∈ l,zgc i)->zav W Tt (zk8 l) (intV l)
 | [],_=>zav.nil
 | i :: r,h=>.cons (zm2 (h i (vam ..))) (zs6 r (fun j hj=>h j (vaf _ hj)))
theorem zs7 {W:World}:∀ (l:List ByteArray),(∀ s ∈ l,s.size<=maxLen)->zav W Tt (zao l) (strV l)
 | [],_=>zav.nil
 | i :: r,h=>.cons (zfl (h i (vam ..))) (zs7 r (fun j hj=>h j (vaf _ hj)))
theorem zhr (l:List Gi):(zri l).length=l.length*3:=by
 induction l with
 | nil=>rfl
 | cons x r ih=>simp only [zri,vbg,vab,vas] at ih ⊢;rw [ih];simp [Gi.ds];omega
theorem zhs (l:List Gf):(zyi l).length=l.length*3:=by
 induction l with
 | nil=>rfl
 | cons x r ih=>simp only [zyi,vbg,vab,vas] at ih ⊢;rw [ih];simp [Gf.ds];omega
theorem z5p (N:Int):∀ (e:List Gf) (lo:Int),lo<=N->e.Pairwise (fun f g=>f.at_<g.at_)->(∀ f ∈ e,lo<=f.at_/\f.at_<N)->(e.length:Int)<=N - lo
 | [],lo,h,_,_=>by simp;omega
 | f :: r,lo,h,hp,hb=>by
   rw [List.pairwise_cons] at hp;have h1:=hb f (vam ..);have:=z5p N r (f.at_+1) (by omega) hp.2 (fun g hg=>⟨by have:=hp.1 g hg;omega,(hb g (vaf _ hg)).2⟩);rw [vas];omega
theorem z7a {u:Un} {o:Ob} (h:zxl u = .ok o):o=zqh u/\zf0 u zj7 zjx=true/\Go.Lib.containsS u.uses u.name=false/\ziq (genS u)=false:=by
 unfold zxl at h
 split at h
 . cases h
 . rename_i h1
   split at h
   . cases h
   . rename_i h2
     cases h;simp only [vdc,vay] at h1;exact ⟨rfl,by simpa using h1.2,h1.1,by simpa using h2⟩
theorem z1k {u:Un} (h:zf0 u zj7 zjx=true):(∀ i ∈ (genS u).code,zgc i.op/\zgc i.a/\zgc i.b)/\(∀ f ∈ (genS u).fixes,zgc f.at_/\zgc f.kind/\zgc f.m)/\(∀ x ∈ entsW u.parts,zgc x)/\zgc ((zce u.parts).code.length:Int)/\(genS u).fixes.length<=33000:=by
 obtain ⟨ha,_,hl,hs⟩:=z23 h;have hb:=zua h;have h3:=zj8 (zb7 h).2.2;obtain ⟨e,he,hp,hr⟩:=ha.fx
 have he':(genS u).fixes=e:=by rw [he];rfl
 subst he';refine ⟨fun i hi=>?_,fun f hf=>?_,fun x hx=>?_,by unfold zgc;omega,?_⟩
 . obtain ⟨k,hk,rfl⟩:=vbd hi
   have:=ha.ins k _ (vae _) (vaj hk);unfold inR at this;unfold zgc;omega
 . obtain ⟨k,i,hi,hk,_,hx⟩:=hr f hf
   have:=zex hi;unfold zgc
   rcases hx with ⟨h1,h2,_⟩ | ⟨h1,_,_,h4⟩<;>omega
 . rw [ztr,vdp] at hx
   obtain ⟨b,hb',e⟩:=hx;have:=hs b hb';unfold zgc;omega
 . have:=z5p ((genS u).code.length:Int) (genS u).fixes 0 (by omega) hp (fun f hf=>by
    obtain ⟨k,i,hi,hk,_,_⟩:=hr f hf;have:=zex hi
    omega)
   omega
theorem z7b {W:World} {base:Nat} {t:TypeId} {sz:Nat} {a:OA} {n cap:Nat} {xs:List Value} (h:W.ownsRow base t sz (.slice a n cap) n xs):n<=cap:=by
 obtain ⟨_,_,e,h1,_⟩:=zau h
 cases e
 exact h1
theorem z5q {u:Un} {o:Ob} (hg:zxl u = .ok o) {x1:OA} {y1:Nat} {x2:OA} {y2:Nat} {x3:OA} {y3:Nat} {w:World} (hU:UvAt w u x1 y1 x2 y2 x3 y3) :
 Calls Tryz.prog 31 #[.agg #[.string u.name,.slice x1 u.uses.length y1,.int .i64 u.data,.slice x2 u.parts.length y2,.slice x3 u.main.length y3]] w fun e w'=>∃ x1 y1 x3 y3 x4 y4 x5 y5,e = .returned (.tuple #[.agg #[.string o.name,.slice x1 o.uses.length y1,.int .i64 o.data,.slice x3 o.code.length y3,.slice x4 o.fixes.length y4,.slice x5 o.entries.length y5,.int .i64 o.main],.int .i64 0])/\OvAt w' o x1 x3 x4 x5/\o.uses.length<=y1/\Below w.heap.size w w':=
 (z6k u x1 y1 x2 y2 x3 y3 w hU).mono fun e w' ⟨h,hb⟩=>by
   obtain ⟨rfl,hh,hc,hf⟩:=z7a hg;unfold zkp at h;rw [hg] at h;obtain ⟨ua,uc,ca,cc,fa,fc,ea,ec,he,h1,h2,h3,h4⟩:=h;obtain ⟨s1,s2,s3,s4,s5⟩:=z1k hh;have hd:=zj6 (zb7 hh).2.2;have hu:=zj8 (zb7 hh).2.2;have h6:=zi4 (zb7 hh).2.2;have hel:(zqh u).entries.length=u.parts.length:=zec ..;have hcl:=zua hh;refine ⟨ua,uc,ca,cc,fa,fc,ea,ec,he,⟨hU.wn,?_,z1j (by show _<=u.data;omega) (by show u.data<=_;omega),?_,?_,?_,z1j s4.1 s4.2⟩,z7b h1,hb⟩
   . exact zq7 h1 (zs7 _ (zef hU.uses).2) (by simp [zao]) (by show (zao u.uses).length<=_;simp [zao];omega)
   . exact zq7 h2 (zwx _ s1) (by rw [zhr];omega) (by rw [zhr];show (genS u).code.length*3<=_;omega)
   . exact zq7 h3 (zwy _ s2) (by rw [zhs];omega) (by rw [zhs];show (genS u).fixes.length*3<=_;omega)
   . exact zq7 h4 (zs6 _ s3) (by simp [zk8]) (by rw [show (zk8 (zqh u).entries).length=(zqh u).entries.length from by simp [zk8],hel];omega)
theorem DAt.drw {A:Nat->Prop} {w:World} {n:Nat} {a:OA} {ds:List D} (h:DAt w A a n ds) (k:Nat):DAt (w.drewN k) A a n ds:=h.moves ⟨by simp,fun b _ hb=>⟨hb,by simp⟩⟩
theorem zq8 (a b:OA) (c1 c2:Nat) (l:List Int) (w:World) (ha:DAt w Tt a l.length (zk8 l)) (hb:DAt w Tt b l.length (zk8 l)) :
 Calls Tryz.prog 28 #[.slice a l.length c1,.slice b l.length c2] w fun e w'=>e = .returned (.bool true)/\∃ m,w'=w.drewN m:=by
 have hbd:=ha.bound;have HA:=hid ha;have HB:=hid hb;clear ha hb;go_enter Tryz.func28,Tryz.ntmps28;go_wp2_with fail
 go_loopw [5] (fun i wr=>∃ k m:Nat,k<=l.length/\i = .int .i64 k/\wr=w.drewN m) (fun i _=>l.length - (intOf i).toNat)
 case atStart=>exact ⟨0,0,vae _,rfl,rfl⟩
 case round=>
  obtain ⟨k,m,hk,rfl,rfl⟩:=hrel
  by_cases hlt:k<l.length
  . obtain ⟨b1,o1,rfl,hl1,hc0,_⟩:=(DAt.num (l:=l) (HA.out.drw m)) k hlt
    obtain ⟨b2,o2,rfl,hl2,hd0,_⟩:=(DAt.num (l:=l) (HB.out.drw m)) k hlt;have hc:=hid hc0;generalize l[k]=lk at *;generalize hW:w.drewN m=W at *;have HW:=hid hW;clear hW;go_wp2_with fail
    go_quiet ((fail))
    go_wp2_with fail;go_roundw
    case rel=>exact ⟨k+1,m+nq,by omega,by go_num,by rw [← HW.out,vey]⟩
    case measure=>simp [intOf];omega
  . go_wp2_with fail
    go_ret;exact ⟨rfl,m,rfl⟩
end Go.Proofs.YtndkhgakfodldaaGreatDoor

namespace Go.Proofs.YtndkhgakfodldaaGreatDoor
set_option maxRecDepth 100000
set_option maxHeartbeats 1600000
open Go.RowKit Go.Shelf
set_option linter.unusedSimpArgs false
set_option linter.unusedVariables false
def listB {α:Type} (g:α->L8) (l:List α):L8:=Fx.numB l.length++l.flatMap g
theorem zcm {B:Nat} {w w':World} (h:Below B w w') (hB:B<=w.heap.size):zai w (·<B) w' (·<B):=⟨h.size,fun b _ hb=>⟨hb,h.block b hb⟩⟩
theorem zes {α:Type} (g:α->L8) (l:List α) (j:Nat) (h:j<l.length):(l.take (j+1)).flatMap g=(l.take j).flatMap g++g l[j]:=by
 rw [vag h,vdx];simp
theorem zf1 {α:Type} (g:α->L8) (c:Nat):∀ (l:List α),(∀ x ∈ l,(g x).length<=c)->(l.flatMap g).length<=c*l.length
 | [],_=>by simp
 | x :: r,h=>by
   have h1:=h x (vam ..);have h2:=zf1 g c r (fun y hy=>h y (vaf _ hy));rw [vbg,vab,vas,Nat.mul_succ];omega
theorem zap (n:Int):(Fx.numB n).length=8:=rfl
theorem zq9 {s:ByteArray} (h:s.size<=255):(Fx.textB s).length<=256:=by
 unfold Fx.textB;rw [vas,Lx.zat];omega
theorem zjm (s:ByteArray):(Fx.textB s).length=s.size+1:=by unfold Fx.textB;rw [vas,Lx.zat]
theorem zlj {α:Type} (g:α->L8) (c:Nat) (l:List α) (h:∀ x ∈ l,(g x).length<=c):(listB g l).length<=8+c*l.length:=by
 unfold listB;rw [vab,zap];have:=zf1 g c l h;omega
theorem zkf (i:Gi):(instrB i).length=17:=rfl
theorem zm3 (i:Gf):(fixBy i).length=17:=rfl
theorem zm4 (B:Nat) (v:Value) (l:L8) (xs:List ByteArray) (a:OA) (cap:Nat) (w:World) (h:Fx.Row B w v l) (hB:B<=w.heap.size) (hD:DAt w (·<B) a xs.length (zao xs)) (hl:l.length+8+256*xs.length<=800000) (hs:∀ s ∈ xs,s.size<=255) :
 Calls Tryz.prog 87 #[v,.slice a xs.length cap,.func (.func 86) #[] #[]] w fun e w'=>∃ v',e = .returned v'/\(Fx.Row B w' v' (l++listB Fx.textB xs)/\Below B w w'):=by
 have hbd:=hD.bound;have HD:=hid hD
 have HG:Hid (∀ j,((xs.take j).flatMap Fx.textB).length<=256*xs.length):=fun j=>vai (zf1 Fx.textB 256 (xs.take j) (fun x hx=>zq9 (hs x (vdq hx)))) (vcb _ (by rw [vbb];omega))
 have HN:=hid (ze0 (xs.length:Int) h hB (by omega));clear h hD;go_enter Tryz.func87,Tryz.ntmps87;go_wp2_with fail;refine HN.out.mono ?_;rintro e w1 ⟨u1,rfl,h1,b1,_⟩;have H1:=hid h1;have B1:=hid b1;have hz1:=b1.size;clear h1 b1;go_wp2_with fail
 go_loopw [0,15] (fun u i wr=>∃ j:Nat,j<=xs.length/\i = .int .i64 j/\Fx.Row B wr u (l++(Fx.numB xs.length++(xs.take j).flatMap Fx.textB))/\Below B w wr) (fun _ i _=>xs.length - (intOf i).toNat)
 case atStart=>exact ⟨0,vae _,rfl,by rw [vcg,vco,vbe];exact H1.out,B1.out⟩
 case round=>
  obtain ⟨j,hj,rfl,hr,hb⟩:=hrel;have HR:=hid hr;have HB:=hid hb;have hzr:=hb.size
  have HL:Hid ((l++(Fx.numB xs.length++(xs.take j).flatMap Fx.textB)).length<=800000):=by
   have:=HG.out j;show _<=_;rw [vab,vab,zap];omega
  clear hr hb
  by_cases hlt:j<xs.length
  . obtain ⟨b,off,rfl,hbl,c0,hsz⟩:=(HD.out.moves (zcm HB.out hB)).str j hlt
    have HS:Hid (l++(Fx.numB xs.length++(xs.take (j+1)).flatMap Fx.textB)=(l++(Fx.numB xs.length++(xs.take j).flatMap Fx.textB))++Fx.textB xs[j]):=by show _=_;rw [zes Fx.textB xs j hlt];simp only [vaq]
    have hx255:=hs xs[j] (vap hlt);generalize (l++(Fx.numB xs.length++(xs.take j).flatMap Fx.textB))=lj at *;generalize xs[j]=x at *;go_wp2_with fail;refine (zwu x HR.out (by omega) (by have:=HL.out;omega) (by omega)).mono ?_;rintro e w2 ⟨u2,rfl,h2,b2⟩;have H2:=hid h2;have B2:=hid (HB.out.trans b2);clear h2 b2;go_wp2_with fail;go_roundw
    case rel=>exact ⟨j+1,by omega,by go_num,by rw [HS.out];exact H2.out,B2.out⟩
    case measure=>simp [intOf];omega
  . obtain rfl:j=xs.length:=by omega
    go_wp2_with fail
    go_returns
    refine ⟨_,rfl,?_,HB.out⟩;have:=HR.out;rw [vaz] at this;exact this
theorem zk3 (B:Nat) (v:Value) (l:L8) (xs:List Gi) (a:OA) (cap:Nat) (w:World) (h:Fx.Row B w v l) (hB:B<=w.heap.size) (hD:DAt w (·<B) a xs.length (zri xs)) (hl:l.length+8+17*xs.length<=800000) :
 Calls Tryz.prog 89 #[v,.slice a xs.length cap,.func (.func 90) #[] #[]] w fun e w'=>∃ v',e = .returned v'/\(Fx.Row B w' v' (l++listB instrB xs)/\Below B w w'):=by
 have hbd:=hD.bound;have HD:=hid hD
 have HG:Hid (∀ j,((xs.take j).flatMap instrB).length<=17*xs.length):=fun j=>vai (zf1 instrB 17 (xs.take j) (fun x hx=>vcy (zkf x))) (vcb _ (by rw [vbb];omega))
 have HN:=hid (ze0 (xs.length:Int) h hB (by omega));clear h hD;go_enter Tryz.func89,Tryz.ntmps89;go_wp2_with fail;refine HN.out.mono ?_;rintro e w1 ⟨u1,rfl,h1,b1,_⟩;have H1:=hid h1;have B1:=hid b1;have hz1:=b1.size;clear h1 b1;go_wp2_with fail
 go_loopw [0,15] (fun u i wr=>∃ j:Nat,j<=xs.length/\i = .int .i64 j/\Fx.Row B wr u (l++(Fx.numB xs.length++(xs.take j).flatMap instrB))/\Below B w wr) (fun _ i _=>xs.length - (intOf i).toNat)
 case atStart=>exact ⟨0,vae _,rfl,by rw [vcg,vco,vbe];exact H1.out,B1.out⟩
 case round=>
  obtain ⟨j,hj,rfl,hr,hb⟩:=hrel;have HR:=hid hr;have HB:=hid hb;have hzr:=hb.size
  have HL:Hid ((l++(Fx.numB xs.length++(xs.take j).flatMap instrB)).length<=800000):=by
   have:=HG.out j;show _<=_;rw [vab,vab,zap];omega
  clear hr hb
  by_cases hlt:j<xs.length
  . obtain ⟨b,off,rfl,hbl,c0,c1,c2,_,_,_⟩:=(HD.out.moves (zcm HB.out hB)).gi j hlt
    have HS:Hid (l++(Fx.numB xs.length++(xs.take (j+1)).flatMap instrB)=(l++(Fx.numB xs.length++(xs.take j).flatMap instrB))++instrB xs[j]):=by show _=_;rw [zes instrB xs j hlt];simp only [vaq]
    skip
    generalize (l++(Fx.numB xs.length++(xs.take j).flatMap instrB))=lj at *;generalize xs[j]=x at *;go_wp2_with fail;refine (zm1 B _ _ x _ (HR.out.later (al1 _ _)) (by simp;omega) (by have:=HL.out;omega)).mono ?_;rintro e w2 ⟨u2,rfl,h2,b2⟩;have H2:=hid h2;have B2:=hid (HB.out.trans (((al1 _ _).mono (by omega)).trans b2));clear h2 b2;go_wp2_with fail;go_roundw
    case rel=>exact ⟨j+1,by omega,by go_num,by rw [HS.out];exact H2.out,B2.out⟩
    case measure=>simp [intOf];omega
  . obtain rfl:j=xs.length:=by omega
    go_wp2_with fail
    go_returns
    refine ⟨_,rfl,?_,HB.out⟩;have:=HR.out;rw [vaz] at this;exact this
theorem zm5 (B:Nat) (v:Value) (l:L8) (xs:List Gf) (a:OA) (cap:Nat) (w:World) (h:Fx.Row B w v l) (hB:B<=w.heap.size) (hD:DAt w (·<B) a xs.length (zyi xs)) (hl:l.length+8+17*xs.length<=800000) :
 Calls Tryz.prog 91 #[v,.slice a xs.length cap,.func (.func 92) #[] #[]] w fun e w'=>∃ v',e = .returned v'/\(Fx.Row B w' v' (l++listB fixBy xs)/\Below B w w'):=by
 have hbd:=hD.bound;have HD:=hid hD
 have HG:Hid (∀ j,((xs.take j).flatMap fixBy).length<=17*xs.length):=fun j=>vai (zf1 fixBy 17 (xs.take j) (fun x hx=>vcy (zm3 x))) (vcb _ (by rw [vbb];omega))
 have HN:=hid (ze0 (xs.length:Int) h hB (by omega));clear h hD;go_enter Tryz.func91,Tryz.ntmps91;go_wp2_with fail;refine HN.out.mono ?_;rintro e w1 ⟨u1,rfl,h1,b1,_⟩;have H1:=hid h1;have B1:=hid b1;have hz1:=b1.size;clear h1 b1;go_wp2_with fail
 go_loopw [0,15] (fun u i wr=>∃ j:Nat,j<=xs.length/\i = .int .i64 j/\Fx.Row B wr u (l++(Fx.numB xs.length++(xs.take j).flatMap fixBy))/\Below B w wr) (fun _ i _=>xs.length - (intOf i).toNat)
 case atStart=>exact ⟨0,vae _,rfl,by rw [vcg,vco,vbe];exact H1.out,B1.out⟩
 case round=>
  obtain ⟨j,hj,rfl,hr,hb⟩:=hrel;have HR:=hid hr;have HB:=hid hb;have hzr:=hb.size
  have HL:Hid ((l++(Fx.numB xs.length++(xs.take j).flatMap fixBy)).length<=800000):=by
   have:=HG.out j;show _<=_;rw [vab,vab,zap];omega
  clear hr hb
  by_cases hlt:j<xs.length
  . obtain ⟨b,off,rfl,hbl,c0,c1,c2,_,_,_⟩:=(HD.out.moves (zcm HB.out hB)).gf j hlt
    have HS:Hid (l++(Fx.numB xs.length++(xs.take (j+1)).flatMap fixBy)=(l++(Fx.numB xs.length++(xs.take j).flatMap fixBy))++fixBy xs[j]):=by show _=_;rw [zes fixBy xs j hlt];simp only [vaq]
    skip
    generalize (l++(Fx.numB xs.length++(xs.take j).flatMap fixBy))=lj at *;generalize xs[j]=x at *;go_wp2_with fail;refine (zq5 B _ _ x _ (HR.out.later (al1 _ _)) (by simp;omega) (by have:=HL.out;omega)).mono ?_;rintro e w2 ⟨u2,rfl,h2,b2⟩;have H2:=hid h2;have B2:=hid (HB.out.trans (((al1 _ _).mono (by omega)).trans b2));clear h2 b2;go_wp2_with fail;go_roundw
    case rel=>exact ⟨j+1,by omega,by go_num,by rw [HS.out];exact H2.out,B2.out⟩
    case measure=>simp [intOf];omega
  . obtain rfl:j=xs.length:=by omega
    go_wp2_with fail
    go_returns
    refine ⟨_,rfl,?_,HB.out⟩;have:=HR.out;rw [vaz] at this;exact this
theorem zn1 (B:Nat) (v:Value) (l:L8) (xs:List Int) (a:OA) (cap:Nat) (w:World) (h:Fx.Row B w v l) (hB:B<=w.heap.size) (hD:DAt w (·<B) a xs.length (zk8 xs)) (hl:l.length+8+8*xs.length<=800000) :
 Calls Tryz.prog 93 #[v,.slice a xs.length cap,.func (.func 88) #[] #[]] w fun e w'=>∃ v',e = .returned v'/\(Fx.Row B w' v' (l++listB Fx.numB xs)/\Below B w w'):=by
 have hbd:=hD.bound;have HD:=hid hD
 have HG:Hid (∀ j,((xs.take j).flatMap Fx.numB).length<=8*xs.length):=fun j=>vai (zf1 Fx.numB 8 (xs.take j) (fun x hx=>vcy (zap x))) (vcb _ (by rw [vbb];omega))
 have HN:=hid (ze0 (xs.length:Int) h hB (by omega));clear h hD;go_enter Tryz.func93,Tryz.ntmps93;go_wp2_with fail;refine HN.out.mono ?_;rintro e w1 ⟨u1,rfl,h1,b1,_⟩;have H1:=hid h1;have B1:=hid b1;have hz1:=b1.size;clear h1 b1;go_wp2_with fail
 go_loopw [0,15] (fun u i wr=>∃ j:Nat,j<=xs.length/\i = .int .i64 j/\Fx.Row B wr u (l++(Fx.numB xs.length++(xs.take j).flatMap Fx.numB))/\Below B w wr) (fun _ i _=>xs.length - (intOf i).toNat)
 case atStart=>exact ⟨0,vae _,rfl,by rw [vcg,vco,vbe];exact H1.out,B1.out⟩
 case round=>
  obtain ⟨j,hj,rfl,hr,hb⟩:=hrel;have HR:=hid hr;have HB:=hid hb;have hzr:=hb.size
  have HL:Hid ((l++(Fx.numB xs.length++(xs.take j).flatMap Fx.numB)).length<=800000):=by
   have:=HG.out j;show _<=_;rw [vab,vab,zap];omega
  clear hr hb
  by_cases hlt:j<xs.length
  . obtain ⟨b,off,rfl,hbl,c0,_⟩:=(HD.out.moves (zcm HB.out hB)).num j hlt
    have HS:Hid (l++(Fx.numB xs.length++(xs.take (j+1)).flatMap Fx.numB)=(l++(Fx.numB xs.length++(xs.take j).flatMap Fx.numB))++Fx.numB xs[j]):=by show _=_;rw [zes Fx.numB xs j hlt];simp only [vaq]
    skip
    generalize (l++(Fx.numB xs.length++(xs.take j).flatMap Fx.numB))=lj at *;generalize xs[j]=x at *;go_wp2_with fail;refine (ze0 x HR.out (by omega) (by have:=HL.out;omega)).mono ?_;rintro e w2 ⟨u2,rfl,h2,b2,_⟩;have H2:=hid h2;have B2:=hid (HB.out.trans b2);clear h2 b2;go_wp2_with fail;go_roundw
    case rel=>exact ⟨j+1,by omega,by go_num,by rw [HS.out];exact H2.out,B2.out⟩
    case measure=>simp [intOf];omega
  . obtain rfl:j=xs.length:=by omega
    go_wp2_with fail
    go_returns
    refine ⟨_,rfl,?_,HB.out⟩;have:=HR.out;rw [vaz] at this;exact this
set_option maxHeartbeats 6400000
def objB (o:Ob):L8:=Fx.textB o.name++(listB Fx.textB o.uses++(Fx.numB o.data++(listB instrB o.code++(listB fixBy o.fixes++(listB Fx.numB o.entries++Fx.numB o.main)))))
def wrO (o:Ob):L8 × Int:=if oChk o=0 then (if 32768<(objB o).length then ([],2) else (objB o,0)) else ([],oChk o)
theorem z4q {B:Nat} {w:World} {u:Value} {l:L8} (h:Fx.Row B w u l) (hl:l≠[]):(convert 140 9 u).run Tryz.prog w = .ok (.string (Fx.strOf l)) w:=by
 rcases h.2 with ⟨hv,h0⟩ | ⟨g,cap,cur,hv,hB,hg,_⟩
 . exact absurd (vao h0) hl
 . rw [hv]
   refine Fx.zrg w g cap l (fun j hj=>?_);have:=h.cells (g:=g) (by rw [hv];rfl) j (Fx.zd7 l[j]) (by simp [Fx.bytesV,hj]);rw [show (⟨g,0,none⟩:Addr).add j=⟨g,j,none⟩ from by unfold Addr.add;split<;>simp_all] at this;exact this
theorem z1l {B:Nat} {w:World} {u:Value} {l:L8} (h:Fx.Row B w u l):∃ a cap,u = .slice a l.length cap:=by
 obtain ⟨a,cap,hv,_⟩:=zau h;exact ⟨a,cap,hv⟩
theorem zpf {o:Ob} (h:oChk o=0):zhy o=false/\zd9 o=true/\zd3 o=true/\zea o=true:=by
 unfold oChk at h
 split at h
 . cases h
 . rename_i h1
   split at h
   . rename_i h2
     simp only [vad] at h2;exact ⟨by simpa using h1,h2⟩
   . cases h
theorem zpg {s:ByteArray} (h:Lx.zbx s.data.toList=true):s.size<=8:=by
 unfold Lx.zbx at h;simp only [vad,decide_eq_true_eq] at h;have:=h.1.2;rw [Lx.zat] at this;exact this
theorem z81 {o:Ob} (h:zea o=true):∀ j (hj:j<o.fixes.length),(j:Int)<=o.fixes[j].at_/\o.fixes[j].at_<o.code.length:=by
 intro j
 induction j with
 | zero=>
   intro hj;have:=zbk.1 h 0 hj;unfold zg1 at this;rw [vaj hj] at this;simp only [vad,zbv,decide_eq_true_eq] at this;exact ⟨this.2.1.1,this.2.1.2⟩
 | succ j ih=>
   intro hj;have h1:=ih (by omega);have:=zbk.1 h (j+1) hj;unfold zg1 at this;rw [vaj hj] at this;simp only [vad,zbv,decide_eq_true_eq] at this
   have h2:lastAt o (j+1)=o.fixes[j].at_:=by show (match o.fixes[j]? with | some f=>f.at_ | none=>-1)=_;rw [vaj (by omega)]
   rw [h2] at this;exact ⟨by have:=this.1;omega,this.2.1.2⟩
theorem zgq {o:Ob} (h:oChk o=0):o.name.size<=8/\(∀ s ∈ o.uses,s.size<=8)/\o.uses.length<=3/\o.code.length<=2048/\o.fixes.length<=2048/\o.entries.length<=6:=by
 obtain ⟨h1,h2,h3,h4⟩:=zpf h;unfold zhy at h1;simp only [vay,decide_eq_false_iff_not] at h1;unfold zd9 at h2;rw [vad] at h2;refine ⟨zpg h2.1,fun s hs=>?_,by omega,by omega,?_,by omega⟩
 . obtain ⟨j,hj,rfl⟩:=vbd hs
   have:=zbk.1 h2.2 j hj;unfold zkw at this;rw [vaj hj] at this;simp only [vad] at this;exact zpg this.1
 . rcases vce o.fixes.length with h0 | h0
   . omega
   . have:=z81 h4 (o.fixes.length - 1) (by omega)
     omega
theorem DAt.lower {w:World} {a:OA} {n:Nat} {ds:List D} (h:DAt w Tt a n ds):DAt w (·<w.heap.size) a n ds:=h.moves ⟨vaa _,fun b hb _=>⟨hb,rfl⟩⟩
theorem zkr (o:Ob) (x1:OA) (y1:Nat) (x3:OA) (y3:Nat) (x4:OA) (y4:Nat) (x5:OA) (y5:Nat) (w:World) (hO:OvAt w o x1 x3 x4 x5) (hcp:o.uses.length<=y1) :
 Calls Tryz.prog 35 #[.agg #[.string o.name,.slice x1 o.uses.length y1,.int .i64 o.data,.slice x3 o.code.length y3,.slice x4 o.fixes.length y4,.slice x5 o.entries.length y5,.int .i64 o.main]] w fun e w'=>e = .returned (.tuple #[.string (Fx.strOf (wrO o).1),.int .i64 (wrO o).2])/\Below w.heap.size w w':=by
 have HC:=hid (zg2 o x1 y1 x3 y3 x4 y4 x5 y5 (w.alloc (oC o x1 y1 x3 y3 x4 y4 x5 y5)) (hO.later (al1 _ _)) hcp)
 by_cases h0:oChk o=0
 . obtain ⟨k1,k2,k3,k4,k5,k6⟩:=zgq h0
   have HQ:Hid (wrO o=if 32768<(objB o).length then ([],2) else (objB o,0)):=if_pos h0;rw [h0] at HC;have HO:=hid hO;have HK:=hid k2;clear hO hcp h0 k2;go_enter Tryz.func35,Tryz.ntmps35;go_wp2_with fail;refine HC.out.mono ?_;rintro e w1 ⟨rfl,hb1⟩;have HB1:=hid (thenB (al1 w _) hb1);have HX1:=hid (ze9 (heap_newP w (oC o x1 y1 x3 y3 x4 y4 x5 y5)) hb1);have HO1:=hid (HO.out.later HB1.out);clear hb1 HO;have HU:=hid (HO1.out.uses.lower);have HCo:=hid (HO1.out.code.lower);have HFx:=hid (HO1.out.fixes.lower);have HEn:=hid (HO1.out.entries.lower);have hz1:=zab HX1.out
   have HX:Hid (∀ W,Below w1.heap.size w1 W->W.cell? ⟨w.heap.size,0,none⟩=some (.string o.name)/\W.cell? ⟨w.heap.size,1,none⟩=some (.slice x1 o.uses.length y1)/\W.cell? ⟨w.heap.size,2,none⟩=some (.int .i64 o.data)/\W.cell? ⟨w.heap.size,3,none⟩=some (.slice x3 o.code.length y3)/\W.cell? ⟨w.heap.size,4,none⟩=some (.slice x4 o.fixes.length y4)/\W.cell? ⟨w.heap.size,5,none⟩=some (.slice x5 o.entries.length y5)/\W.cell? ⟨w.heap.size,6,none⟩=some (.int .i64 o.main)/\w.heap.size<W.heap.size):=fun W hW=>by
    have h:=ze9 HX1.out hW;obtain ⟨r0,r1,r2,r3,r4,r5,r6,_⟩:=zaj h;exact ⟨r0,r1,r2,r3,r4,r5,r6,zab h⟩
   obtain ⟨q0,q1,q2,q3,q4,q5,q6,qz⟩:=HX.out w1 (Below.refl _ _);go_wp2_with fail;refine (zwu o.name (Fx.Row.nil w1.heap.size w1) (vaa _) (by simp) (by omega)).mono ?_;rintro e w2 ⟨u2,rfl,h2,b2⟩;have R2:=hid h2;have B2:=hid ((Below.refl w1.heap.size w1).trans b2)
   have N2:Hid (∃ l,l=[]++Fx.textB o.name):=⟨_,rfl⟩
   obtain ⟨l2,e2⟩:=N2.out;rw [← e2] at R2
   have L2:Hid (l2.length<=9):=by
    show _<=_;rw [e2,vab]
    rw [zjm];simp only [vbu];omega
   have E2:=hid e2;have hz2:=b2.size;clear h2 b2 q0 q1 q2 q3 q4 q5 q6 qz e2 N2;obtain ⟨q0,q1,q2,q3,q4,q5,q6,qz⟩:=HX.out w2 B2.out;go_wp2_with fail;refine (zm4 w1.heap.size _ _ o.uses x1 y1 _ R2.out B2.out.size (HU.out.moves (zcm B2.out (vaa _))) (by have:=L2.out;omega) (fun s hs=>by have:=HK.out s hs;omega)).mono ?_;rintro e w3 ⟨u3,rfl,h3,b3⟩;have R3:=hid h3;have B3:=hid (B2.out.trans b3)
   have N3:Hid (∃ l,l=l2++listB Fx.textB o.uses):=⟨_,rfl⟩
   obtain ⟨l3,e3⟩:=N3.out;rw [← e3] at R3
   have L3:Hid (l3.length<=9+(8+3*256)):=by
    show _<=_;rw [e3,vab]
    have h1:=zlj Fx.textB 256 o.uses (fun s hs=>zq9 (by have:=HK.out s hs;omega));have h2:=L2.out;omega
   have E3:=hid e3;have hz3:=b3.size;clear h3 b3 q0 q1 q2 q3 q4 q5 q6 qz e3 N3;obtain ⟨q0,q1,q2,q3,q4,q5,q6,qz⟩:=HX.out w3 B3.out;go_wp2_with fail;refine (ze0 o.data R3.out B3.out.size (by have:=L3.out;omega)).mono ?_;rintro e w4 ⟨u4,rfl,h4,b4,_⟩;have R4:=hid h4;have B4:=hid (B3.out.trans b4)
   have N4:Hid (∃ l,l=l3++Fx.numB o.data):=⟨_,rfl⟩
   obtain ⟨l4,e4⟩:=N4.out;rw [← e4] at R4
   have L4:Hid (l4.length<=9+(8+3*256)+8):=by
    show _<=_;rw [e4,vab]
    rw [zap];have h2:=L3.out;omega
   have E4:=hid e4;have hz4:=b4.size;clear h4 b4 q0 q1 q2 q3 q4 q5 q6 qz e4 N4;obtain ⟨q0,q1,q2,q3,q4,q5,q6,qz⟩:=HX.out w4 B4.out;go_wp2_with fail;refine (zk3 w1.heap.size _ _ o.code x3 y3 _ R4.out B4.out.size (HCo.out.moves (zcm B4.out (vaa _))) (by have:=L4.out;omega)).mono ?_;rintro e w5 ⟨u5,rfl,h5,b5⟩;have R5:=hid h5;have B5:=hid (B4.out.trans b5)
   have N5:Hid (∃ l,l=l4++listB instrB o.code):=⟨_,rfl⟩
   obtain ⟨l5,e5⟩:=N5.out;rw [← e5] at R5
   have L5:Hid (l5.length<=9+(8+3*256)+8+(8+17*2048)):=by
    show _<=_;rw [e5,vab]
    have h1:=zlj instrB 17 o.code (fun x _=>vcy (zkf x));have h2:=L4.out;omega
   have E5:=hid e5;have hz5:=b5.size;clear h5 b5 q0 q1 q2 q3 q4 q5 q6 qz e5 N5;obtain ⟨q0,q1,q2,q3,q4,q5,q6,qz⟩:=HX.out w5 B5.out;go_wp2_with fail;refine (zm5 w1.heap.size _ _ o.fixes x4 y4 _ R5.out B5.out.size (HFx.out.moves (zcm B5.out (vaa _))) (by have:=L5.out;omega)).mono ?_;rintro e w6 ⟨u6,rfl,h6,b6⟩;have R6:=hid h6;have B6:=hid (B5.out.trans b6)
   have N6:Hid (∃ l,l=l5++listB fixBy o.fixes):=⟨_,rfl⟩
   obtain ⟨l6,e6⟩:=N6.out;rw [← e6] at R6
   have L6:Hid (l6.length<=9+(8+3*256)+8+2*(8+17*2048)):=by
    show _<=_;rw [e6,vab]
    have h1:=zlj fixBy 17 o.fixes (fun x _=>vcy (zm3 x));have h2:=L5.out;omega
   have E6:=hid e6;have hz6:=b6.size;clear h6 b6 q0 q1 q2 q3 q4 q5 q6 qz e6 N6;obtain ⟨q0,q1,q2,q3,q4,q5,q6,qz⟩:=HX.out w6 B6.out;go_wp2_with fail;refine (zn1 w1.heap.size _ _ o.entries x5 y5 _ R6.out B6.out.size (HEn.out.moves (zcm B6.out (vaa _))) (by have:=L6.out;omega)).mono ?_;rintro e w7 ⟨u7,rfl,h7,b7⟩;have R7:=hid h7;have B7:=hid (B6.out.trans b7)
   have N7:Hid (∃ l,l=l6++listB Fx.numB o.entries):=⟨_,rfl⟩
   obtain ⟨l7,e7⟩:=N7.out;rw [← e7] at R7
   have L7:Hid (l7.length<=9+(8+3*256)+8+2*(8+17*2048)+(8+8*6)):=by
    show _<=_;rw [e7,vab]
    have h1:=zlj Fx.numB 8 o.entries (fun x _=>vcy (zap x));have h2:=L6.out;omega
   have E7:=hid e7;have hz7:=b7.size;clear h7 b7 q0 q1 q2 q3 q4 q5 q6 qz e7 N7;obtain ⟨q0,q1,q2,q3,q4,q5,q6,qz⟩:=HX.out w7 B7.out;go_wp2_with fail;refine (ze0 o.main R7.out B7.out.size (by have:=L7.out;omega)).mono ?_;rintro e w8 ⟨u8,rfl,h8,b8,_⟩;have R8:=hid h8;have B8:=hid (B7.out.trans b8)
   have N8:Hid (∃ l,l=l7++Fx.numB o.main):=⟨_,rfl⟩
   obtain ⟨l8,e8⟩:=N8.out;rw [← e8] at R8
   have L8:Hid (l8.length<=9+(8+3*256)+8+2*(8+17*2048)+(8+8*6)+8):=by
    show _<=_;rw [e8,vab]
    rw [zap];have h2:=L7.out;omega
   have E8:=hid e8;have hz8:=b8.size;clear h8 b8 q0 q1 q2 q3 q4 q5 q6 qz e8 N8;obtain ⟨q0,q1,q2,q3,q4,q5,q6,qz⟩:=HX.out w8 B8.out
   have HE:Hid (l8=objB o):=by
    show _=_;rw [E8.out,E7.out,E6.out,E5.out,E4.out,E3.out,E2.out];unfold objB;simp only [vcw,vaq]
   have hcv:=z4q R8.out (by rw [E8.out];simp [Fx.numB]);obtain ⟨a8,c8,rfl⟩:=z1l R8.out;have hlb:=L8.out;have HB8:=hid (thenB HB1.out B8.out);clear q0 q1 q2 q3 q4 q5 q6 qz;rw [← HE.out] at HQ
   by_cases hc:32768<l8.length
   . rw [if_pos hc] at HQ
     have hc':(32768:Int)<l8.length:=by omega
     go_wp2_with fail;go_ret2;exact ⟨by rw [HQ.out];rfl,HB8.out⟩
   . rw [if_neg hc] at HQ
     have hc':¬ (32768:Int)<l8.length:=by omega
     go_wp2_with fail;go_ret2;exact ⟨by rw [HQ.out];first | done | rfl,HB8.out⟩
 . have HQ:Hid (wrO o=([],oChk o)):=if_neg h0
   have hb0:(oChk o != 0)=true:=by rw [bne_iff_ne];exact h0
   clear hO hcp h0;generalize oChk o=E at *;go_enter Tryz.func35,Tryz.ntmps35;go_wp2_with fail;refine HC.out.mono ?_;rintro e w1 ⟨rfl,hb1⟩;have HB1:=hid (thenB (al1 w _) hb1);clear hb1;go_wp2_with fail;go_ret2;exact ⟨by rw [HQ.out];rfl,HB1.out⟩
end Go.Proofs.YtndkhgakfodldaaGreatDoor
