import Derived.Test.YtndkhgakfodldaaGreatDoorMxOpt
import Derived.Deep.RegionLaw
namespace Go.Proofs.YtndkhgakfodldaaGreatDoor
set_option maxRecDepth 100000
set_option maxHeartbeats 800000
namespace Mx
open Go.RowKit
theorem z3o (w:World) (x y:Value) (t:TypeId):∀ j u,[x,y][j]? = some u->(w.alloc (.cells #[x,y] t)).cell? ((⟨w.heap.size,0,none⟩:Addr).add j)=some u:=
 World.news_of_block (cs:=#[x,y]) (_root_.Go.heap_alloc_new w (.cells #[x,y] t))
theorem z0b (B R:Nat) (c:Mc.Cfg) (w0:World) (s:Mc.St) (to:Int) (w:World) (h:Mch B R c w0 w s) :
 Calls Tryz.prog 229 #[.pointer (some ⟨R,0,none⟩),.int .i64 to] w (zap B R c w0 (Mc.call c.mt to s) za3):=by
 have HM:Hid (Mch B R c w0 w s):=h;clear h;obtain ⟨i0,hi,Bs,Ao,AA⟩:=info_parts z5t;go_enter Tryz.func229,Tryz.ntmps229;go_wp2_with fail;refine (tick_any B R c w0 s _ HM.out).mono ?_;intro e w1 he
 rcases he.parts with ⟨_,s1,HR,rfl,Hm⟩ | ⟨s1,HR,rfl,Hm⟩<;>clear he<;>simp only [za3]
 . have HP:Hid (Mc.call c.mt to s=if 24<s1.gs.length+1 then Mc.halt 4 s1 else .ok () { s1 with gs:=s1.gs++[(s1.lo,s1.bk)],lo:=[],bk:=s1.pc,pc:=to }):=bind_ok _ HR.out
   clear HR HM;obtain ⟨T,⟨cv,st,lo,fr,da,iv,ou⟩,h⟩:=Hm.out;obtain ⟨g,cap,hv,AG,hmax,hBg,G1,Dx,CS,hcell⟩:=h.fr.place (by omega);simp only at hv;subst hv;obtain ⟨la,B3,hv,hlcap,hlmax⟩:=h.lo.form;simp only at hv;subst hv;have HA:Hid (MAt B R c w0 w1 T ⟨cv,st,.slice la (flat s1.gs++s1.lo).length B3,.slice (some ⟨g,0,none⟩) (s1.gs.length+1) cap,da,iv,ou⟩ s1):=h;obtain ⟨-,c1, -,c3,c4, -, -, -, -, -, -, -,CP,hf⟩:=h.cell;simp only at c3 c4;have EE:=h.bgs;have KI:=h.locals_le;have Bk:=h.ltR;unfold maxLen at hmax hlmax;clear h hcell
   by_cases hd:24<s1.gs.length+1
   . have BM:Hid (Mc.call c.mt to s = .stop { s1 with en:=4 }):=HP.out.trans (if_pos hd)
     generalize s1.gs.length=k at *;go_wp2_with fail;refine (zg6 4 _ Hm.out).mono ?_;rintro e w2 ⟨rfl,hm⟩;go_wp2_with fail;exact ⟨rfl,zap.stop BM.out rfl hm⟩
   . have BM:Hid (Mc.call c.mt to s = .ok () { s1 with gs:=s1.gs++[(s1.lo,s1.bk)],lo:=[],bk:=s1.pc,pc:=to }):=HP.out.trans (if_neg hd)
     clear HP;generalize hk:s1.gs.length=k at *;have HK:=hid hk;generalize hn:(flat s1.gs++s1.lo).length=n at *;have HN:=hid hn;clear hk hn;go_wp2_with fail
     have Ag:∀ o,(w1.drew.alloc o).ownsRow B 231 2 (.slice (some ⟨g,0,none⟩) (k+1) cap) (k+1) (cF 0 (s1.gs++[(s1.lo,s1.bk)])):=fun o=>by
      have:=(HA.out.drew.alloc o).fr.own;rw [HK.out] at this;exact this
     have HL:Hid (∀ (g2 Bb:Nat) (o:Obj) (w2:World),(w1.drew.alloc o).grownBy w2 (Value.ownBlock (.slice (some ⟨g,0,none⟩) (k+1) cap))->w2.ownsRow B 231 2 (.slice (some ⟨g2,0,none⟩) (k+1+1) Bb) (k+1+1) (cF 0 (s1.gs++[(s1.lo,s1.bk)])++[.int .i64 n,.int .i64 s1.pc])->(Value.ownBlock (.slice (some ⟨g,0,none⟩) (k+1) cap)=some g2\/g2=w1.heap.size+1)->
      MAt B R c w0 ((w2.setCell ⟨R,4,none⟩ (.slice (some ⟨g2,0,none⟩) (k+1+1) Bb)).setCell ⟨R,1,none⟩ (.int .i64 to)) (zfh (w1.drew.alloc o) T 4) ⟨cv,st,.slice la n B3,.slice (some ⟨g2,0,none⟩) (k+1+1) Bb,da,iv,ou⟩ { s1 with gs:=s1.gs++[(s1.lo,s1.bk)],lo:=[],bk:=s1.pc,pc:=to }):=fun g2 Bb o w2 hg ho ht=>by
      have hb:=HA.out.blo;have KN:=HA.out.bfr;refine ((HA.out.drew.alloc o).setFr (gs:=s1.gs++[(s1.lo,s1.bk)]) (l:=[]) (b:=s1.pc) hg ?_ (fun j e hj=>zq8 (H:=w1.heap.size+1) ht j e (by simpa using hj)) (by simp) (by rw [len_snoc,HK.out];omega) ?_ (by rw [zjy,List.append_nil])).setPc to
      . rw [len_snoc,HK.out,zhz,zjy,Nat.zero_add,HN.out]
        exact ho
      . intro f hf
        rcases List.mem_append.1 hf with h | h
        . exact KN f h
        . rw [List.mem_singleton.1 h];exact hb
     have DM:=hid Ag;clear Ag
     go_region_law (refine step_append_lies _ (by rfl) _ _ _ (by rfl) B 231 i0 _ 2 16 Tryz.underlying166 hi Bs Ao AA rfl (by omega) (.slice (some ⟨g,0,none⟩) (k+1) cap) (k+1) (cF 0 (s1.gs++[(s1.lo,s1.bk)])) (by rfl) (DM.out _) ⟨w1.heap.size,0,none⟩ 1 1 [.int .i64 n,.int .i64 s1.pc] (by rfl) (by rfl) (z3o _ _ _ _) (by simp;exact ⟨rfl,rfl⟩) (by omega) (by unfold maxLen;omega) (by omega) (by have:=HA.out.hB;simp;omega) (w1.heap.size+1) (by simp) ?_;intro g2 Bb w2 hown1 hg AF CL;obtain ⟨fc,ff,fl⟩:=(HA.out.drew.alloc _).far (fun k e=>HA.out.fr.mark k e) (by decide) hg;have TC:=(fc 4).trans (HA.out.drew.alloc _).cell.2.2.2.2.1;have Ty:=ff 4;have TE:=(fc 1).trans (HA.out.drew.alloc _).cell.2.1;have TA:=ff 1;have HO:=hid hown1;have HG:=hid hg;have HT:=hid AF;clear hown1 hg AF fc ff)
     all_goals
      go_wp2_with fail
      go_returns
      exact zap.ok BM.out rfl ⟨_,_,HL.out g2 Bb _ w2 HG.out HO.out HT.out⟩
 . go_wp2_with fail
   exact ⟨rfl,zap.of_stop (za6 _ HR.out) Hm.out⟩
end Mx
namespace Mx
open Go.RowKit
theorem MAt.cutFrame {B R:Nat} {c:Mc.Cfg} {w0 w:World} {T:Nat->Nat} {v:Vs} {s:Mc.St} {hs:List (List Int × Int)} {f:List Int × Int} {fa la:Option Addr} {fc lc:Nat} (h:MAt B R c w0 w T v s) (EE:s.gs=hs++[f])
 (hf:v.fr = .slice fa (s.gs.length+1) fc) (hl:v.lo = .slice la (flat s.gs++s.lo).length lc) :
 MAt B R c w0 (((w.setCell ⟨R,4,none⟩ (.slice fa (hs.length+1) fc)).setCell ⟨R,3,none⟩ (.slice la (flat s.gs).length lc)).setCell ⟨R,1,none⟩ (.int .i64 s.bk)) T { v with fr:=.slice fa (hs.length+1) fc,lo:=.slice la (flat s.gs).length lc } { s with gs:=hs,lo:=f.1,bk:=f.2,pc:=s.bk }:=by
 have hk:∀ m,m≠1->∀ k,k<w.heap.size->T k=m->(((w.setCell ⟨R,4,none⟩ (.slice fa (hs.length+1) fc)).setCell ⟨R,3,none⟩ (.slice la (flat s.gs).length lc)).setCell ⟨R,1,none⟩ (.int .i64 s.bk)).heap[k]? = w.heap[k]?:=fun m hm k _ e=>by
  have Aj:k≠R:=fun e'=>by subst e';exact hm (e.symm.trans h.tR)
  rw [Below.heap_setCell _ _ _ k Aj,Below.heap_setCell _ _ _ k Aj,Below.heap_setCell _ _ _ k Aj]
 have Jo:flat hs++f.1=flat s.gs:=by rw [EE,zjy]
 have Ai:s.gs.length=hs.length+1:=by rw [EE,len_snoc]
 have KR:=h.bgs
 exact { h with
  blk:=by rw [heap_set (heap_set (heap_set h.blk _) _) _];rfl
  st:=h.st.keep (hk 2 (by decide)) (fun _ _ e=>e)
  lo:=by
   have h1:=(h.lo.cut (m:=(flat s.gs).length) (by rw [List.length_append];omega) hl).keep (hk 3 (by decide)) (fun _ _ e=>e);rw [Nat.mul_one,zg4,List.take_left] at h1;rw [Jo];exact h1
  fr:=by
   have h1:=(h.fr.cut (m:=hs.length+1) (by omega) hf).keep (hk 4 (by decide)) (fun _ _ e=>e)
   have e:(cF 0 (s.gs++[(s.lo,s.bk)])).take ((hs.length+1)*2)=cF 0 (hs++[f]):=by rw [← Ai,z3l,EE]
   rw [e] at h1;exact h1
  da:=h.da.keep (hk 5 (by decide)) (fun _ _ e=>e)
  ou:=h.ou.keep (hk 6 (by decide)) (fun _ _ e=>e)
  below:=((h.below.setCell (p:=⟨R,4,none⟩) h.hR _).setCell (p:=⟨R,3,none⟩) h.hR _).setCell (p:=⟨R,1,none⟩) h.hR _
  bgs:=by show hs.length<=24;omega
  bfr:=fun g hg=>h.bfr g (by rw [EE];exact List.mem_append.2 (Or.inl hg))
  blo:=h.bfr f (by rw [EE];exact List.mem_append.2 (Or.inr (List.mem_singleton.2 rfl))) }
theorem z3p (B R:Nat) (c:Mc.Cfg) (w0:World) (s:Mc.St) (w:World) (h:Mch B R c w0 w s) :
 Calls Tryz.prog 231 #[.pointer (some ⟨R,0,none⟩)] w (zap B R c w0 (Mc.ret s) za3):=by
 have HM:Hid (Mch B R c w0 w s):=h;obtain ⟨T,⟨cv,st,lo,fr,da,iv,ou⟩,h⟩:=h;obtain ⟨g,cap,hv,AG,hmax,hBg,G1,Dx,CS,hcell⟩:=h.fr.place (by omega);simp only at hv;subst hv;obtain ⟨la,B3,hv,hlcap,hlmax⟩:=h.lo.form;simp only at hv;subst hv;have HA:Hid (MAt B R c w0 w T ⟨cv,st,.slice la (flat s.gs++s.lo).length B3,.slice (some ⟨g,0,none⟩) (s.gs.length+1) cap,da,iv,ou⟩ s):=h;have HT:Hid (Calls Tryz.prog 276 #[.pointer (some ⟨R,0,none⟩)] w fun e w'=>e = .returned (.agg #[.int .i64 ((flat s.gs).length:Nat),.int .i64 s.bk])/\Below w.heap.size w w'):=zq9 B R c w0 s w T _ h;have EE:=h.bgs;have KI:=h.locals_le;have Bk:=h.ltR;obtain ⟨-,c1, -,c3,c4, -, -, -, -, -, -, -, -,hf⟩:=h.cell;simp only at c3 c4;unfold maxLen at hmax hlmax;clear hcell h
 cases hl:s.gs.getLast? with
 | none=>
   have HP:Hid (Mc.ret s = .stop { s with en:=6 }):=by show Mc.ret s=_;unfold Mc.ret;rw [hl];rfl
   have h0:s.gs.length=0:=by rw [List.getLast?_eq_none_iff.1 hl];rfl
   rw [h0] at c4;clear hl h0 HA HT;go_enter Tryz.func231,Tryz.ntmps231;go_wp2_with fail;refine (zcn _ _ (by first | rfl | (simp;done) | (simp;omega)) HM.out).mono ?_;rintro e w2 ⟨rfl,hm⟩;go_wp2_with fail;exact ⟨rfl,zap.stop HP.out rfl hm⟩
 | some f=>
   have HP:Hid (Mc.ret s = .ok () { s with gs:=s.gs.dropLast,lo:=f.1,bk:=f.2,pc:=s.bk }):=by show Mc.ret s=_;unfold Mc.ret;rw [hl]
   have HG:Hid (s.gs=s.gs.dropLast++[f]):=by
    show s.gs=_;obtain ⟨ys,e⟩:=List.getLast?_eq_some_iff.1 hl;rw [e,List.dropLast_concat]
   generalize hk:s.gs.dropLast.length=k at *
   have CA:s.gs.length=k+1:=by rw [HG.out,len_snoc,hk]
   have HK:=hid hk;have AJ:=hid CA;rw [CA] at c4 AG EE;generalize hm:(flat s.gs).length=m at *;have Lh:=hid hm
   have hn:(flat s.gs++s.lo).length=m+s.lo.length:=by rw [List.length_append,hm]
   rw [hn] at c3 hlcap KI;generalize s.lo.length=n at *;have HN:=hid hn;clear hl hk CA hm hn;go_enter Tryz.func231,Tryz.ntmps231;go_wp2_with fail;refine (zbx _ _ _ (by first | (simp;done) | (simp;omega))).mono ?_;rintro e w' ⟨rfl,rfl⟩;go_wp2_with fail;refine HT.out.mono ?_;rintro e w1 ⟨rfl,hb⟩;have d1:=(hb.cell (p:=⟨R,1,none⟩) Bk).trans c1;have d3:=(hb.cell (p:=⟨R,3,none⟩) Bk).trans c3;have d4:=(hb.cell (p:=⟨R,4,none⟩) Bk).trans c4;have e1:=(hb.frozen (p:=⟨R,1,none⟩) Bk).trans (hf 1);have e3:=(hb.frozen (p:=⟨R,3,none⟩) Bk).trans (hf 3);have e4:=(hb.frozen (p:=⟨R,4,none⟩) Bk).trans (hf 4);have hz:=hb.size
   have QS:R<w1.heap.size:=by omega
   have Aj:=(Nat.ne_of_lt QS)
   go_wp2_with fail
   go_region
   go_wp2_with fail
   go_region
   go_wp2_with fail
   go_returns
   have h1:=(HA.out.later hb HA.out.hB).cutFrame HG.out rfl rfl;rw [HK.out,Lh.out] at h1;exact zap.ok HP.out rfl ⟨_,_,((h1.alloc _).drew).drew⟩
end Mx
end Go.Proofs.YtndkhgakfodldaaGreatDoor
