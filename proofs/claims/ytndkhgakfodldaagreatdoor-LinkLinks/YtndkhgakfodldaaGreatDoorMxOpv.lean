import Derived.Test.YtndkhgakfodldaaGreatDoorMxOpt
import Derived.Deep.RegionLaw
namespace Go.Proofs.YtndkhgakfodldaaGreatDoor
set_option maxRecDepth 100000
set_option maxHeartbeats 800000
theorem fB{P:Prop}(h:P:=by
 clear HF;go_enter Tryz.func230,Tryz.ntmps230;go_wp2_with fail;refine (zb9 _ _ _ aO).mono ?_;rintro e w' ⟨rfl,rfl⟩;go_wp2_with fail;refine (zb9 _ _ _ aO).mono ?_;rintro e w' ⟨rfl,rfl⟩;go_wp2_with fail
 go_region_law (first
  | (refine zfe aI _ _ _ _ aI _ _ aI aI (Bj.out _ (HA.out.drew.later hb HA.out.hB)) ?_;intro a' cap' w2 hG;obtain ⟨g2,g3,g4,g5,g6,Cb⟩:=HL.out w1 hb a' cap' w2 hG;clear hG)
  | (refine step_call1 aI 276 _ _ aI z9z _ ak _ (HT.out _ HA.out.drew) ?_;intro w1 hb;have d2:=(hb.cell (p:=⟨R,2,none⟩) Bo).trans c2;have d3:=(hb.cell (p:=⟨R,3,none⟩) Bo).trans c3))
 all_goals
  go_wp2_with (at_builtin;refine zef rfl _ _ _ _ rfl _ _ rfl rfl (HZ.out _ _ _ a' cap' _ Cb.out rfl) ?_;intro a2 Bg w4 hG;obtain ⟨k2,k3,k4,k5,k6,FD⟩:=HQ.out _ _ _ _ Cb.out _ _ _ hG;clear hG)
  go_returns
  exact ⟨rfl,FD.out⟩):P:=h
namespace Mx
open Go.RowKit
theorem z59 (w:World) (x y:Value) (t:TypeId):∀ j u,[x,y][j]? = some u->(w.alloc (.cells #[x,y] t)).cell? ((⟨w.heap.size,0,none⟩:Addr).add j)=some u:=
 World.news_of_block (cs:=#[x,y]) (_root_.Go.heap_alloc_new w (.cells #[x,y] t))
theorem z2p (B R:Nat) (c:Mc.Cfg) (w0:World) (s:Mc.St) (to:Int) (w:World) (h:Mch B R c w0 w s) :
 Calls Tryz.prog 229 #[.pointer (some ⟨R,0,none⟩),.int .i64 to] w (zas B R c w0 (Mc.call c.mt to s) za7):=by
 have HM:Hid (Mch B R c w0 w s):=h;clear h;obtain ⟨i0,hi,Bx,Ao,Ay⟩:=info_parts z79;go_enter Tryz.func229,Tryz.ntmps229;go_wp2_with fail;refine (tick_any B R c w0 s _ HM.out).mono ?_;intro e w1 he
 rcases he.parts with ⟨_,s1,HR,rfl,Hm⟩ | ⟨s1,HR,rfl,Hm⟩<;>clear he<;>simp only [za7]
 . have HP:Hid (Mc.call c.mt to s=if 24<s1.gs.length+1 then Mc.halt 4 s1 else .ok () { s1 with gs:=s1.gs++[(s1.lo,s1.bk)],lo:=[],bk:=s1.pc,pc:=to }):=bind_ok _ HR.out
   clear HR HM;obtain ⟨T,⟨cv,st,lo,fr,da,iv,ou⟩,h⟩:=Hm.out;obtain ⟨g,cap,hv,AJ,hmax,hBg,H9,E6,Dc,hcell⟩:=h.fr.place ag;simp only at hv;subst hv;obtain ⟨la,B8,hv,hlcap,hlmax⟩:=h.lo.form;simp only at hv;subst hv;have HA:Hid (MAt B R c w0 w1 T ⟨cv,st,.slice la (flat s1.gs++s1.lo).length B8,.slice (some ⟨g,0,none⟩) (s1.gs.length+1) cap,da,iv,ou⟩ s1):=h;obtain ⟨-,c1, -,c3,c4, -, -, -, -, -, -, -,D6,hf⟩:=h.cell;simp only at c3 c4;have Fi:=h.bgs;have LN:=h.locals_le;have Bo:=h.ltR;unfold maxLen at hmax hlmax;clear h hcell
   by_cases hd:24<s1.gs.length+1
   . have BQ:Hid (Mc.call c.mt to s = .stop { s1 with en:=4 }):=HP.out.trans (if_pos hd)
     generalize s1.gs.length=k at *;go_wp2_with fail;refine (zig 4 _ Hm.out).mono ?_;exact ju
   . have BQ:Hid (Mc.call c.mt to s = .ok () { s1 with gs:=s1.gs++[(s1.lo,s1.bk)],lo:=[],bk:=s1.pc,pc:=to }):=HP.out.trans (if_neg hd)
     clear HP;generalize hk:s1.gs.length=k at *;have HK:=hid hk;generalize hn:(flat s1.gs++s1.lo).length=n at *;have HN:=hid hn;clear hk hn;go_wp2_with fail
     have Ag:∀ o,(w1.drew.alloc o).ownsRow B 231 2 (.slice (some ⟨g,0,none⟩) (k+1) cap) (k+1) (cF 0 (s1.gs++[(s1.lo,s1.bk)])):=fun o=>by
      have:=(HA.out.drew.alloc o).fr.own;rw [HK.out] at this;exact this
     have HL:Hid (∀ (g2 Bg:Nat) (o:Obj) (w2:World),(w1.drew.alloc o).grownBy w2 (Value.ownBlock (.slice (some ⟨g,0,none⟩) (k+1) cap))->w2.ownsRow B 231 2 (.slice (some ⟨g2,0,none⟩) (k+1+1) Bg) (k+1+1) (cF 0 (s1.gs++[(s1.lo,s1.bk)])++[.int .i64 n,.int .i64 s1.pc])->(Value.ownBlock (.slice (some ⟨g,0,none⟩) (k+1) cap)=some g2\/g2=w1.heap.size+1)->
      MAt B R c w0 ((w2.setCell ⟨R,4,none⟩ (.slice (some ⟨g2,0,none⟩) (k+1+1) Bg)).setCell ⟨R,1,none⟩ (.int .i64 to)) (zgb (w1.drew.alloc o) T 4) ⟨cv,st,.slice la n B8,.slice (some ⟨g2,0,none⟩) (k+1+1) Bg,da,iv,ou⟩ { s1 with gs:=s1.gs++[(s1.lo,s1.bk)],lo:=[],bk:=s1.pc,pc:=to }):=fun g2 Bg o w2 hg ho ht=>by
      have hb:=HA.out.blo;have LR:=HA.out.bfr;refine ((HA.out.drew.alloc o).setFr (gs:=s1.gs++[(s1.lo,s1.bk)]) (l:=[]) (b:=s1.pc) hg ?_ (fun j e hj=>zs6 (H:=w1.heap.size+1) ht j e (by simpa using hj)) aB (by rw [len_snoc,HK.out];omega) ?_ (by rw [zlh,List.append_nil])).setPc to
      . rw [len_snoc,HK.out,zjc,zlh,Nat.zero_add,HN.out]
        exact ho
      . intro f hf
        rcases List.mem_append.1 hf with h | h
        . exact LR f h
        . rw [List.mem_singleton.1 h];exact hb
     have El:=hid Ag;clear Ag
     go_region_law (refine step_append_lies _ aI _ _ _ aI B 231 i0 _ 2 16 Tryz.underlying166 hi Bx Ao Ay rfl ag (.slice (some ⟨g,0,none⟩) (k+1) cap) (k+1) (cF 0 (s1.gs++[(s1.lo,s1.bk)])) aI (El.out _) ⟨w1.heap.size,0,none⟩ 1 1 [.int .i64 n,.int .i64 s1.pc] aI aI (z59 _ _ _ _) (by simp;exact ⟨rfl,rfl⟩) ag aQ ag (by have:=HA.out.hB;simp;omega) (w1.heap.size+1) aB ?_;intro g2 Bg w2 hown1 hg AH CA;obtain ⟨fc,ff,fl⟩:=(HA.out.drew.alloc _).far (fun k e=>HA.out.fr.mark k e) aw hg;have UE:=(fc 4).trans (HA.out.drew.alloc _).cell.2.2.2.2.1;have UA:=ff 4;have UG:=(fc 1).trans (HA.out.drew.alloc _).cell.2.1;have UC:=ff 1;have HO:=hid hown1;have HG:=hid hg;have HT:=hid AH;clear hown1 hg AH fc ff)
     all_goals
      go_wp2_with fail
      go_returns
      exact zas.ok BQ.out rfl ⟨_,_,HL.out g2 Bg _ w2 HG.out HO.out HT.out⟩
 . exact jJ
end Mx
namespace Mx
open Go.RowKit
theorem MAt.cutFrame {B R:Nat} {c:Mc.Cfg} {w0 w:World} {T:Nat->Nat} {v:Vs} {s:Mc.St} {hs:List (List Int × Int)} {f:List Int × Int} {fa la:Option Addr} {fc lc:Nat} (h:MAt B R c w0 w T v s) (Fi:s.gs=hs++[f])
 (hf:v.fr = .slice fa (s.gs.length+1) fc) (hl:v.lo = .slice la (flat s.gs++s.lo).length lc) :
 MAt B R c w0 (((w.setCell ⟨R,4,none⟩ (.slice fa (hs.length+1) fc)).setCell ⟨R,3,none⟩ (.slice la (flat s.gs).length lc)).setCell ⟨R,1,none⟩ (.int .i64 s.bk)) T { v with fr:=.slice fa (hs.length+1) fc,lo:=.slice la (flat s.gs).length lc } { s with gs:=hs,lo:=f.1,bk:=f.2,pc:=s.bk }:=by
 have hk:∀ m,m≠1->∀ k,k<w.heap.size->T k=m->(((w.setCell ⟨R,4,none⟩ (.slice fa (hs.length+1) fc)).setCell ⟨R,3,none⟩ (.slice la (flat s.gs).length lc)).setCell ⟨R,1,none⟩ (.int .i64 s.bk)).heap[k]? = w.heap[k]?:=fun m hm k _ e=>by
  have Ai:k≠R:=fun e'=>dS
  rw [Below.heap_setCell _ _ _ k Ai,Below.heap_setCell _ _ _ k Ai,Below.heap_setCell _ _ _ k Ai]
 have Kk:flat hs++f.1=flat s.gs:=by rw [Fi,zlh]
 have Ah:s.gs.length=hs.length+1:=by rw [Fi,len_snoc]
 have LV:=h.bgs
 exact { h with
  blk:=by rw [heap_set (heap_set (heap_set h.blk _) _) _];rfl
  st:=h.st.keep (hk 2 aw) (fun _ _ e=>e)
  lo:=by
   have h1:=(h.lo.cut (m:=(flat s.gs).length) eI hl).keep (hk 3 aw) (fun _ _ e=>e);rw [Nat.mul_one,zie,List.take_left] at h1;rw [Kk];exact h1
  fr:=by
   have h1:=(h.fr.cut (m:=hs.length+1) ag hf).keep (hk 4 aw) (fun _ _ e=>e)
   have e:(cF 0 (s.gs++[(s.lo,s.bk)])).take ((hs.length+1)*2)=cF 0 (hs++[f]):=by rw [← Ah,z56,Fi]
   rw [e] at h1;exact h1
  da:=h.da.keep (hk 5 aw) (fun _ _ e=>e)
  ou:=h.ou.keep (hk 6 aw) (fun _ _ e=>e)
  below:=((h.below.setCell (p:=⟨R,4,none⟩) h.hR _).setCell (p:=⟨R,3,none⟩) h.hR _).setCell (p:=⟨R,1,none⟩) h.hR _
  bgs:=by show hs.length<=24;omega
  bfr:=fun g hg=>h.bfr g (by rw [Fi];exact List.mem_append.2 (Or.inl hg))
  blo:=h.bfr f (by rw [Fi];exact List.mem_append.2 (Or.inr (List.mem_singleton.2 rfl))) }
theorem z6a (B R:Nat) (c:Mc.Cfg) (w0:World) (s:Mc.St) (w:World) (h:Mch B R c w0 w s) :
 Calls Tryz.prog 231 #[.pointer (some ⟨R,0,none⟩)] w (zas B R c w0 (Mc.ret s) za7):=by
 have HM:Hid (Mch B R c w0 w s):=h;obtain ⟨T,⟨cv,st,lo,fr,da,iv,ou⟩,h⟩:=h;obtain ⟨g,cap,hv,AJ,hmax,hBg,H9,E6,Dc,hcell⟩:=h.fr.place ag;simp only at hv;subst hv;obtain ⟨la,B8,hv,hlcap,hlmax⟩:=h.lo.form;simp only at hv;subst hv;have HA:Hid (MAt B R c w0 w T ⟨cv,st,.slice la (flat s.gs++s.lo).length B8,.slice (some ⟨g,0,none⟩) (s.gs.length+1) cap,da,iv,ou⟩ s):=h;have HT:Hid (Calls Tryz.prog 276 #[.pointer (some ⟨R,0,none⟩)] w fun e w'=>e = .returned (.agg #[.int .i64 ((flat s.gs).length:Nat),.int .i64 s.bk])/\Below w.heap.size w w'):=zs7 B R c w0 s w T _ h;have Fi:=h.bgs;have LN:=h.locals_le;have Bo:=h.ltR;obtain ⟨-,c1, -,c3,c4, -, -, -, -, -, -, -, -,hf⟩:=h.cell;simp only at c3 c4;unfold maxLen at hmax hlmax;clear hcell h
 cases hl:s.gs.getLast? with
 | none=>
   have HP:Hid (Mc.ret s = .stop { s with en:=6 }):=by show Mc.ret s=_;unfold Mc.ret;rw [hl];rfl
   have h0:s.gs.length=0:=by rw [List.getLast?_eq_none_iff.1 hl];rfl
   rw [h0] at c4;clear hl h0 HA HT;go_enter Tryz.func231,Tryz.ntmps231;go_wp2_with fail;refine (zc1 _ _ (by first | rfl | (simp;done) | (simp;omega)) HM.out).mono ?_;exact fU
 | some f=>
   have HP:Hid (Mc.ret s = .ok () { s with gs:=s.gs.dropLast,lo:=f.1,bk:=f.2,pc:=s.bk }):=by show Mc.ret s=_;unfold Mc.ret;rw [hl]
   have HG:Hid (s.gs=s.gs.dropLast++[f]):=by
    show s.gs=_;obtain ⟨ys,e⟩:=List.getLast?_eq_some_iff.1 hl;rw [e,List.dropLast_concat]
   generalize hk:s.gs.dropLast.length=k at *
   have CK:s.gs.length=k+1:=by rw [HG.out,len_snoc,hk]
   have HK:=hid hk;have AL:=hid CK;rw [CK] at c4 AJ Fi;generalize hm:(flat s.gs).length=m at *;have Ml:=hid hm
   have hn:(flat s.gs++s.lo).length=m+s.lo.length:=by rw [List.length_append,hm]
   rw [hn] at c3 hlcap LN;generalize s.lo.length=n at *;have HN:=hid hn;clear hl hk CK hm hn;go_enter Tryz.func231,Tryz.ntmps231;go_wp2_with fail;refine (zb9 _ _ _ aO).mono ?_;rintro e w' ⟨rfl,rfl⟩;go_wp2_with fail;refine HT.out.mono ?_;rintro e w1 ⟨rfl,hb⟩;have d1:=(hb.cell (p:=⟨R,1,none⟩) Bo).trans c1;have d3:=(hb.cell (p:=⟨R,3,none⟩) Bo).trans c3;have d4:=(hb.cell (p:=⟨R,4,none⟩) Bo).trans c4;have e1:=(hb.frozen (p:=⟨R,1,none⟩) Bo).trans (hf 1);have e3:=(hb.frozen (p:=⟨R,3,none⟩) Bo).trans (hf 3);have e4:=(hb.frozen (p:=⟨R,4,none⟩) Bo).trans (hf 4);have hz:=hb.size
   have S9:R<w1.heap.size:=ag
   have Ai:=(Nat.ne_of_lt S9)
   go_wp2_with fail
   go_region
   go_wp2_with fail
   go_region
   go_wp2_with fail
   go_returns
   have h1:=(HA.out.later hb HA.out.hB).cutFrame HG.out rfl rfl;rw [HK.out,Ml.out] at h1;exact zas.ok HP.out rfl ⟨_,_,((h1.alloc _).drew).drew⟩
end Mx
end Go.Proofs.YtndkhgakfodldaaGreatDoor
