import Derived.Test.YtndkhgakfodldaaGreatDoorMxOpt
import Derived.Deep.RegionLaw
set_option maxRecDepth 100000
set_option maxHeartbeats 800000
open Go.Proofs.Tryz
namespace Go.Proofs.YtndkhgakfodldaaGreatDoor
theorem Qq{P:Prop}(h:P:=by
 clear aD;go_enter func230,ntmps230;go_wp2_with fail;refine (k0 _ _ _ Ol).mono ?_;rintro e G ⟨rfl,rfl⟩;go_wp2_with fail;refine (k0 _ _ _ Ol).mono ?_;rintro e G ⟨rfl,rfl⟩;go_wp2_with fail
 go_region_law (first
  | (refine wR Ot _ _ _ _ Ot _ _ Ot Ot (v _ (aR.drew.later I aR.hB)) ?_;intro O f w2 g;obtain ⟨bs,bI,bM,bL,g6,H⟩:=b2 dk I O f w2 g;clear g)
  | (refine step_call1 Ot 276 _ _ Ot w1 _ (by kernel_rfl) _ (aM _ aR.drew) ?_;intro dk I;have aU:=(I.cell (p:=⟨R,2,none⟩) a6).trans ae;have bh:=(I.cell (p:=⟨R,3,none⟩) a6).trans c3))
 all_goals
  go_wp2_with (at_builtin;refine wS rfl _ _ _ _ rfl _ _ rfl rfl (b6 _ _ _ O f _ H.out rfl) ?_;intro a0 b dD g;obtain ⟨au,bn,aH,k5,k6,bc⟩:=br _ _ _ _ H.out _ _ _ g;clear g)
  go_returns
  exact ⟨rfl,bc.out⟩):P:=h
namespace Mx
open Go.RowKit
theorem Hn (w:World) (x y:Value) (t:TypeId):∀ j u,[x,y][j]? = some u->(w.alloc (.cells #[x,y] t)).cell? ((⟨w.heap.size,0,none⟩:Addr).add j)=some u:=
 World.news_of_block (cs:=#[x,y]) (_root_.Go.heap_alloc_new w (.cells #[x,y] t))
theorem Ho (B R:Nat) (c:Mc.Cfg) (w0:World) (s:Mc.St) (to:Int) (w:World) (h:ed B R c w0 w s) :
 Calls prog 229 #[.pointer (some ⟨R,0,none⟩),.int .i64 to] w (dM B R c w0 (Mc.call c.mt to s) e0):=by
 have L:Hid (ed B R c w0 w s):=h;clear h;obtain ⟨aY,V,a9,ba,bA⟩:=info_parts Hb;go_enter func229,ntmps229;go_wp2_with fail;refine (tick_any B R c w0 s _ L).mono ?_;intro e dk ar
 rcases ar.parts with ⟨_,ay,z,rfl,Hm⟩ | ⟨ay,z,rfl,Hm⟩<;>clear ar<;>simp only [e0]
 . have A:Hid (Mc.call c.mt to s=if 24<ay.gs.length+1 then Mc.halt 4 ay else .ok () { ay with gs:=ay.gs++[(ay.lo,ay.bk)],lo:=[],bk:=ay.pc,pc:=to }):=bind_ok _ z.out
   clear z L;obtain ⟨o,⟨aA,ad,D,fr,ai,l,ou⟩,h⟩:=Hm.out;obtain ⟨al,q,af,hcap,hmax,hBg,hgl,c2,bY,hcell⟩:=h.fr.place N8;simp only at af;subst af;obtain ⟨E,a,af,hlcap,hlmax⟩:=h.lo.form;simp only at af;subst af;have aR:Hid (ea B R c w0 dk o ⟨aA,ad,.slice E (eB ay.gs++ay.lo).length a,.slice (some ⟨al,0,none⟩) (ay.gs.length+1) q,ai,l,ou⟩ ay):=h;obtain ⟨-,ah, -,c3,K, -, -, -, -, -, -, -,d,Y⟩:=h.cell;simp only at c3 K;have i:=h.bgs;have aa:=h.locals_le;have a6:=h.ltR;unfold maxLen at hmax hlmax;clear h hcell
   by_cases hd:24<ay.gs.length+1
   . have g:Hid (Mc.call c.mt to s = .stop { ay with en:=4 }):=A.trans (if_pos hd)
     generalize ay.gs.length=k at *;go_wp2_with fail;refine (sS 4 _ Hm.out).mono ?_;exact SM
   . have g:Hid (Mc.call c.mt to s = .ok () { ay with gs:=ay.gs++[(ay.lo,ay.bk)],lo:=[],bk:=ay.pc,pc:=to }):=A.trans (if_neg hd)
     clear A;generalize N:ay.gs.length=k at *;have bJ:=hid N;generalize Z:(eB ay.gs++ay.lo).length=n at *;have aV:=hid Z;clear N Z;go_wp2_with fail
     have T:∀ aj,(dk.drew.alloc aj).ownsRow B 231 2 (.slice (some ⟨al,0,none⟩) (k+1) q) (k+1) (iC 0 (ay.gs++[(ay.lo,ay.bk)])):=fun aj=>by
      have:=(aR.drew.alloc aj).fr.own;rw [bJ.out] at this;exact this
     have b2:Hid (∀ (bs b:Nat) (aj:Obj) (w2:World),(dk.drew.alloc aj).grownBy w2 (Value.ownBlock (.slice (some ⟨al,0,none⟩) (k+1) q))->w2.ownsRow B 231 2 (.slice (some ⟨bs,0,none⟩) (k+1+1) b) (k+1+1) (iC 0 (ay.gs++[(ay.lo,ay.bk)])++[.int .i64 n,.int .i64 ay.pc])->(Value.ownBlock (.slice (some ⟨al,0,none⟩) (k+1) q)=some bs\/bs=dk.heap.size+1)->
      ea B R c w0 ((w2.setCell ⟨R,4,none⟩ (.slice (some ⟨bs,0,none⟩) (k+1+1) b)).setCell ⟨R,1,none⟩ (.int .i64 to)) (l2 (dk.drew.alloc aj) o 4) ⟨aA,ad,.slice E n a,.slice (some ⟨bs,0,none⟩) (k+1+1) b,ai,l,ou⟩ { ay with gs:=ay.gs++[(ay.lo,ay.bk)],lo:=[],bk:=ay.pc,pc:=to }):=fun bs b aj w2 ak ap ax=>by
      have I:=aR.blo;have m:=aR.bfr;refine ((aR.drew.alloc aj).setFr (gs:=ay.gs++[(ay.lo,ay.bk)]) (l:=[]) (b:=ay.pc) ak ?_ (fun j e a2=>wX (H:=dk.heap.size+1) ax j e (by simpa using a2)) Oc (by rw [len_snoc,bJ.out];omega) ?_ (by rw [wT,List.append_nil])).setPc to
      . rw [len_snoc,bJ.out,rz,wT,Nat.zero_add,aV.out]
        exact ap
      . intro f Y
        rcases List.mem_append.1 Y with h | h
        . exact m f h
        . rw [List.mem_singleton.1 h];exact I
     have bf:=hid T;clear T
     go_region_law (refine step_append_lies _ Ot _ _ _ Ot B 231 aY _ 2 16 Tryz.underlying166 V a9 ba bA rfl N8 (.slice (some ⟨al,0,none⟩) (k+1) q) (k+1) (iC 0 (ay.gs++[(ay.lo,ay.bk)])) Ot (bf _) ⟨dk.heap.size,0,none⟩ 1 1 [.int .i64 n,.int .i64 ay.pc] Ot Ot (Hn _ _ _ _) (by simp;exact ⟨rfl,rfl⟩) N8 Oi N8 (by have:=aR.hB;simp;omega) (dk.heap.size+1) Oc ?_;intro bs b w2 hown1 ak a3 be;obtain ⟨ab,ff,fl⟩:=(aR.drew.alloc _).far (fun k e=>aR.fr.mark k e) Oa ak;have u:=(ab 4).trans (aR.drew.alloc _).cell.2.2.2.2.1;have p:=ff 4;have r:=(ab 1).trans (aR.drew.alloc _).cell.2.1;have t:=ff 1;have P:=hid hown1;have bz:=hid ak;have aM:=hid a3;clear hown1 ak a3 ab ff)
     all_goals
      go_wp2_with fail
      go_returns
      exact dM.ok g rfl ⟨_,_,b2 bs b _ w2 bz P aM⟩
 . exact SW
open Go.RowKit
theorem ea.cutFrame {B R:Nat} {c:Mc.Cfg} {w0 w:World} {T:Nat->Nat} {v:Vs} {s:Mc.St} {a8:List (List Int × Int)} {f:List Int × Int} {a7 E:Option Addr} {ab d:Nat} (h:ea B R c w0 w T v s) (i:s.gs=a8++[f])
 (Y:v.fr = .slice a7 (s.gs.length+1) ab) (X:v.lo = .slice E (eB s.gs++s.lo).length d) :
 ea B R c w0 (((w.setCell ⟨R,4,none⟩ (.slice a7 (a8.length+1) ab)).setCell ⟨R,3,none⟩ (.slice E (eB s.gs).length d)).setCell ⟨R,1,none⟩ (.int .i64 s.bk)) T { v with fr:=.slice a7 (a8.length+1) ab,lo:=.slice E (eB s.gs).length d } { s with gs:=a8,lo:=f.1,bk:=f.2,pc:=s.bk }:=by
 have N:∀ m,m≠1->∀ k,k<w.heap.size->T k=m->(((w.setCell ⟨R,4,none⟩ (.slice a7 (a8.length+1) ab)).setCell ⟨R,3,none⟩ (.slice E (eB s.gs).length d)).setCell ⟨R,1,none⟩ (.int .i64 s.bk)).heap[k]? = w.heap[k]?:=fun m a1 k _ e=>by
  have aX:k≠R:=fun a0=>PH
  rw [Below.heap_setCell _ _ _ k aX,Below.heap_setCell _ _ _ k aX,Below.heap_setCell _ _ _ k aX]
 have a:eB a8++f.1=eB s.gs:=by rw [i,wT]
 have b1:s.gs.length=a8.length+1:=by rw [i,len_snoc]
 have l:=h.bgs
 exact { h with
  blk:=by rw [heap_set (heap_set (heap_set h.blk _) _) _];rfl
  st:=h.st.keep (N 2 Oa) (fun _ _ e=>e)
  lo:=by
   have F:=(h.lo.cut (m:=(eB s.gs).length) PV X).keep (N 3 Oa) (fun _ _ e=>e);rw [Nat.mul_one,uw,List.take_left] at F;rw [a];exact F
  fr:=by
   have F:=(h.fr.cut (m:=a8.length+1) N8 Y).keep (N 4 Oa) (fun _ _ e=>e)
   have e:(iC 0 (s.gs++[(s.lo,s.bk)])).take ((a8.length+1)*2)=iC 0 (a8++[f]):=by rw [← b1,Ha,i]
   rw [e] at F;exact F
  da:=h.da.keep (N 5 Oa) (fun _ _ e=>e)
  ou:=h.ou.keep (N 6 Oa) (fun _ _ e=>e)
  below:=((h.below.setCell (p:=⟨R,4,none⟩) h.hR _).setCell (p:=⟨R,3,none⟩) h.hR _).setCell (p:=⟨R,1,none⟩) h.hR _
  bgs:=by show a8.length<=24;omega
  bfr:=fun al ak=>h.bfr al (by rw [i];exact List.mem_append.2 (Or.inl ak))
  blo:=h.bfr f (by rw [i];exact List.mem_append.2 (Or.inr (List.mem_singleton.2 rfl))) }
theorem Hp (B R:Nat) (c:Mc.Cfg) (w0:World) (s:Mc.St) (w:World) (h:ed B R c w0 w s) :
 Calls prog 231 #[.pointer (some ⟨R,0,none⟩)] w (dM B R c w0 (Mc.ret s) e0):=by
 have L:Hid (ed B R c w0 w s):=h;obtain ⟨o,⟨aA,ad,D,fr,ai,l,ou⟩,h⟩:=h;obtain ⟨al,q,af,hcap,hmax,hBg,hgl,c2,bY,hcell⟩:=h.fr.place N8;simp only at af;subst af;obtain ⟨E,a,af,hlcap,hlmax⟩:=h.lo.form;simp only at af;subst af;have aR:Hid (ea B R c w0 w o ⟨aA,ad,.slice E (eB s.gs++s.lo).length a,.slice (some ⟨al,0,none⟩) (s.gs.length+1) q,ai,l,ou⟩ s):=h;have aM:Hid (Calls prog 276 #[.pointer (some ⟨R,0,none⟩)] w fun e G=>e = .returned (.agg #[.int .i64 ((eB s.gs).length:Nat),.int .i64 s.bk])/\Below w.heap.size w G):=wY B R c w0 s w o _ h;have i:=h.bgs;have aa:=h.locals_le;have a6:=h.ltR;obtain ⟨-,ah, -,c3,K, -, -, -, -, -, -, -, -,Y⟩:=h.cell;simp only at c3 K;unfold maxLen at hmax hlmax;clear hcell h
 cases X:s.gs.getLast? with
 | none=>
   have A:Hid (Mc.ret s = .stop { s with en:=6 }):=by show Mc.ret s=_;unfold Mc.ret;rw [X];rfl
   have ab:s.gs.length=0:=by rw [List.getLast?_eq_none_iff.1 X];rfl
   rw [ab] at K;clear X ab aR aM;go_enter func231,ntmps231;go_wp2_with fail;refine (po _ _ (by first | rfl | (simp;done) | (simp;omega)) L).mono ?_;exact QF
 | some f=>
   have A:Hid (Mc.ret s = .ok () { s with gs:=s.gs.dropLast,lo:=f.1,bk:=f.2,pc:=s.bk }):=by show Mc.ret s=_;unfold Mc.ret;rw [X]
   have bz:Hid (s.gs=s.gs.dropLast++[f]):=by
    show s.gs=_;obtain ⟨b,e⟩:=List.getLast?_eq_some_iff.1 X;rw [e,List.dropLast_concat]
   generalize N:s.gs.dropLast.length=k at *
   have Q:s.gs.length=k+1:=by rw [bz.out,len_snoc,N]
   have bJ:=hid N;have W:=hid Q;rw [Q] at K hcap i;generalize a1:(eB s.gs).length=m at *;have y:=hid a1
   have Z:(eB s.gs++s.lo).length=m+s.lo.length:=by rw [List.length_append,a1]
   rw [Z] at c3 hlcap aa;generalize s.lo.length=n at *;have aV:=hid Z;clear X N Q a1 Z;go_enter func231,ntmps231;go_wp2_with fail;refine (k0 _ _ _ Ol).mono ?_;rintro e G ⟨rfl,rfl⟩;go_wp2_with fail;refine aM.mono ?_;rintro e dk ⟨rfl,I⟩;have aT:=(I.cell (p:=⟨R,1,none⟩) a6).trans ah;have bh:=(I.cell (p:=⟨R,3,none⟩) a6).trans c3;have a3:=(I.cell (p:=⟨R,4,none⟩) a6).trans K;have aJ:=(I.frozen (p:=⟨R,1,none⟩) a6).trans (Y 1);have bq:=(I.frozen (p:=⟨R,3,none⟩) a6).trans (Y 3);have bo:=(I.frozen (p:=⟨R,4,none⟩) a6).trans (Y 4);have b2:=I.size
   have d:R<dk.heap.size:=N8
   have aX:=(Nat.ne_of_lt d)
   go_wp2_with fail
   go_region
   go_wp2_with fail
   go_region
   go_wp2_with fail
   go_returns
   have F:=(aR.later I aR.hB).cutFrame bz rfl rfl;rw [bJ.out,y.out] at F;exact dM.ok A rfl ⟨_,_,((F.alloc _).drew).drew⟩
end Mx
end Go.Proofs.YtndkhgakfodldaaGreatDoor
