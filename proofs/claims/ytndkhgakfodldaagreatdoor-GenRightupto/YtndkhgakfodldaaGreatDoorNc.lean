/-
  Package gen: the writer's own functions.
-/
import Derived.Test.YtndkhgakfodldaaGreatDoorYa
import Derived.Test.YtndkhgakfodldaaGreatDoorUp
namespace Go.Proofs.YtndkhgakfodldaaGreatDoor
set_option maxRecDepth 100000
set_option maxHeartbeats 1600000
open Go.RowKit Go.Maps Go.WideMaps
set_option linter.unusedSimpArgs false
set_option linter.unusedVariables false
theorem Tryz.infoInstr:(Tryz.prog.info? 69).map (fun i=>(i.zero,i.size,i.bytes))=some (some (.agg #[.int .i64 0,.int .i64 0,.int .i64 0]),3,24):=by kernel_rfl
theorem Tryz.infoFix:(Tryz.prog.info? 67).map (fun i=>(i.zero,i.size,i.bytes))=some (some (.agg #[.int .i64 0,.int .i64 0,.int .i64 0]),3,24):=by kernel_rfl
theorem here_any {w0 w:World} {R:Nat} {K:List (Nat × Obj)} {s:Wrt} (h:Wri w0 w R K s) :
 Calls Tryz.prog 78 #[.pointer (some ⟨R,0,none⟩)] w fun e w'=>e = .returned (.int .i64 s.code.length)/\w'=w:=by
 obtain ⟨-,cv,fv,h⟩:=h;obtain ⟨a,cap,rfl, -, -⟩:=ownsRow_form h.code;obtain ⟨c0, -, -⟩:=h.cells;clear h;go_enter Tryz.func78,Tryz.ntmps78;go_wp2_with fail;go_ret;exact ⟨rfl,rfl⟩
theorem isFull_any {w0 w:World} {R:Nat} {K:List (Nat × Obj)} {s:Wrt} (h:Wri w0 w R K s) :
 Calls Tryz.prog 80 #[.pointer (some ⟨R,0,none⟩)] w fun e w'=>e = .returned (.bool (fullW s))/\w'=w:=by
 obtain ⟨-,cv,fv,h⟩:=h;obtain ⟨a,cap,rfl, -, -⟩:=ownsRow_form h.code;obtain ⟨c0, -, -⟩:=h.cells;clear h;go_enter Tryz.func80,Tryz.ntmps80;go_wp2_with fail;go_ret;exact ⟨ret_bool (by unfold fullW;exact decide_eq_decide.2 (by omega)),rfl⟩
theorem put_any {w0 w:World} {R:Nat} {K:List (Nat × Obj)} {s:Wrt} (op a b:Int) (h:Wri w0 w R K s) (hr:s.code.length<=1000000) :
 Calls Tryz.prog 129 #[.pointer (some ⟨R,0,none⟩),.int .i64 op,.int .i64 a,.int .i64 b] w fun e w'=>e = .returned (.tuple #[])/\Wri w0 w' R K (putW op a b s):=by
 obtain ⟨hl,cv,fv,h⟩:=h;obtain ⟨c0, -, -⟩:=h.cells;have HM:=hid h;obtain ⟨sa,sc,rfl, -, -⟩:=ownsRow_form h.code;clear h;go_enter Tryz.func129,Tryz.ntmps129
 go_wp2_with (at_builtin;refine append_w rfl (.tmp 12) (.tmp 17) 59 rfl w0.heap.size 69 _ 3 24 Tryz.underlying59 Tryz.infoInstr rfl (by decide) w (.slice sa s.code.length sc) s.code.length (gisV s.code) rfl HM.out.code #[.int .i64 op,.int .i64 a,.int .i64 b] _ rfl rfl rfl (gi_one ⟨op,a,b⟩) (by omega) (by decide) HM.out.hB _ rfl ?_;intro g cap w1 ho;obtain ⟨d0,d1,hW⟩:=HM.out.putC (i:=⟨op,a,b⟩) ho;have HW:=hid hW;clear ho hW)
 go_end0;exact ⟨rfl,by simp only [putW,List.length_append,List.length_cons,List.length_nil];omega,_,_,HW.out⟩
theorem en_here:Enters Tryz.prog 78:=enters_of Tryz.func78 (by kernel_rfl) rfl
theorem putFixed_any {w0 w:World} {R:Nat} {K:List (Nat × Obj)} {s:Wrt} (kind m op a b:Int) (h:Wri w0 w R K s) (hr:s.code.length<=1000000) :
 Calls Tryz.prog 270 #[.pointer (some ⟨R,0,none⟩),.int .i64 kind,.int .i64 m,.agg #[.int .i64 op,.int .i64 a,.int .i64 b]] w fun e w'=>e = .returned (.tuple #[])/\Wri w0 w' R K (fixW kind m ⟨op,a,b⟩ s):=by
 obtain ⟨hl,cv,fv,h⟩:=h;obtain ⟨fa,fc,rfl, -, -⟩:=ownsRow_form h.fix;obtain ⟨ca,cc,rfl, -, -⟩:=ownsRow_form h.code;have HK:=hid ((h.sub (K':=[]) (by simp)).box (.cells #[.int .i64 op,.int .i64 a,.int .i64 b] 69));have HM:=hid (h.box (.cells #[.int .i64 op,.int .i64 a,.int .i64 b] 69));obtain ⟨c0,c1,cf⟩:=HM.out.cells;have hRl:=HM.out.ltR;clear h;go_enter Tryz.func270,Tryz.ntmps270;go_upto_region 1 with fail;generalize hw1:w.alloc (.cells #[.int .i64 op,.int .i64 a,.int .i64 b] 69)=w1 at *;have HD:=hid HM.out.drew;have HE:=hid (fun (W:World) (hW:W=w1.drew)=>(by subst hW;exact (here_any (K:=(w.heap.size,.cells #[.int .i64 op,.int .i64 a,.int .i64 b] 69) :: K) (s:=s) ⟨hl,_,_,HD.out⟩).mono (fun e w' h=>⟨_,h.1,rfl,h.2⟩):Calls Tryz.prog 78 #[.pointer (some ⟨R,0,none⟩)] W fun e w'=>∃ u,e = .returned u/\(u = .int .i64 s.code.length/\w'=W)))
 have HC:=hid HD.out.cells.2.1;have HCa:=hid (fun o=>(HD.out.alloc o).cells.2.1)
 go_region_law
  (first
    | (refine step_callR (by rfl) 78 _ _ (by rfl) en_here _ (by rfl) (HE.out _ rfl) ?_;rintro u w2 ⟨rfl,rfl⟩)
    | (refine step_append_w rfl (.tmp 12) (.tmp 18) 60 rfl w0.heap.size 67 _ 3 24 Tryz.underlying60 Tryz.infoFix rfl (by decide) w1.drew (.slice fa s.fixes.length fc) s.fixes.length (gfsV s.fixes) rfl HD.out.fix #[.int .i64 s.code.length,.int .i64 kind,.int .i64 m] _ (by simp) rfl rfl (gf_one ⟨s.code.length,kind,m⟩) (by omega) (by decide) HD.out.hB _ rfl ?_;intro g cap w3 ho;obtain ⟨d0,d1,hW⟩:=HD.out.putF (i:=⟨s.code.length,kind,m⟩) ho;have HW:=hid hW;clear ho hW))
 all_goals
  generalize hw4:w3.setCell ⟨R,1,none⟩ (.slice (some ⟨g,0,none⟩) (s.fixes.length+1) cap)=w4 at *;clear d0 d1 c0 c1 cf hRl HE HC HCa;obtain ⟨c0,c1,cf⟩:=HW.out.cells;have hRl:=HW.out.ltR;have hk:=(HW.out.kp _ (List.mem_cons_self ..)).1;obtain ⟨x0,x1,x2, -⟩:=cellsOf3 hk;have hbl:=lt_of_heap hk;have HD4:=hid HW.out.drew;clear hk;go_wp2_with fail
  go_region_law (first
   | (refine step_append_w rfl (.tmp 26) (.tmp 28) 59 rfl w0.heap.size 69 _ 3 24 Tryz.underlying59 Tryz.infoInstr rfl (by decide) w4.drew (.slice ca s.code.length cc) s.code.length (gisV s.code) rfl HD4.out.code #[.int .i64 op,.int .i64 a,.int .i64 b] _ (by simp) rfl rfl (gi_one ⟨op,a,b⟩) (by omega) (by decide) HD4.out.hB _ rfl ?_;intro g5 cap5 w5 ho;obtain ⟨d0,d1,hW⟩:=HD4.out.putC (i:=⟨op,a,b⟩) ho;have HW5:=hid hW;clear ho hW))
  all_goals
   go_end0;exact ⟨rfl,by simp only [fixW,List.length_append,List.length_cons,List.length_nil];omega,_,_,HW5.out.sub (fun x hx=>List.mem_cons_of_mem _ hx)⟩
end Go.Proofs.YtndkhgakfodldaaGreatDoor

namespace Go.Proofs.YtndkhgakfodldaaGreatDoor
set_option maxRecDepth 100000
set_option maxHeartbeats 1600000
open Go.RowKit Go.Maps Go.WideMaps
set_option linter.unusedSimpArgs false
set_option linter.unusedVariables false
theorem jumpTo_any {w0 w:World} {R:Nat} {K:List (Nat × Obj)} {s:Wrt} (op t:Int) (h:Wri w0 w R K s) (hr:s.code.length<=1000000) :
 Calls Tryz.prog 275 #[.pointer (some ⟨R,0,none⟩),.int .i64 op,.int .i64 t] w fun e w'=>e = .returned (.tuple #[])/\Wri w0 w' R K (jmpW op t s):=by
 have HW:=hid h;clear h;go_enter Tryz.func275,Tryz.ntmps275;go_wp2_with fail;refine (putFixed_any 1 0 op t 0 HW.out hr).mono ?_;rintro e w1 ⟨rfl,h1⟩;have H1:=hid h1;clear h1;go_wp2_with fail;go_end0;exact ⟨rfl,H1.out⟩
def boxP (R:Nat):Obj:=.cells #[.pointer (some ⟨R,0,none⟩)] 134
def boxN (n:Nat):Obj:=.cells #[.int .i64 n] 3
theorem jump_any {w0 w:World} {R:Nat} {K:List (Nat × Obj)} {s:Wrt} (op:Int) (h:Wri w0 w R K s) (hr:s.code.length<=1000000) :
 Calls Tryz.prog 274 #[.pointer (some ⟨R,0,none⟩),.int .i64 op] w fun e w'=>e = .returned (.func (.func 291) #[] #[.pointer (some ⟨w.heap.size,0,none⟩),.pointer (some ⟨w.heap.size+1,0,none⟩)])/\Wri w0 w' R ((w.heap.size+1,boxN s.code.length) :: (w.heap.size,boxP R) :: K) (jmpW op 0 s):=by
 have HW:Hid (Wri w0 (w.alloc (.cells #[.pointer (some ⟨R,0,none⟩)] 134)) R ((w.heap.size,boxP R) :: K) s):=h.box (boxP R)
 have HW2:Hid (Wri w0 ((w.alloc (.cells #[.pointer (some ⟨R,0,none⟩)] 134)).alloc (.cells #[.int .i64 s.code.length] 3)) R ((w.heap.size+1,boxN s.code.length) :: (w.heap.size,boxP R) :: K) s):=by
  have:=(h.box (boxP R)).box (boxN s.code.length);rw [World.size_alloc] at this;exact this
 clear h;go_enter Tryz.func274,Tryz.ntmps274;go_wp2_with fail;refine (here_any HW.out).mono ?_;rintro e w1 ⟨rfl,rfl⟩;go_wp2_with fail;refine (jumpTo_any op 0 HW2.out hr).mono ?_;rintro e w1 ⟨rfl,h1⟩;have H1:=hid h1;clear h1;go_wp2_with fail;go_ret;exact ⟨rfl,H1.out⟩
theorem WAt.land {w0 w:World} {R:Nat} {K:List (Nat × Obj)} {s:Wrt} {g cap:Nat} {fv:Value} (h:WAt w0 w R K (.slice (some ⟨g,0,none⟩) s.code.length cap) fv s) (k:Nat) (hk:k<s.code.length) :
 w.cell? ⟨g,k*3+1,none⟩=some (.int .i64 s.code[k].a)/\w.frozen? ⟨g,k*3+1,none⟩=false/\WAt w0 (w.setCell ⟨g,k*3+1,none⟩ (.int .i64 s.code.length)) R K (.slice (some ⟨g,0,none⟩) s.code.length cap) fv (landW k s):=by
 have hc:=h.code.cells (g:=g) rfl _ _ (gisV_get s.code k hk);rw [show (⟨g,0,none⟩:Addr).add (k*3+1)=⟨g,k*3+1,none⟩ from by unfold Addr.add;split<;>simp_all] at hc;have hg0:w0.heap.size<=g:=(h.code.lt g rfl).1
 have hne:∀ b,b≠g->(w.setCell ⟨g,k*3+1,none⟩ (.int .i64 s.code.length)).heap[b]? = w.heap[b]?:=fun b hb=>heap_set_ne (p:=⟨g,k*3+1,none⟩) hb _
 have hgR:R≠g:=fun e=>h.nc (by rw [e];rfl)
 refine ⟨hc,?_,?_⟩
 . rcases h.code.2 with ⟨h1,_⟩ | ⟨g',cap',cur,hv,_,hg,_⟩
   . cases h1
   . cases hv;exact Lib.frozen_of_heap hg _
 . have hrow:=ownsRow_set h.code (k*3+1) (.int .i64 s.code.length) (by omega)
   rw [← gisV_set s.code k _ hk] at hrow
   exact {
    blk:=(hne R hgR).trans h.blk
    hR:=h.hR
    code:=by rw [landW_len];exact hrow
    fix:=ownsRow_keep h.fix (fun b hb=>hne b (fun e=>h.apt g rfl (by rw [hb,e])))
    apt:=h.apt
    nc:=h.nc
    nf:=h.nf
    below:=h.below.setCell (p:=⟨g,k*3+1,none⟩) hg0 _
    kp:=fun x hx=>by
     obtain ⟨h1,h2,h3,h4⟩:=h.kp x hx
     exact ⟨(hne _ (fun e=>h3 (by rw [e];rfl))).trans h1,h2,h3,h4⟩}
theorem land_any {w0 w:World} {R:Nat} {K:List (Nat × Obj)} {s:Wrt} {b k:Nat} (h:Wri w0 w R K s) (h1:(b,boxP R) ∈ K) (h2:(b+1,boxN k) ∈ K) (hk:k<s.code.length) (hr:s.code.length<=1000000) :
 Calls Tryz.prog 291 #[.pointer (some ⟨b,0,none⟩),.pointer (some ⟨b+1,0,none⟩)] w fun e w'=>e = .returned (.tuple #[])/\Wri w0 w' R K (landW k s):=by
 have HH:=hid (fun (W:World) (hW:Wri w0 W R K s)=>((here_any hW).mono (fun e w' h=>⟨_,h.1,rfl,h.2⟩):Calls Tryz.prog 78 #[.pointer (some ⟨R,0,none⟩)] W fun e w'=>∃ u,e = .returned u/\(u = .int .i64 s.code.length/\w'=W)));have HE:=hid (HH.out _ h.drew);obtain ⟨hl,cv,fv,h⟩:=h;obtain ⟨g,cap,rfl, -⟩:=h.code.form (by omega)
 have q1:w.cell? ⟨b,0,none⟩=some (.pointer (some ⟨R,0,none⟩)):=by rw [Lib.cell_of_heap (h.kp _ h1).1];rfl
 have q2:w.cell? ⟨b+1,0,none⟩=some (.int .i64 k):=by rw [Lib.cell_of_heap (h.kp _ h2).1];rfl
 obtain ⟨c0, -, -⟩:=h.cells;obtain ⟨y0,y1,hL0⟩:=h.land k hk;have hL:=hL0.drew;clear hL0
 have HC:Hid (w.drew.cell? ⟨b,0,none⟩=some (.pointer (some ⟨R,0,none⟩))/\w.drew.cell? ⟨b+1,0,none⟩=some (.int .i64 k)/\w.drew.cell? ⟨R,0,none⟩=some (.slice (some ⟨g,0,none⟩) s.code.length cap)):=⟨q1,q2,c0⟩
 have HCl:Hid ((w.setCell ⟨g,k*3+1,none⟩ (.int .i64 s.code.length)).drew.cell? ⟨b,0,none⟩=some (.pointer (some ⟨R,0,none⟩))/\(w.setCell ⟨g,k*3+1,none⟩ (.int .i64 s.code.length)).drew.cell? ⟨b+1,0,none⟩=some (.int .i64 k)/\(w.setCell ⟨g,k*3+1,none⟩ (.int .i64 s.code.length)).drew.cell? ⟨R,0,none⟩=some (.slice (some ⟨g,0,none⟩) s.code.length cap)):=
  ⟨by rw [Lib.cell_of_heap (hL.kp _ h1).1];rfl,by rw [Lib.cell_of_heap (hL.kp _ h2).1];rfl,hL.cells.1⟩
 have HL:=hid hL;clear h hL HH h1 h2;go_enter Tryz.func291,Tryz.ntmps291;go_upto_region 0 with fail
 go_region_held_law (fun W=>W.cell? ⟨b,0,none⟩=some (.pointer (some ⟨R,0,none⟩))/\W.cell? ⟨b+1,0,none⟩=some (.int .i64 k)/\W.cell? ⟨R,0,none⟩=some (.slice (some ⟨g,0,none⟩) s.code.length cap)) (first | with_reducible exact HC.out | with_reducible exact HCl.out)
  (first
    | (refine step_callR (by rfl) 78 _ _ (by rfl) en_here _ (by rfl) HE.out ?_;rintro u w2 ⟨rfl,rfl⟩))
 all_goals
  go_end0;exact ⟨rfl,by rw [landW_len];exact hl,_,_,HL.out⟩
end Go.Proofs.YtndkhgakfodldaaGreatDoor

namespace Go.Proofs.YtndkhgakfodldaaGreatDoor
set_option maxRecDepth 100000
set_option maxHeartbeats 1600000
open Go.RowKit Go.Maps Go.WideMaps
set_option linter.unusedSimpArgs false
set_option linter.unusedVariables false
def NdC (w0:World) (R k:Nat) (y:Nd):Prop:=∀ (A:Nat->Prop) (aa:Option Addr) (cp:Nat) (K:List (Nat × Obj)) (s:Wrt) (w:World),DAt w0 A aa y.args.length (ndsD y.args)->Wri w0 w R K s->(ndW k y s).code.length<=1000000->
 Calls Tryz.prog 216 #[.pointer (some ⟨R,0,none⟩),.agg #[.int .i64 y.op,.int .i64 y.n,.int .i64 y.m,.int .i64 y.at_,.slice aa y.args.length cp]] w fun e w'=>e = .returned (.tuple #[])/\Wri w0 w' R K (ndW k y s)
theorem wnodes_any {w0 w:World} {R k:Nat} {K:List (Nat × Obj)} {s:Wrt} {A:Nat->Prop} {l:List Nd} {a:Option Addr} {cap:Nat} (hN:∀ y ∈ l,NdC w0 R k y) (hD:DAt w0 A a l.length (ndsD l)) (h:Wri w0 w R K s) (hr:(ndsW (ndW k) l s).code.length<=1000000) :
 Calls Tryz.prog 273 #[.pointer (some ⟨R,0,none⟩),.slice a l.length cap] w fun e w'=>e = .returned (.tuple #[])/\Wri w0 w' R K (ndsW (ndW k) l s):=by
 have hbd:=hD.bound;have HD:=hid hD;have HW:=hid h;have HN:=hid hN;have HR:=hid (fun j=>Nat.le_trans (ndsW_le (ndW k) (ndW_mono k) l s j) hr);clear hD h hN hr;go_enter Tryz.func273,Tryz.ntmps273;go_wp2_with fail
 go_loopw [8] (fun i wr=>∃ j:Nat,j<=l.length/\i = .int .i64 j/\Wri w0 wr R K (ndsW (ndW k) (l.take j) s)) (fun i _=>l.length - (intOf i).toNat)
 case atStart=>exact ⟨0,Nat.zero_le _,rfl,HW.out⟩
 case round=>
  obtain ⟨j,hj,rfl,hw⟩:=hrel;have H1:=hid hw;clear hw
  by_cases hlt:j<l.length
  . obtain ⟨b,off,aa,cp,rfl,hx⟩:=(HD.out.later H1.out.below).nd j hlt
    obtain ⟨b',off',aa',cp',hb',hx'⟩:=HD.out.nd j hlt
    cases hb'
    obtain ⟨hbl,x0,x1,x2,x3,x4,_,_,_,_,_⟩:=hx;have e4:=(H1.out.below.cell (p:=⟨b,off+j*5+4,none⟩) hx'.lt).trans hx'.c4
    obtain ⟨rfl,rfl⟩:aa=aa'/\cp=cp':=by
     rw [x4] at e4;simp only [Option.some.injEq,Value.slice.injEq] at e4;exact ⟨e4.1,e4.2.2⟩
    have HA:=hid hx'.args';have HT:=hid (ndsW_take (ndW k) l s j hlt);have HR':=hid (HR.out (j+1));rw [HT.out] at HR';have HY:=hid (HN.out l[j] (List.getElem_mem hlt));clear e4 hx';generalize l[j]=x at *;go_wp2_with fail;refine (HY.out A aa cp K _ _ HA.out (H1.out.alloc _) HR'.out).mono ?_;rintro e w3 ⟨rfl,h3⟩;have H3:=hid h3;clear h3;go_wp2_with fail;go_roundw
    case rel=>exact ⟨j+1,by omega,by go_num,by rw [HT.out];exact H3.out⟩
    case measure=>simp [intOf];omega
  . obtain rfl:j=l.length:=by omega
    rw [List.take_length] at H1;go_wp2_with fail;go_end0;exact ⟨rfl,H1.out⟩
theorem windex_any {w0 w:World} {R k:Nat} {K:List (Nat × Obj)} {s:Wrt} {A:Nat->Prop} {y:Nd} {aa:Option Addr} {cp:Nat} (n m at_:Int) (hN:NdC w0 R k y) (hD:DAt w0 A aa y.args.length (ndsD y.args)) (h:Wri w0 w R K s) (hr:(ndW k y s).code.length<=1000000) :
 Calls Tryz.prog 215 #[.pointer (some ⟨R,0,none⟩),.int .i64 n,.int .i64 m,.int .i64 at_,.agg #[.int .i64 y.op,.int .i64 y.n,.int .i64 y.m,.int .i64 y.at_,.slice aa y.args.length cp]] w fun e w'=>e = .returned (.tuple #[])/\Wri w0 w' R K (idxW (ndW k y) n m at_ s):=by
 have HW:=hid h;have HC:=hid (fun (o:Obj)=>hN A aa cp K s _ hD (h.alloc o) hr);clear h hN hD;go_enter Tryz.func215,Tryz.ntmps215;go_wp2_with fail;refine (HC.out _).mono ?_;rintro e w1 ⟨rfl,h1⟩;have H1:=hid h1;clear h1;go_wp2_with fail;refine (putFixed_any 3 m 6 at_ n H1.out hr).mono ?_;rintro e w2 ⟨rfl,h2⟩;have H2:=hid h2;clear h2;go_wp2_with fail;go_end0;exact ⟨rfl,H2.out⟩
theorem wcall_any {w0 w:World} {R k:Nat} {K:List (Nat × Obj)} {s:Wrt} {A:Nat->Prop} {l:List Nd} {a:Option Addr} {cap:Nat} (m at_:Int) (hN:∀ y ∈ l,NdC w0 R k y) (hD:DAt w0 A a l.length (ndsD l)) (h:Wri w0 w R K s) (hr:(ndsW (ndW k) l s).code.length<=1000000) :
 Calls Tryz.prog 217 #[.pointer (some ⟨R,0,none⟩),.int .i64 m,.int .i64 at_,.slice a l.length cap] w fun e w'=>e = .returned (.tuple #[])/\Wri w0 w' R K (callW (ndsW (ndW k) l) m at_ s):=by
 have HC:=hid (wnodes_any (cap:=cap) hN hD h hr);clear h hN hD;go_enter Tryz.func217,Tryz.ntmps217;go_wp2_with fail;refine HC.out.mono ?_;rintro e w1 ⟨rfl,h1⟩;have H1:=hid h1;clear h1;go_wp2_with fail;refine (putFixed_any 2 m 13 at_ 0 H1.out hr).mono ?_;rintro e w2 ⟨rfl,h2⟩;have H2:=hid h2;clear h2;go_wp2_with fail;go_end0;exact ⟨rfl,H2.out⟩
end Go.Proofs.YtndkhgakfodldaaGreatDoor

namespace Go.Proofs.YtndkhgakfodldaaGreatDoor
set_option maxRecDepth 100000
set_option maxHeartbeats 1600000
open Go.RowKit Go.Maps Go.WideMaps
set_option linter.unusedSimpArgs false
set_option linter.unusedVariables false
theorem wand_any {w0 w:World} {R k:Nat} {K:List (Nat × Obj)} {s:Wrt} {A:Nat->Prop} {x y:Nd} {ax ay:Option Addr} {cx cy:Nat} (hX:NdC w0 R k x) (hY:NdC w0 R k y) (dX:DAt w0 A ax x.args.length (ndsD x.args)) (dY:DAt w0 A ay y.args.length (ndsD y.args)) (h:Wri w0 w R K s) (hr:(andW (ndW k x) (ndW k y) s).code.length<=1000000) :
 Calls Tryz.prog 271 #[.pointer (some ⟨R,0,none⟩),.agg #[.int .i64 x.op,.int .i64 x.n,.int .i64 x.m,.int .i64 x.at_,.slice ax x.args.length cx],.agg #[.int .i64 y.op,.int .i64 y.n,.int .i64 y.m,.int .i64 y.at_,.slice ay y.args.length cy]] w fun e w'=>e = .returned (.tuple #[])/\Wri w0 w' R K (andW (ndW k x) (ndW k y) s):=by
 have m1:=ndW_mono k x s;have m2:=ndW_mono k y (jmpW 12 0 (ndW k x s))
 have r0:(ndW k y (jmpW 12 0 (ndW k x s))).code.length+3<=1000000:=by simp only [andW,landW_len,putW_len,jmpW_len] at hr;omega
 rw [jmpW_len] at m2
 have HW:Hid (Wri w0 ((w.alloc (.cells #[.int .i64 x.op,.int .i64 x.n,.int .i64 x.m,.int .i64 x.at_,.slice ax x.args.length cx] 253)).alloc (.cells #[.int .i64 y.op,.int .i64 y.n,.int .i64 y.m,.int .i64 y.at_,.slice ay y.args.length cy] 253)) R ((w.heap.size+1,(.cells #[.int .i64 y.op,.int .i64 y.n,.int .i64 y.m,.int .i64 y.at_,.slice ay y.args.length cy] 253)) :: K) s):=by
  have:=(h.alloc (.cells #[.int .i64 x.op,.int .i64 x.n,.int .i64 x.m,.int .i64 x.at_,.slice ax x.args.length cx] 253)).box (.cells #[.int .i64 y.op,.int .i64 y.n,.int .i64 y.m,.int .i64 y.at_,.slice ay y.args.length cy] 253);rw [World.size_alloc] at this;exact this
 have HX:=hid (fun K s w=>hX A ax cx K s w dX);have HY:=hid (fun K s w=>hY A ay cy K s w dY);clear h hX hY dX dY hr;go_enter Tryz.func271,Tryz.ntmps271;go_wp2_with fail;refine (HX.out _ _ _ HW.out (by omega)).mono ?_;rintro e w1 ⟨rfl,h1⟩;have H1:=hid h1;clear h1;go_wp2_with fail;refine (jump_any 12 H1.out (by omega)).mono ?_;rintro e w2 ⟨rfl,h2⟩;have H2:=hid h2;clear h2;obtain ⟨q0,q1,q2,q3,q4, -⟩:=cellsOf5 (H2.out.has (List.mem_cons_of_mem _ (List.mem_cons_of_mem _ (List.mem_cons_self ..))));go_wp2_with fail;refine (HY.out _ _ _ H2.out (by omega)).mono ?_;rintro e w3 ⟨rfl,h3⟩;have H3:=hid h3;clear h3;clear q0 q1 q2 q3 q4;go_wp2_with fail;refine (put_any 22 0 0 H3.out (by omega)).mono ?_;rintro e w4 ⟨rfl,h4⟩;have H4:=hid h4;clear h4;go_wp2_with fail;refine (jump_any 11 H4.out (by simp only [landW_len,jmpW_len,putW_len];omega)).mono ?_
 rintro e w5 ⟨rfl,h5⟩;have H5:=hid h5;clear h5
 go_wp2_with (go_at_call 291;refine (land_any (b:=w1.heap.size) (k:=(ndW k x s).code.length) H5.out (by simp) (by simp) (by simp only [landW_len,jmpW_len,putW_len];omega) (by simp only [landW_len,jmpW_len,putW_len];omega)).mono ?_;rintro e w6 ⟨rfl,h6⟩;have H6:=hid h6;clear h6)
 refine (put_any 1 0 0 H6.out (by simp only [landW_len,jmpW_len,putW_len];omega)).mono ?_;rintro e w7 ⟨rfl,h7⟩;have H7:=hid h7;clear h7
 go_wp2_with (go_at_call 291;refine (land_any (b:=w4.heap.size) (k:=(putW 22 0 0 (ndW k y (jmpW 12 0 (ndW k x s)))).code.length) H7.out (by simp) (by simp) (by simp only [landW_len,jmpW_len,putW_len];omega) (by simp only [landW_len,jmpW_len,putW_len];omega)).mono ?_;rintro e w8 ⟨rfl,h8⟩;have H8:=hid h8;clear h8)
 go_end0;exact ⟨rfl,H8.out.tail.tail.tail.tail.tail⟩
theorem wor_any {w0 w:World} {R k:Nat} {K:List (Nat × Obj)} {s:Wrt} {A:Nat->Prop} {x y:Nd} {ax ay:Option Addr} {cx cy:Nat} (hX:NdC w0 R k x) (hY:NdC w0 R k y) (dX:DAt w0 A ax x.args.length (ndsD x.args)) (dY:DAt w0 A ay y.args.length (ndsD y.args)) (h:Wri w0 w R K s) (hr:(orW (ndW k x) (ndW k y) s).code.length<=1000000) :
 Calls Tryz.prog 272 #[.pointer (some ⟨R,0,none⟩),.agg #[.int .i64 x.op,.int .i64 x.n,.int .i64 x.m,.int .i64 x.at_,.slice ax x.args.length cx],.agg #[.int .i64 y.op,.int .i64 y.n,.int .i64 y.m,.int .i64 y.at_,.slice ay y.args.length cy]] w fun e w'=>e = .returned (.tuple #[])/\Wri w0 w' R K (orW (ndW k x) (ndW k y) s):=by
 have m1:=ndW_mono k x s;have m2:=ndW_mono k y (landW (ndW k x s).code.length (jmpW 11 0 (putW 1 1 0 (jmpW 12 0 (ndW k x s)))))
 have r0:(ndW k y (landW (ndW k x s).code.length (jmpW 11 0 (putW 1 1 0 (jmpW 12 0 (ndW k x s)))))).code.length+1<=1000000:=by simp only [orW,landW_len,putW_len,jmpW_len] at hr;omega
 simp only [landW_len,putW_len,jmpW_len] at m2
 have HW:Hid (Wri w0 ((w.alloc (.cells #[.int .i64 x.op,.int .i64 x.n,.int .i64 x.m,.int .i64 x.at_,.slice ax x.args.length cx] 253)).alloc (.cells #[.int .i64 y.op,.int .i64 y.n,.int .i64 y.m,.int .i64 y.at_,.slice ay y.args.length cy] 253)) R ((w.heap.size+1,(.cells #[.int .i64 y.op,.int .i64 y.n,.int .i64 y.m,.int .i64 y.at_,.slice ay y.args.length cy] 253)) :: K) s):=by
  have:=(h.alloc (.cells #[.int .i64 x.op,.int .i64 x.n,.int .i64 x.m,.int .i64 x.at_,.slice ax x.args.length cx] 253)).box (.cells #[.int .i64 y.op,.int .i64 y.n,.int .i64 y.m,.int .i64 y.at_,.slice ay y.args.length cy] 253);rw [World.size_alloc] at this;exact this
 have HX:=hid (fun K s w=>hX A ax cx K s w dX);have HY:=hid (fun K s w=>hY A ay cy K s w dY);clear h hX hY dX dY hr;go_enter Tryz.func272,Tryz.ntmps272;go_wp2_with fail;refine (HX.out _ _ _ HW.out (by omega)).mono ?_;rintro e w1 ⟨rfl,h1⟩;have H1:=hid h1;clear h1;go_wp2_with fail;refine (jump_any 12 H1.out (by omega)).mono ?_;rintro e w2 ⟨rfl,h2⟩;have H2:=hid h2;clear h2;go_wp2_with fail;refine (put_any 1 1 0 H2.out (by simp only [landW_len,jmpW_len,putW_len];omega)).mono ?_;rintro e w3 ⟨rfl,h3⟩;have H3:=hid h3;clear h3;go_wp2_with fail;refine (jump_any 11 H3.out (by simp only [landW_len,jmpW_len,putW_len];omega)).mono ?_;rintro e w4 ⟨rfl,h4⟩;have H4:=hid h4;clear h4
 go_wp2_with (go_at_call 291;refine (land_any (b:=w1.heap.size) (k:=(ndW k x s).code.length) H4.out (by simp) (by simp) (by simp only [landW_len,jmpW_len,putW_len];omega) (by simp only [landW_len,jmpW_len,putW_len];omega)).mono ?_;rintro e w5 ⟨rfl,h5⟩;have H5:=hid h5;clear h5;obtain ⟨q0,q1,q2,q3,q4, -⟩:=cellsOf5 (H5.out.has (List.mem_cons_of_mem _ (List.mem_cons_of_mem _ (List.mem_cons_of_mem _ (List.mem_cons_of_mem _ (List.mem_cons_self ..)))))))
 refine (HY.out _ _ _ H5.out (by omega)).mono ?_;rintro e w6 ⟨rfl,h6⟩;have H6:=hid h6;clear h6;clear q0 q1 q2 q3 q4;go_wp2_with fail;refine (put_any 22 0 0 H6.out (by omega)).mono ?_;rintro e w7 ⟨rfl,h7⟩;have H7:=hid h7;clear h7
 go_wp2_with (go_at_call 291;refine (land_any (b:=w3.heap.size) (k:=(putW 1 1 0 (jmpW 12 0 (ndW k x s))).code.length) H7.out (by simp) (by simp) (by simp only [landW_len,jmpW_len,putW_len];omega) (by simp only [landW_len,jmpW_len,putW_len];omega)).mono ?_;rintro e w8 ⟨rfl,h8⟩;have H8:=hid h8;clear h8)
 go_end0;exact ⟨rfl,H8.out.tail.tail.tail.tail.tail⟩
end Go.Proofs.YtndkhgakfodldaaGreatDoor

namespace Go.Proofs.YtndkhgakfodldaaGreatDoor
set_option maxRecDepth 100000
set_option maxHeartbeats 1600000
open Go.RowKit Go.Maps Go.WideMaps
set_option linter.unusedSimpArgs false
set_option linter.unusedVariables false
theorem arg_at {w0:World} {A:Nat->Prop} {aa:Option Addr} {l:List Nd} (hD:DAt w0 A aa l.length (ndsD l)) (i:Nat) (hi:i<l.length):∃ b off a1 k1,aa=some ⟨b,off,none⟩/\DAt w0 A a1 (argN l i).args.length (ndsD (argN l i).args)/\
 ∀ W,Below w0.heap.size w0 W->W.cell? ⟨b,off+i*5,none⟩=some (.int .i64 (argN l i).op)/\W.cell? ⟨b,off+i*5+1,none⟩=some (.int .i64 (argN l i).n)/\W.cell? ⟨b,off+i*5+2,none⟩=some (.int .i64 (argN l i).m)/\W.cell? ⟨b,off+i*5+3,none⟩=some (.int .i64 (argN l i).at_)/\W.cell? ⟨b,off+i*5+4,none⟩=some (.slice a1 (argN l i).args.length k1):=by
 rw [argN_get l i hi];obtain ⟨b,off,a1,k1,ha,hx⟩:=hD.nd i hi;refine ⟨b,off,a1,k1,ha,hx.args',fun W hW=>⟨?_,?_,?_,?_,?_⟩⟩
 . exact (hW.cell (p:=⟨b,_,none⟩) hx.lt).trans hx.c0
 . exact (hW.cell (p:=⟨b,_,none⟩) hx.lt).trans hx.c1
 . exact (hW.cell (p:=⟨b,_,none⟩) hx.lt).trans hx.c2
 . exact (hW.cell (p:=⟨b,_,none⟩) hx.lt).trans hx.c3
 . exact (hW.cell (p:=⟨b,_,none⟩) hx.lt).trans hx.c4
theorem arg_mem {w0:World} {R k:Nat} {l:List Nd} (h:∀ y ∈ l,NdC w0 R k y) (i:Nat) (hi:i<l.length):NdC w0 R k (argN l i):=by
 rw [argN_get l i hi];exact h _ (List.getElem_mem hi)
theorem node1 {w0 w:World} {R k:Nat} {K:List (Nat × Obj)} {s:Wrt} {A:Nat->Prop} {op n m at_:Int} {args:List Nd} {aa:Option Addr} {cp:Nat} (hN:∀ y ∈ args,NdC w0 R k y) (hD:DAt w0 A aa args.length (ndsD args)) (h:Wri w0 w R K s) (ho:op=1) (hr:(putW 1 n 0 s).code.length<=1000000) :
 Calls Tryz.prog 216 #[.pointer (some ⟨R,0,none⟩),.agg #[.int .i64 op,.int .i64 n,.int .i64 m,.int .i64 at_,.slice aa args.length cp]] w fun e w'=>e = .returned (.tuple #[])/\Wri w0 w' R K (putW 1 n 0 s):=by
 have HW:Hid (Wri w0 (w.alloc (.cells #[.int .i64 op,.int .i64 n,.int .i64 m,.int .i64 at_,.slice aa args.length cp] 253)) R ((w.heap.size,(.cells #[.int .i64 op,.int .i64 n,.int .i64 m,.int .i64 at_,.slice aa args.length cp] 253)) :: K) s):=h.box (.cells #[.int .i64 op,.int .i64 n,.int .i64 m,.int .i64 at_,.slice aa args.length cp] 253);subst ho
 have hr0:s.code.length<=1000000:=by simp only [putW_len,fixW_len] at hr;omega
 clear h hN hD;go_enter Tryz.func216,Tryz.ntmps216;go_wp2_with fail;refine (put_any 1 n 0 HW.out hr0).mono ?_;rintro e w1 ⟨rfl,h1⟩;have H1:=hid h1;clear h1;go_wp2_with fail;go_end0;exact ⟨rfl,H1.out.tail⟩
theorem node2 {w0 w:World} {R k:Nat} {K:List (Nat × Obj)} {s:Wrt} {A:Nat->Prop} {op n m at_:Int} {args:List Nd} {aa:Option Addr} {cp:Nat} (hN:∀ y ∈ args,NdC w0 R k y) (hD:DAt w0 A aa args.length (ndsD args)) (h:Wri w0 w R K s) (ho:op=2) (hr:(putW 18 0 0 s).code.length<=1000000) :
 Calls Tryz.prog 216 #[.pointer (some ⟨R,0,none⟩),.agg #[.int .i64 op,.int .i64 n,.int .i64 m,.int .i64 at_,.slice aa args.length cp]] w fun e w'=>e = .returned (.tuple #[])/\Wri w0 w' R K (putW 18 0 0 s):=by
 have HW:Hid (Wri w0 (w.alloc (.cells #[.int .i64 op,.int .i64 n,.int .i64 m,.int .i64 at_,.slice aa args.length cp] 253)) R ((w.heap.size,(.cells #[.int .i64 op,.int .i64 n,.int .i64 m,.int .i64 at_,.slice aa args.length cp] 253)) :: K) s):=h.box (.cells #[.int .i64 op,.int .i64 n,.int .i64 m,.int .i64 at_,.slice aa args.length cp] 253);subst ho
 have hr0:s.code.length<=1000000:=by simp only [putW_len,fixW_len] at hr;omega
 clear h hN hD;go_enter Tryz.func216,Tryz.ntmps216;go_wp2_with fail;refine (put_any 18 0 0 HW.out hr0).mono ?_;rintro e w1 ⟨rfl,h1⟩;have H1:=hid h1;clear h1;go_wp2_with fail;go_end0;exact ⟨rfl,H1.out.tail⟩
theorem node16 {w0 w:World} {R k:Nat} {K:List (Nat × Obj)} {s:Wrt} {A:Nat->Prop} {op n m at_:Int} {args:List Nd} {aa:Option Addr} {cp:Nat} (hN:∀ y ∈ args,NdC w0 R k y) (hD:DAt w0 A aa args.length (ndsD args)) (h:Wri w0 w R K s) (ho:op=16) (hr:(putW 2 at_ 0 s).code.length<=1000000) :
 Calls Tryz.prog 216 #[.pointer (some ⟨R,0,none⟩),.agg #[.int .i64 op,.int .i64 n,.int .i64 m,.int .i64 at_,.slice aa args.length cp]] w fun e w'=>e = .returned (.tuple #[])/\Wri w0 w' R K (putW 2 at_ 0 s):=by
 have HW:Hid (Wri w0 (w.alloc (.cells #[.int .i64 op,.int .i64 n,.int .i64 m,.int .i64 at_,.slice aa args.length cp] 253)) R ((w.heap.size,(.cells #[.int .i64 op,.int .i64 n,.int .i64 m,.int .i64 at_,.slice aa args.length cp] 253)) :: K) s):=h.box (.cells #[.int .i64 op,.int .i64 n,.int .i64 m,.int .i64 at_,.slice aa args.length cp] 253);subst ho
 have hr0:s.code.length<=1000000:=by simp only [putW_len,fixW_len] at hr;omega
 clear h hN hD;go_enter Tryz.func216,Tryz.ntmps216;go_wp2_with fail;refine (put_any 2 at_ 0 HW.out hr0).mono ?_;rintro e w1 ⟨rfl,h1⟩;have H1:=hid h1;clear h1;go_wp2_with fail;go_end0;exact ⟨rfl,H1.out.tail⟩
theorem node3 {w0 w:World} {R k:Nat} {K:List (Nat × Obj)} {s:Wrt} {A:Nat->Prop} {op n m at_:Int} {args:List Nd} {aa:Option Addr} {cp:Nat} (hN:∀ y ∈ args,NdC w0 R k y) (hD:DAt w0 A aa args.length (ndsD args)) (h:Wri w0 w R K s) (ho:op=3) (hr:(fixW 3 m ⟨4,at_,0⟩ s).code.length<=1000000) :
 Calls Tryz.prog 216 #[.pointer (some ⟨R,0,none⟩),.agg #[.int .i64 op,.int .i64 n,.int .i64 m,.int .i64 at_,.slice aa args.length cp]] w fun e w'=>e = .returned (.tuple #[])/\Wri w0 w' R K (fixW 3 m ⟨4,at_,0⟩ s):=by
 have HW:Hid (Wri w0 (w.alloc (.cells #[.int .i64 op,.int .i64 n,.int .i64 m,.int .i64 at_,.slice aa args.length cp] 253)) R ((w.heap.size,(.cells #[.int .i64 op,.int .i64 n,.int .i64 m,.int .i64 at_,.slice aa args.length cp] 253)) :: K) s):=h.box (.cells #[.int .i64 op,.int .i64 n,.int .i64 m,.int .i64 at_,.slice aa args.length cp] 253);subst ho
 have hr0:s.code.length<=1000000:=by simp only [putW_len,fixW_len] at hr;omega
 clear h hN hD;go_enter Tryz.func216,Tryz.ntmps216;go_wp2_with fail;refine (putFixed_any 3 m 4 at_ 0 HW.out hr0).mono ?_;rintro e w1 ⟨rfl,h1⟩;have H1:=hid h1;clear h1;go_wp2_with fail;go_end0;exact ⟨rfl,H1.out.tail⟩
theorem node4 {w0 w:World} {R k:Nat} {K:List (Nat × Obj)} {s:Wrt} {A:Nat->Prop} {op n m at_:Int} {args:List Nd} {aa:Option Addr} {cp:Nat} (hN:∀ y ∈ args,NdC w0 R k y) (hD:DAt w0 A aa args.length (ndsD args)) (h:Wri w0 w R K s) (ho:op=4) (hl:args.length=1) (hr:(putW 7 0 0 (idxW (ndW k (argN args 0)) n m at_ s)).code.length<=1000000) :
 Calls Tryz.prog 216 #[.pointer (some ⟨R,0,none⟩),.agg #[.int .i64 op,.int .i64 n,.int .i64 m,.int .i64 at_,.slice aa args.length cp]] w fun e w'=>e = .returned (.tuple #[])/\Wri w0 w' R K (putW 7 0 0 (idxW (ndW k (argN args 0)) n m at_ s)):=by
 have HW:Hid (Wri w0 (w.alloc (.cells #[.int .i64 op,.int .i64 n,.int .i64 m,.int .i64 at_,.slice aa args.length cp] 253)) R ((w.heap.size,(.cells #[.int .i64 op,.int .i64 n,.int .i64 m,.int .i64 at_,.slice aa args.length cp] 253)) :: K) s):=h.box (.cells #[.int .i64 op,.int .i64 n,.int .i64 m,.int .i64 at_,.slice aa args.length cp] 253);subst ho
 have hr0:(ndW k (argN args 0) s).code.length+1<=1000000:=by simp only [putW_len,idxW,fixW_len] at hr;omega
 obtain ⟨b,off,a1,k1,rfl,hA,hc⟩:=arg_at hD 0 (by omega);simp only [Nat.zero_mul,Nat.add_zero] at hc;have hy:=arg_mem hN 0 (by omega);generalize argN args 0=y at *;have HA:=hid hA;have HY:=hid hy
 have HS:Hid (∀ W s',Wri w0 W R ((w.heap.size,(.cells #[.int .i64 4,.int .i64 n,.int .i64 m,.int .i64 at_,.slice (some ⟨b,off,none⟩) args.length cp] 253)) :: K) s'->W.cell? ⟨w.heap.size,1,none⟩=some (.int .i64 n)/\W.cell? ⟨w.heap.size,2,none⟩=some (.int .i64 m)/\W.cell? ⟨w.heap.size,3,none⟩=some (.int .i64 at_)/\W.cell? ⟨w.heap.size,4,none⟩=some (.slice (some ⟨b,off,none⟩) args.length cp)/\W.cell? ⟨b,off,none⟩=some (.int .i64 y.op)/\W.cell? ⟨b,off+1,none⟩=some (.int .i64 y.n)/\W.cell? ⟨b,off+2,none⟩=some (.int .i64 y.m)/\W.cell? ⟨b,off+3,none⟩=some (.int .i64 y.at_)/\W.cell? ⟨b,off+4,none⟩=some (.slice a1 y.args.length k1)):=fun W s' hW=>by
  obtain ⟨q0,q1,q2,q3,q4, -⟩:=cellsOf5 hW.head;obtain ⟨z0,z1,z2,z3,z4⟩:=hc W hW.below;exact ⟨q1,q2,q3,q4,z0,z1,z2,z3,z4⟩
 have HD:=hid HW.out.drew
 have hl0:0<args.length:=by omega
 clear h hN hD hA hy hc hl;go_enter Tryz.func216,Tryz.ntmps216;go_upto_region 13 with fail
 go_region_held (fun W=>W.cell? ⟨w.heap.size,1,none⟩=some (.int .i64 n)/\W.cell? ⟨w.heap.size,2,none⟩=some (.int .i64 m)/\W.cell? ⟨w.heap.size,3,none⟩=some (.int .i64 at_)/\W.cell? ⟨w.heap.size,4,none⟩=some (.slice (some ⟨b,off,none⟩) args.length cp)/\W.cell? ⟨b,off,none⟩=some (.int .i64 y.op)/\W.cell? ⟨b,off+1,none⟩=some (.int .i64 y.n)/\W.cell? ⟨b,off+2,none⟩=some (.int .i64 y.m)/\W.cell? ⟨b,off+3,none⟩=some (.int .i64 y.at_)/\W.cell? ⟨b,off+4,none⟩=some (.slice a1 y.args.length k1)) (first | with_reducible exact HS.out _ _ HW.out | with_reducible exact HS.out _ _ HD.out | with_reducible exact HS.out _ _ H1.out)
  (first
    | (go_at_call 215;refine (windex_any n m at_ HY.out HA.out HD.out (by omega)).mono ?_;rintro e w1 ⟨rfl,h1⟩;have H1:=hid h1;clear h1))
 all_goals
  go_wp2_with fail;refine (put_any 7 0 0 H1.out (by simp only [idxW,fixW_len];omega)).mono ?_;rintro e w2 ⟨rfl,h2⟩;have H2:=hid h2;clear h2;go_wp2_with fail;go_end0;exact ⟨rfl,H2.out.tail⟩
theorem node5 {w0 w:World} {R k:Nat} {K:List (Nat × Obj)} {s:Wrt} {A:Nat->Prop} {op n m at_:Int} {args:List Nd} {aa:Option Addr} {cp:Nat} (hN:∀ y ∈ args,NdC w0 R k y) (hD:DAt w0 A aa args.length (ndsD args)) (h:Wri w0 w R K s) (ho:op=5) (hr:(callW (ndsW (ndW k) args) m at_ s).code.length<=1000000) :
 Calls Tryz.prog 216 #[.pointer (some ⟨R,0,none⟩),.agg #[.int .i64 op,.int .i64 n,.int .i64 m,.int .i64 at_,.slice aa args.length cp]] w fun e w'=>e = .returned (.tuple #[])/\Wri w0 w' R K (callW (ndsW (ndW k) args) m at_ s):=by
 have HW:Hid (Wri w0 (w.alloc (.cells #[.int .i64 op,.int .i64 n,.int .i64 m,.int .i64 at_,.slice aa args.length cp] 253)) R ((w.heap.size,(.cells #[.int .i64 op,.int .i64 n,.int .i64 m,.int .i64 at_,.slice aa args.length cp] 253)) :: K) s):=h.box (.cells #[.int .i64 op,.int .i64 n,.int .i64 m,.int .i64 at_,.slice aa args.length cp] 253);subst ho
 have hr0:(ndsW (ndW k) args s).code.length<=1000000:=by simp only [callW,fixW_len] at hr;omega
 have HC:=hid (wcall_any (cap:=cp) m at_ hN hD HW.out hr0);clear h hN hD;go_enter Tryz.func216,Tryz.ntmps216;go_wp2_with fail;refine (HC.out).mono ?_;rintro e w1 ⟨rfl,h1⟩;have H1:=hid h1;clear h1;go_wp2_with fail;go_end0;exact ⟨rfl,H1.out.tail⟩
theorem node6 {w0 w:World} {R k:Nat} {K:List (Nat × Obj)} {s:Wrt} {A:Nat->Prop} {op n m at_:Int} {args:List Nd} {aa:Option Addr} {cp:Nat} (hN:∀ y ∈ args,NdC w0 R k y) (hD:DAt w0 A aa args.length (ndsD args)) (h:Wri w0 w R K s) (ho:op=6) (hl:args.length=1) (hr:(putW 9 0 0 (ndW k (argN args 0) s)).code.length<=1000000) :
 Calls Tryz.prog 216 #[.pointer (some ⟨R,0,none⟩),.agg #[.int .i64 op,.int .i64 n,.int .i64 m,.int .i64 at_,.slice aa args.length cp]] w fun e w'=>e = .returned (.tuple #[])/\Wri w0 w' R K (putW 9 0 0 (ndW k (argN args 0) s)):=by
 have HW:Hid (Wri w0 (w.alloc (.cells #[.int .i64 op,.int .i64 n,.int .i64 m,.int .i64 at_,.slice aa args.length cp] 253)) R ((w.heap.size,(.cells #[.int .i64 op,.int .i64 n,.int .i64 m,.int .i64 at_,.slice aa args.length cp] 253)) :: K) s):=h.box (.cells #[.int .i64 op,.int .i64 n,.int .i64 m,.int .i64 at_,.slice aa args.length cp] 253);subst ho
 have hr0:(ndW k (argN args 0) s).code.length<=1000000:=by simp only [putW_len] at hr;omega
 obtain ⟨b,off,a1,k1,rfl,hA,hc⟩:=arg_at hD 0 (by omega);simp only [Nat.zero_mul,Nat.add_zero] at hc;have hy:=arg_mem hN 0 (by omega);generalize argN args 0=y at *;have HC:=hid (hy A a1 k1 _ _ _ hA HW.out hr0);obtain ⟨z0,z1,z2,z3,z4⟩:=hc _ h.below
 have hb:b<w.heap.size:=by
  rcases Nat.lt_or_ge b w.heap.size with h' | h'
  . exact h'
  . simp [World.cell?,Array.getElem?_eq_none h'] at z0
 have hl0:0<args.length:=by omega
 clear h hN hD hA hy hc hl;go_enter Tryz.func216,Tryz.ntmps216;go_wp2_with fail;refine (HC.out).mono ?_;rintro e w1 ⟨rfl,h1⟩;have H1:=hid h1;clear h1;clear z0 z1 z2 z3 z4;go_wp2_with fail;refine (put_any 9 0 0 H1.out hr0).mono ?_;rintro e w2 ⟨rfl,h2⟩;have H2:=hid h2;clear h2;go_wp2_with fail;go_end0;exact ⟨rfl,H2.out.tail⟩
theorem node7 {w0 w:World} {R k:Nat} {K:List (Nat × Obj)} {s:Wrt} {A:Nat->Prop} {op n m at_:Int} {args:List Nd} {aa:Option Addr} {cp:Nat} (hN:∀ y ∈ args,NdC w0 R k y) (hD:DAt w0 A aa args.length (ndsD args)) (h:Wri w0 w R K s) (ho:op=7) (hl:args.length=2) (hr:(andW (ndW k (argN args 0)) (ndW k (argN args 1)) s).code.length<=1000000) :
 Calls Tryz.prog 216 #[.pointer (some ⟨R,0,none⟩),.agg #[.int .i64 op,.int .i64 n,.int .i64 m,.int .i64 at_,.slice aa args.length cp]] w fun e w'=>e = .returned (.tuple #[])/\Wri w0 w' R K (andW (ndW k (argN args 0)) (ndW k (argN args 1)) s):=by
 have HW:Hid (Wri w0 (w.alloc (.cells #[.int .i64 op,.int .i64 n,.int .i64 m,.int .i64 at_,.slice aa args.length cp] 253)) R ((w.heap.size,(.cells #[.int .i64 op,.int .i64 n,.int .i64 m,.int .i64 at_,.slice aa args.length cp] 253)) :: K) s):=h.box (.cells #[.int .i64 op,.int .i64 n,.int .i64 m,.int .i64 at_,.slice aa args.length cp] 253);subst ho;obtain ⟨b,off,a1,k1,rfl,hA,hc⟩:=arg_at hD 0 (by omega);obtain ⟨b',off',a2,k2,hbb,hB,hd⟩:=arg_at hD 1 (by omega);cases hbb;simp only [Nat.zero_mul,Nat.add_zero] at hc;simp only [Nat.one_mul] at hd;have hy:=arg_mem hN 0 (by omega);have hz:=arg_mem hN 1 (by omega);generalize argN args 0=y at *;generalize argN args 1=z at *;have HC:=hid (wand_any (cx:=k1) (cy:=k2) hy hz hA hB HW.out.drew hr)
 have HS:Hid (∀ W s',Wri w0 W R ((w.heap.size,(.cells #[.int .i64 7,.int .i64 n,.int .i64 m,.int .i64 at_,.slice (some ⟨b,off,none⟩) args.length cp] 253)) :: K) s'->W.cell? ⟨w.heap.size,4,none⟩=some (.slice (some ⟨b,off,none⟩) args.length cp)/\W.cell? ⟨b,off,none⟩=some (.int .i64 y.op)/\W.cell? ⟨b,off+1,none⟩=some (.int .i64 y.n)/\W.cell? ⟨b,off+2,none⟩=some (.int .i64 y.m)/\W.cell? ⟨b,off+3,none⟩=some (.int .i64 y.at_)/\W.cell? ⟨b,off+4,none⟩=some (.slice a1 y.args.length k1)/\W.cell? ⟨b,off+5,none⟩=some (.int .i64 z.op)/\W.cell? ⟨b,off+5+1,none⟩=some (.int .i64 z.n)/\W.cell? ⟨b,off+5+2,none⟩=some (.int .i64 z.m)/\W.cell? ⟨b,off+5+3,none⟩=some (.int .i64 z.at_)/\W.cell? ⟨b,off+5+4,none⟩=some (.slice a2 z.args.length k2)):=fun W s' hW=>by
  obtain ⟨q0,q1,q2,q3,q4, -⟩:=cellsOf5 hW.head;obtain ⟨z0,z1,z2,z3,z4⟩:=hc W hW.below;obtain ⟨y0,y1,y2,y3,y4⟩:=hd W hW.below;exact ⟨q4,z0,z1,z2,z3,z4,y0,y1,y2,y3,y4⟩
 have HD:=hid HW.out.drew
 have hl0:1<args.length:=by omega
 clear h hN hD hA hB hy hz hc hd hl;go_enter Tryz.func216,Tryz.ntmps216;go_upto_region 21 with fail
 go_region_held (fun W=>W.cell? ⟨w.heap.size,4,none⟩=some (.slice (some ⟨b,off,none⟩) args.length cp)/\W.cell? ⟨b,off,none⟩=some (.int .i64 y.op)/\W.cell? ⟨b,off+1,none⟩=some (.int .i64 y.n)/\W.cell? ⟨b,off+2,none⟩=some (.int .i64 y.m)/\W.cell? ⟨b,off+3,none⟩=some (.int .i64 y.at_)/\W.cell? ⟨b,off+4,none⟩=some (.slice a1 y.args.length k1)/\W.cell? ⟨b,off+5,none⟩=some (.int .i64 z.op)/\W.cell? ⟨b,off+5+1,none⟩=some (.int .i64 z.n)/\W.cell? ⟨b,off+5+2,none⟩=some (.int .i64 z.m)/\W.cell? ⟨b,off+5+3,none⟩=some (.int .i64 z.at_)/\W.cell? ⟨b,off+5+4,none⟩=some (.slice a2 z.args.length k2)) (first | with_reducible exact HS.out _ _ HW.out | with_reducible exact HS.out _ _ HD.out | with_reducible exact HS.out _ _ H1.out)
  (first
    | (go_at_call 271;refine HC.out.mono ?_;rintro e w1 ⟨rfl,h1⟩;have H1:=hid h1;clear h1))
 all_goals
  go_wp2_with fail;go_end0;exact ⟨rfl,H1.out.tail⟩
theorem node8 {w0 w:World} {R k:Nat} {K:List (Nat × Obj)} {s:Wrt} {A:Nat->Prop} {op n m at_:Int} {args:List Nd} {aa:Option Addr} {cp:Nat} (hN:∀ y ∈ args,NdC w0 R k y) (hD:DAt w0 A aa args.length (ndsD args)) (h:Wri w0 w R K s) (ho:op=8) (hl:args.length=2) (hr:(orW (ndW k (argN args 0)) (ndW k (argN args 1)) s).code.length<=1000000) :
 Calls Tryz.prog 216 #[.pointer (some ⟨R,0,none⟩),.agg #[.int .i64 op,.int .i64 n,.int .i64 m,.int .i64 at_,.slice aa args.length cp]] w fun e w'=>e = .returned (.tuple #[])/\Wri w0 w' R K (orW (ndW k (argN args 0)) (ndW k (argN args 1)) s):=by
 have HW:Hid (Wri w0 (w.alloc (.cells #[.int .i64 op,.int .i64 n,.int .i64 m,.int .i64 at_,.slice aa args.length cp] 253)) R ((w.heap.size,(.cells #[.int .i64 op,.int .i64 n,.int .i64 m,.int .i64 at_,.slice aa args.length cp] 253)) :: K) s):=h.box (.cells #[.int .i64 op,.int .i64 n,.int .i64 m,.int .i64 at_,.slice aa args.length cp] 253);subst ho;obtain ⟨b,off,a1,k1,rfl,hA,hc⟩:=arg_at hD 0 (by omega);obtain ⟨b',off',a2,k2,hbb,hB,hd⟩:=arg_at hD 1 (by omega);cases hbb;simp only [Nat.zero_mul,Nat.add_zero] at hc;simp only [Nat.one_mul] at hd;have hy:=arg_mem hN 0 (by omega);have hz:=arg_mem hN 1 (by omega);generalize argN args 0=y at *;generalize argN args 1=z at *;have HC:=hid (wor_any (cx:=k1) (cy:=k2) hy hz hA hB HW.out.drew hr)
 have HS:Hid (∀ W s',Wri w0 W R ((w.heap.size,(.cells #[.int .i64 8,.int .i64 n,.int .i64 m,.int .i64 at_,.slice (some ⟨b,off,none⟩) args.length cp] 253)) :: K) s'->W.cell? ⟨w.heap.size,4,none⟩=some (.slice (some ⟨b,off,none⟩) args.length cp)/\W.cell? ⟨b,off,none⟩=some (.int .i64 y.op)/\W.cell? ⟨b,off+1,none⟩=some (.int .i64 y.n)/\W.cell? ⟨b,off+2,none⟩=some (.int .i64 y.m)/\W.cell? ⟨b,off+3,none⟩=some (.int .i64 y.at_)/\W.cell? ⟨b,off+4,none⟩=some (.slice a1 y.args.length k1)/\W.cell? ⟨b,off+5,none⟩=some (.int .i64 z.op)/\W.cell? ⟨b,off+5+1,none⟩=some (.int .i64 z.n)/\W.cell? ⟨b,off+5+2,none⟩=some (.int .i64 z.m)/\W.cell? ⟨b,off+5+3,none⟩=some (.int .i64 z.at_)/\W.cell? ⟨b,off+5+4,none⟩=some (.slice a2 z.args.length k2)):=fun W s' hW=>by
  obtain ⟨q0,q1,q2,q3,q4, -⟩:=cellsOf5 hW.head;obtain ⟨z0,z1,z2,z3,z4⟩:=hc W hW.below;obtain ⟨y0,y1,y2,y3,y4⟩:=hd W hW.below;exact ⟨q4,z0,z1,z2,z3,z4,y0,y1,y2,y3,y4⟩
 have HD:=hid HW.out.drew
 have hl0:1<args.length:=by omega
 clear h hN hD hA hB hy hz hc hd hl;go_enter Tryz.func216,Tryz.ntmps216;go_upto_region 23 with fail
 go_region_held (fun W=>W.cell? ⟨w.heap.size,4,none⟩=some (.slice (some ⟨b,off,none⟩) args.length cp)/\W.cell? ⟨b,off,none⟩=some (.int .i64 y.op)/\W.cell? ⟨b,off+1,none⟩=some (.int .i64 y.n)/\W.cell? ⟨b,off+2,none⟩=some (.int .i64 y.m)/\W.cell? ⟨b,off+3,none⟩=some (.int .i64 y.at_)/\W.cell? ⟨b,off+4,none⟩=some (.slice a1 y.args.length k1)/\W.cell? ⟨b,off+5,none⟩=some (.int .i64 z.op)/\W.cell? ⟨b,off+5+1,none⟩=some (.int .i64 z.n)/\W.cell? ⟨b,off+5+2,none⟩=some (.int .i64 z.m)/\W.cell? ⟨b,off+5+3,none⟩=some (.int .i64 z.at_)/\W.cell? ⟨b,off+5+4,none⟩=some (.slice a2 z.args.length k2)) (first | with_reducible exact HS.out _ _ HW.out | with_reducible exact HS.out _ _ HD.out | with_reducible exact HS.out _ _ H1.out)
  (first
    | (go_at_call 272;refine HC.out.mono ?_;rintro e w1 ⟨rfl,h1⟩;have H1:=hid h1;clear h1))
 all_goals
  go_wp2_with fail;go_end0;exact ⟨rfl,H1.out.tail⟩
theorem node9 {w0 w:World} {R k:Nat} {K:List (Nat × Obj)} {s:Wrt} {A:Nat->Prop} {op n m at_:Int} {args:List Nd} {aa:Option Addr} {cp:Nat} (hN:∀ y ∈ args,NdC w0 R k y) (hD:DAt w0 A aa args.length (ndsD args)) (h:Wri w0 w R K s) (h1:op≠1) (h2:op≠2) (h3:op≠16) (h4:op≠3) (h5:op≠4) (h6:op≠5) (h7:op≠6) (h8:op≠7) (h9:op≠8) (hr:(putW 10 op 0 (ndsW (ndW k) args s)).code.length<=1000000) :
 Calls Tryz.prog 216 #[.pointer (some ⟨R,0,none⟩),.agg #[.int .i64 op,.int .i64 n,.int .i64 m,.int .i64 at_,.slice aa args.length cp]] w fun e w'=>e = .returned (.tuple #[])/\Wri w0 w' R K (putW 10 op 0 (ndsW (ndW k) args s)):=by
 have HW:Hid (Wri w0 (w.alloc (.cells #[.int .i64 op,.int .i64 n,.int .i64 m,.int .i64 at_,.slice aa args.length cp] 253)) R ((w.heap.size,(.cells #[.int .i64 op,.int .i64 n,.int .i64 m,.int .i64 at_,.slice aa args.length cp] 253)) :: K) s):=h.box (.cells #[.int .i64 op,.int .i64 n,.int .i64 m,.int .i64 at_,.slice aa args.length cp] 253)
 have hr0:(ndsW (ndW k) args s).code.length<=1000000:=by simp only [putW_len] at hr;omega
 have HC:=hid (wnodes_any (cap:=cp) hN hD HW.out hr0);clear h hN hD;go_enter Tryz.func216,Tryz.ntmps216;go_wp2_with fail;refine (HC.out).mono ?_;rintro e wa ⟨rfl,ha⟩;have Ha:=hid ha;clear ha;obtain ⟨q0,q1,q2,q3,q4, -⟩:=cellsOf5 Ha.out.head;go_wp2_with fail;refine (put_any 10 op 0 Ha.out hr0).mono ?_;rintro e wb ⟨rfl,hb⟩;have Hb:=hid hb;clear hb;go_wp2_with fail;go_end0;exact ⟨rfl,Hb.out.tail⟩
def ndStep (f:Nd->Wrt->Wrt) (op n m at_:Int) (args:List Nd) (s:Wrt):Wrt:=
 if op=1 then putW 1 n 0 s
 else if op=2 then putW 18 0 0 s
 else if op=16 then putW 2 at_ 0 s
 else if op=3 then fixW 3 m ⟨4,at_,0⟩ s
 else if op=4 then putW 7 0 0 (idxW (f (argN args 0)) n m at_ s)
 else if op=5 then callW (ndsW f args) m at_ s
 else if op=6 then putW 9 0 0 (f (argN args 0) s)
 else if op=7 then andW (f (argN args 0)) (f (argN args 1)) s
 else if op=8 then orW (f (argN args 0)) (f (argN args 1)) s
 else putW 10 op 0 (ndsW f args s)
theorem ndW_succ (k:Nat) (op n m at_:Int) (args:List Nd) (s:Wrt):ndW (k+1) ⟨op,n,m,at_,args⟩ s=ndStep (ndW k) op n m at_ args s:=rfl
theorem nodeA_4 {c:Ck} {n m at_:Int} {args:List Nd} (h:nodeA c ⟨4,n,m,at_,args⟩=true):args.length=1:=by
 simp [nodeA,Nd.op,Nd.args] at h;exact of_decide_eq_true h.1
theorem nodeA_9 {c:Ck} {op n m at_:Int} {args:List Nd} (h:nodeA c ⟨op,n,m,at_,args⟩=true) (h1:op≠1) (h3:op≠16) (h4:op≠3) (h5:op≠4) (h6:op≠5):(args.length:Int)=argsOf op:=by
 simp [nodeA,Nd.op,Nd.args,h1,h3,h4,h5,h6] at h;exact of_decide_eq_true h.1
theorem wnode_of {w0:World} {R k:Nat} {c:Ck} {x:Nd} (hx:nodeA c x=true) (hN:∀ y ∈ x.args,NdC w0 R k y):NdC w0 R (k+1) x:=by
 obtain ⟨op,n,m,at_,args⟩:=x;intro A aa cp K s w hD h hr;rw [ndW_succ] at hr ⊢;unfold ndStep at hr ⊢;simp only [Nd.op,Nd.n,Nd.m,Nd.at_,Nd.args] at hD hN ⊢
 by_cases e1:op=1
 . rw [if_pos e1] at hr ⊢;exact node1 hN hD h e1 hr
 rw [if_neg e1] at hr ⊢
 by_cases e2:op=2
 . rw [if_pos e2] at hr ⊢;exact node2 hN hD h e2 hr
 rw [if_neg e2] at hr ⊢
 by_cases e3:op=16
 . rw [if_pos e3] at hr ⊢;exact node16 hN hD h e3 hr
 rw [if_neg e3] at hr ⊢
 by_cases e4:op=3
 . rw [if_pos e4] at hr ⊢;exact node3 hN hD h e4 hr
 rw [if_neg e4] at hr ⊢
 by_cases e5:op=4
 . rw [if_pos e5] at hr ⊢
   subst e5;exact node4 hN hD h rfl (nodeA_4 hx) hr
 rw [if_neg e5] at hr ⊢
 by_cases e6:op=5
 . rw [if_pos e6] at hr ⊢;exact node5 hN hD h e6 hr
 rw [if_neg e6] at hr ⊢;have hl:=nodeA_9 hx e1 e3 e4 e5 e6;unfold argsOf at hl;rw [if_neg e2] at hl
 by_cases e7:op=6
 . rw [if_pos e7] at hr ⊢
   rw [if_pos e7] at hl;exact node6 hN hD h e7 (by omega) hr
 rw [if_neg e7] at hr hl ⊢
 by_cases e8:op=7
 . rw [if_pos e8] at hr ⊢
   rw [if_pos (by omega)] at hl;exact node7 hN hD h e8 (by omega) hr
 rw [if_neg e8] at hr ⊢
 by_cases e9:op=8
 . rw [if_pos e9] at hr ⊢
   rw [if_pos (by omega)] at hl;exact node8 hN hD h e9 (by omega) hr
 rw [if_neg e9] at hr ⊢;exact node9 hN hD h e1 e2 e3 e4 e5 e6 e7 e8 e9 hr
theorem wnode_any {w0:World} {R:Nat} {c:Ck}:∀ (k:Nat) (x:Nd),nodeA c x=true->ndsB c k x.args=true->NdC w0 R (k+1) x
 | 0,x,h1,h2=>wnode_of h1 (fun y hy=>by
  simp only [ndsB,decide_eq_true_eq] at h2;rw [List.eq_nil_of_length_eq_zero h2] at hy
  simp at hy)
 | k + 1,x,h1,h2=>wnode_of h1 (fun y hy=>by
     simp only [ndsB,List.all_eq_true,Bool.and_eq_true] at h2
     exact wnode_any k y (h2 y hy).1 (h2 y hy).2)
end Go.Proofs.YtndkhgakfodldaaGreatDoor
