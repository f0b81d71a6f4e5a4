/-
  A face is right: without the program. ScopeRight's call.
-/
import Derived.Test.YtndkhgakfodldaaGreatDoorUr
import Derived.Test.YtndkhgakfodldaaGreatDoorPo
import Derived.Deep.QuietTactic
import Derived.BigQuiet
import Derived.Deep.RegionHeld
namespace Go.Proofs.YtndkhgakfodldaaGreatDoor
set_option maxRecDepth 100000
open Go.RowKit Go.Maps Go.WideMaps
set_option linter.unusedSimpArgs false
set_option linter.unusedVariables false
theorem pick_sub:∀ (bs:List Bool) (l:List It),(pick bs l).Sublist l
 | [],l=>by simp [pick]
 | _ :: _,[]=>by simp [pick]
 | b :: bs,x :: l=>by
   have ih:=pick_sub bs l;unfold pick at ih ⊢;rw [List.zip_cons_cons,List.filterMap_cons]
   cases b with
   | false=>exact ih.cons x
   | true=>exact ih.cons_cons x
end Go.Proofs.YtndkhgakfodldaaGreatDoor

namespace Go.Proofs.YtndkhgakfodldaaGreatDoor
set_option maxRecDepth 100000
set_option maxHeartbeats 6400000
open Go.RowKit Go.Maps Go.WideMaps
set_option linter.unusedSimpArgs false
set_option linter.unusedVariables false
def Begun (f:FuncId):Prop:=∀ W:World,Calls Tryz.prog f #[] W fun e W'=>e = .returned (.bool true)/\Below W.heap.size W W'
end Go.Proofs.YtndkhgakfodldaaGreatDoor

namespace Go.Proofs.YtndkhgakfodldaaGreatDoor
set_option maxRecDepth 100000
set_option maxHeartbeats 1600000
open Go.RowKit Go.Maps Go.WideMaps
set_option linter.unusedSimpArgs false
def cntF:Fc:=⟨⟨#[99,110,116]⟩,[⟨1,3,0,⟨#[107]⟩⟩,⟨2,0,0,⟨#[115,117,109]⟩⟩,⟨3,4,1,⟨#[116]⟩⟩,⟨4,1,0,⟨#[100,111,119,110]⟩⟩]⟩
theorem cntF_ok:Fx.chkF cntF=0:=by kernel_rfl
theorem cnt_chk:chkM cntMo=0:=by kernel_rfl
theorem cnt_shown:shownIts cntMo=cntF.items:=by kernel_rfl
def okOr (r:Except Int Un):Un:=match r with | .ok u=>u | .error _=>⟨⟨#[]⟩,[],0,[],[]⟩
def cntUn:Un:=okOr (resolveM cntMo [])
def topUn:Un:=okOr (resolveM topMo [cntF])
theorem cnt_res:resolveM cntMo [] = .ok cntUn:=by kernel_rfl
theorem top_res:resolveM topMo [cntF] = .ok topUn:=by kernel_rfl
theorem top_res0:resolveM topMo [] = .error 8:=by kernel_rfl
theorem cntUn_data:cntUn.data=5:=by kernel_rfl
theorem cntUn_len:cntUn.parts.length=1/\cntUn.uses.length=0/\cntUn.main.length=0/\topUn.main.length=3/\topUn.uses.length=1/\topUn.parts.length=0:=⟨by kernel_rfl,by kernel_rfl,by kernel_rfl,by kernel_rfl,by kernel_rfl,by kernel_rfl⟩
theorem cnt_part:(ptsD cntUn.parts)[1]? = some (.int 1):=by kernel_rfl
theorem top_act:(acsD topUn.main)[1]? = some (.int 4)/\(acsD topUn.main)[2]? = some (.int 1)/\(acsD topUn.main)[3]? = some (.int 1):=⟨by kernel_rfl,by kernel_rfl,by kernel_rfl⟩
theorem EAt.num {w:World} {A:Nat->Prop} {a:Option Addr} {n:Nat} {ds:List D} (h:EAt w A a n ds) (hn:n≠0):∃ b off,a=some ⟨b,off,none⟩/\b<w.heap.size/\A b/\∀ (j:Nat) (k:Int),ds[j]? = some (.int k)->w.cell? ⟨b,off+j,none⟩=some (.int .i64 k):=by
 rcases h with h | ⟨b,off,cs,ha,hA,hb,hc,hx⟩
 . exact absurd h hn
 . refine ⟨b,off,ha,hb,hA,fun j k hj=>?_⟩
   obtain ⟨v,hv,hd⟩:=hx.get j _ hj;rw [enum_of hd] at hv;exact hc j _ hv
theorem counted_any (w:World) :
 Calls Tryz.prog 57 #[] w fun e w'=>∃ ad cap,e = .returned (.agg #[.string ⟨#[99,110,116]⟩,.slice ad 4 cap])/\DAt w' Tt ad 4 (itsD cntF.items)/\Below w.heap.size w w':=by
 go_enter Tryz.func57,Tryz.ntmps57;go_wp2_with fail
 obtain ⟨W,hW⟩:∃ W,W=allocsC w [(#[.string ⟨#[99,110,116]⟩,.slice (some ⟨w.heap.size+1,0,none⟩) 4 4],30),(#[.int .i64 1,.int .i64 3,.int .i64 0,.string ⟨#[107]⟩,.int .i64 2,.int .i64 0,.int .i64 0,.string ⟨#[115,117,109]⟩,.int .i64 3,.int .i64 4,.int .i64 1,.string ⟨#[116]⟩,.int .i64 4,.int .i64 1,.int .i64 0,.string ⟨#[100,111,119,110]⟩],98)]:=⟨_,rfl⟩
 have hB:Below w.heap.size w W:=by rw [hW];exact below_allocsC _ _
 have hD:DAt W Tt (some ⟨w.heap.size+1,0,none⟩) 4 (itsD cntF.items):=by
  rw [hW];refine dat_blk (blk_allocsC w _ 1 _ _ rfl) ?_ (by decide) (by decide);exact .cons (dint rfl) (.cons (dint rfl) (.cons (dint rfl) (.cons (dstr (by decide)) (.cons (dint rfl) (.cons (dint rfl) (.cons (dint rfl) (.cons (dstr (by decide)) (.cons (dint rfl) (.cons (dint rfl) (.cons (dint rfl) (.cons (dstr (by decide)) (.cons (dint rfl) (.cons (dint rfl) (.cons (dint rfl) (.cons (dstr (by decide)) .nil)))))))))))))))
 refine bodyPost_ret (v:=.agg #[.string ⟨#[99,110,116]⟩,.slice (some ⟨w.heap.size+1,0,none⟩) 4 4]) (by simp [results,Tryz.results57,go_sem]) rfl ⟨some ⟨w.heap.size+1,0,none⟩,4,rfl,?_,?_⟩
 . rw [hW] at hD;exact hD
 . rw [hW] at hB;exact hB
theorem SameFaces_same (f:Fc) (a a':Option Addr) (cap cap':Nat) (w:World) (hA:Fx.ItemsAt w a f.items) (hA':Fx.ItemsAt w a' f.items) (hl:f.items.length<=1000) :
 Calls Tryz.prog 18 #[.agg #[.string f.name,.slice a f.items.length cap],.agg #[.string f.name,.slice a' f.items.length cap']] w fun e w'=>e = .returned (.bool true)/\Below w.heap.size w w':=by
 obtain ⟨W0,hW0⟩:∃ W0,W0=(w.alloc (.cells #[.string f.name,.slice a f.items.length cap] 30)).alloc (.cells #[.string f.name,.slice a' f.items.length cap'] 30):=⟨_,rfl⟩
 have hB:Below w.heap.size w W0:=by rw [hW0];exact bl2 _ _ _
 have hX:W0.heap[w.heap.size]? = some (.cells #[.string f.name,.slice a f.items.length cap] 30):=by rw [hW0];exact heap_old (heap_newP _ _)
 have hY:W0.heap[w.heap.size+1]? = some (.cells #[.string f.name,.slice a' f.items.length cap'] 30):=by
  rw [hW0];simpa using heap_newP (w.alloc (.cells #[.string f.name,.slice a f.items.length cap] 30)) (.cells #[.string f.name,.slice a' f.items.length cap'] 30)
 have HI:=hid (hA.later hB);have HI':=hid (hA'.later hB);have HB:=hid hB;have HW:=hid hW0;obtain ⟨x0,x1,_⟩:=cellsOf2 hX;obtain ⟨y0,y1,_⟩:=cellsOf2 hY;have hYlt:=lt_of_heap hY;clear hA hA' hB hW0 hX hY;go_enter Tryz.func18,Tryz.ntmps18;go_wp2_with fail;rw [← HW.out];clear HW;go_wp2_with fail;have HX0:=hid x1;have HY0:=hid y1;have hz0:w.heap.size+1<W0.heap.size:=hYlt
 go_loopw [5] (fun i wr=>∃ k:Nat,k<=f.items.length/\i = .int .i64 k/\Below W0.heap.size W0 wr) (fun i _=>f.items.length - (intOf i).toNat)
 case atStart=>exact ⟨0,Nat.zero_le _,rfl,Below.refl _ _⟩
 case round=>
  obtain ⟨k,hk,rfl,hb⟩:=hrel;have HBw:=hid hb;have x2:wr.cell? ⟨w.heap.size,1,none⟩=some (.slice a f.items.length cap):=(hb.cell (p:=⟨w.heap.size,1,none⟩) (by show w.heap.size<_;omega)).trans HX0.out;have y2:wr.cell? ⟨w.heap.size+1,1,none⟩=some (.slice a' f.items.length cap'):=(hb.cell (p:=⟨w.heap.size+1,1,none⟩) (by show w.heap.size+1<_;omega)).trans HY0.out
  by_cases hlt:k<f.items.length
  . obtain ⟨b,off,rfl,hbl,c0,c1,c2,c3⟩:=(HI.out.later hb).place hlt
    obtain ⟨b',off',rfl,hbl',d0,d1,d2,d3⟩:=(HI'.out.later hb).place hlt;clear hb x0 x1 y0 y1;generalize f.items[k]=it at *;obtain ⟨kd,nn,att,xs⟩:=it;simp only at c0 c1 c2 c3 d0 d1 d2 d3
    go_wp2_with (go_quiet (fail))
    go_roundw
    case rel=>exact ⟨k+1,by omega,by go_num,HBw.out.os,HBw.out.tape,HBw.out.output,HBw.out.size,HBw.out.block⟩
    case measure=>simp [intOf];omega
  . obtain rfl:k=f.items.length:=by omega
    have HBf:=hid (HB.out.trans (hb.mono HB.out.size));clear hb;go_wp2_with fail
    go_returns
    exact ⟨rfl,HBf.out⟩
theorem face_cnt {w:World} {v:Value} {a1 a2 a3 a4:Option Addr} {c1 c2 c3 c4:Nat} (hM:MoAt w Tt cntMo v a1 c1 a2 c2 a3 c3 a4 c4) :
 Calls Tryz.prog 15 #[v] w fun e w'=>∃ a cap,e = .returned (.tuple #[.agg #[.string ⟨#[99,110,116]⟩,.slice a 4 cap],.int .i64 0])/\(Fx.ItemsAt w' a cntF.items/\Fx.AllFit cntF.items)/\Below w.heap.size w w':=
 (Face_any cntMo v a1 c1 a2 c2 a3 c3 a4 c4 w hM).mono fun e w' ⟨h,hb⟩=>by
   rcases h with ⟨h,_⟩ | ⟨_,a,cap,he,hE⟩
   . exact absurd cnt_chk h
   . rw [cnt_shown] at he hE
     exact ⟨a,cap,he,items_at hE,hb⟩
theorem res_cnt {w:World} {v:Value} {a1 a2 a3 a4:Option Addr} {c1 c2 c3 c4:Nat} (hM:MoAt w Tt cntMo v a1 c1 a2 c2 a3 c3 a4 c4) :
 Calls Tryz.prog 21 #[v,.slice none 0 0] w fun e w'=>∃ s x1 n1 y1 b2 o2 y2 x3 n3 y3,e = .returned (.tuple #[.agg #[.string s,.slice x1 n1 y1,.int .i64 5,.slice (some ⟨b2,o2,none⟩) 1 y2,.slice x3 n3 y3],.int .i64 0])/\(b2<w'.heap.size/\w'.cell? ⟨b2,o2+1,none⟩=some (.int .i64 1))/\Below w.heap.size w w':=
 (Resolve_any cntMo v a1 c1 a2 c2 a3 c3 a4 c4 [] none 0 w hM ⟨Nat.le_refl _,Nat.zero_le _,Or.inl rfl⟩).mono fun e w' ⟨h,hb⟩=>by
   rw [cnt_res] at h;obtain ⟨x1,y1,x2,y2,x3,y3,he,_,h2,_⟩:=h;rw [cntUn_len.1] at h2 he;obtain ⟨b,off,rfl,hlt,_,hc⟩:=h2.num (by decide);rw [cntUn_data] at he;exact ⟨_,x1,_,y1,b,off,y2,x3,_,y3,he,⟨hlt,hc 1 1 cnt_part⟩,hb⟩
theorem res_top0 {w:World} {v:Value} {a1 a2 a3 a4:Option Addr} {c1 c2 c3 c4:Nat} (hM:MoAt w Tt topMo v a1 c1 a2 c2 a3 c3 a4 c4) :
 Calls Tryz.prog 21 #[v,.slice none 0 0] w fun e w'=>e = .returned (.tuple #[.agg #[.string ⟨#[]⟩,.slice none 0 0,.int .i64 0,.slice none 0 0,.slice none 0 0],.int .i64 8])/\Below w.heap.size w w':=
 (Resolve_any topMo v a1 c1 a2 c2 a3 c3 a4 c4 [] none 0 w hM ⟨Nat.le_refl _,Nat.zero_le _,Or.inl rfl⟩).mono fun e w' ⟨h,hb⟩=>by
   rw [top_res0] at h;exact ⟨h.1,hb⟩
theorem parse_top (w:World):Calls Tryz.prog 55 #[.string topS] w fun e w'=>∃ v a1 c1 a2 c2 a3 c3 a4 c4,e = .returned (.tuple #[v,.int .i64 0])/\MoAt w' Tt topMo v a1 c1 a2 c2 a3 c3 a4 c4/\Below w.heap.size w w':=
 (Parse_any topS w (by decide)).mono fun e w' ⟨h,hb⟩=>by
   rcases h with ⟨h,_⟩ | ⟨m,v,a1,c1,a2,c2,a3,c3,a4,c4,hp,_,he,hM⟩
   . rw [top_pars] at h;cases h
   . rw [top_pars] at hp
     obtain rfl:=Option.some.inj hp;exact ⟨v,a1,c1,a2,c2,a3,c3,a4,c4,he,hM,hb⟩
end Go.Proofs.YtndkhgakfodldaaGreatDoor

namespace Go.Proofs.YtndkhgakfodldaaGreatDoor
set_option maxRecDepth 100000
set_option maxHeartbeats 12800000
open Go.RowKit Go.Maps Go.WideMaps
set_option linter.unusedSimpArgs false
structure Sg (w W:World) (b1 b3 b5:Nat) (a:Option Addr) (cap:Nat) (s:ByteArray) (x1:Option Addr) (n1 y1:Nat) (b2 o2 y2:Nat) (x3:Option Addr) (n3 y3:Nat) (z1:Option Addr) (d1:Nat) (z2:Option Addr) (d2:Nat) (z3:Option Addr) (d3:Nat) (z4:Option Addr) (d4:Nat):Prop where
 below:Below w.heap.size w W
 h1:W.heap[b1]? = some (.cells #[.string ⟨#[99,110,116]⟩,.slice a 4 cap] 30 (0,0))
 its:Fx.ItemsAt W a cntF.items
 fit:Fx.AllFit cntF.items
 h3:W.heap[b3]? = some (.cells #[.string s,.slice x1 n1 y1,.int .i64 5,.slice (some ⟨b2,o2,none⟩) 1 y2,.slice x3 n3 y3] 42 (0,0))
 l3:b2<W.heap.size
 c3:W.cell? ⟨b2,o2+1,none⟩=some (.int .i64 1)
 h5:W.heap[b5]? = some (.cells #[.string ⟨#[116,111,112]⟩,.slice z1 1 d1,.slice z2 0 d2,.slice z3 0 d3,.slice z4 3 d4] 27 (0,0))
 mo:MoAt W Tt topMo (.agg #[.string ⟨#[116,111,112]⟩,.slice z1 1 d1,.slice z2 0 d2,.slice z3 0 d3,.slice z4 3 d4]) z1 d1 z2 d2 z3 d3 z4 d4
theorem Sg.later {w W W':World} {b1 b3 b5:Nat} {a:Option Addr} {cap:Nat} {s:ByteArray} {x1:Option Addr} {n1 y1 b2 o2 y2:Nat} {x3:Option Addr} {n3 y3:Nat} {z1 z2 z3 z4:Option Addr} {d1 d2 d3 d4:Nat} (h:Sg w W b1 b3 b5 a cap s x1 n1 y1 b2 o2 y2 x3 n3 y3 z1 d1 z2 d2 z3 d3 z4 d4) (hb:Below W.heap.size W W'):Sg w W' b1 b3 b5 a cap s x1 n1 y1 b2 o2 y2 x3 n3 y3 z1 d1 z2 d2 z3 d3 z4 d4:=
 ⟨h.below.trans (hb.mono h.below.size),(hb.block _ (lt_of_heap h.h1)).trans h.h1,h.its.later hb,h.fit,(hb.block _ (lt_of_heap h.h3)).trans h.h3,Nat.lt_of_lt_of_le h.l3 hb.size,(hb.cell (p:=⟨b2,o2+1,none⟩) h.l3).trans h.c3,(hb.block _ (lt_of_heap h.h5)).trans h.h5,h.mo.later hb⟩
structure Tg (W:World) (b7:Nat) (s:ByteArray) (x1:Option Addr) (n1 y1:Nat) (d:Int) (x2:Option Addr) (n2 y2 b3 o3 y3:Nat):Prop where
 h7:W.heap[b7]? = some (.cells #[.string s,.slice x1 n1 y1,.int .i64 d,.slice x2 n2 y2,.slice (some ⟨b3,o3,none⟩) 3 y3] 42 (0,0))
 l7:b3<W.heap.size
 n:W.cell? ⟨b3,o3+1,none⟩=some (.int .i64 4)
 m:W.cell? ⟨b3,o3+2,none⟩=some (.int .i64 1)
 at':W.cell? ⟨b3,o3+3,none⟩=some (.int .i64 1)
theorem Tg.later {W W':World} {b7:Nat} {s:ByteArray} {x1:Option Addr} {n1 y1:Nat} {d:Int} {x2:Option Addr} {n2 y2 b3 o3 y3:Nat} (h:Tg W b7 s x1 n1 y1 d x2 n2 y2 b3 o3 y3) (hb:Below W.heap.size W W'):Tg W' b7 s x1 n1 y1 d x2 n2 y2 b3 o3 y3:=
 ⟨(hb.block _ (lt_of_heap h.h7)).trans h.h7,Nat.lt_of_lt_of_le h.l7 hb.size,(hb.cell (p:=⟨b3,o3+1,none⟩) h.l7).trans h.n,(hb.cell (p:=⟨b3,o3+2,none⟩) h.l7).trans h.m,(hb.cell (p:=⟨b3,o3+3,none⟩) h.l7).trans h.at'⟩
theorem res_topF {w:World} {v:Value} {a1 a2 a3 a4:Option Addr} {c1 c2 c3 c4:Nat} (hM:MoAt w Tt topMo v a1 c1 a2 c2 a3 c3 a4 c4) {al:Option Addr} (cl:Nat) (hF:DAt w Tt al 1 (fcsD [cntF])) :
 Calls Tryz.prog 21 #[v,.slice al 1 cl] w fun e w'=>∃ s x1 n1 y1 d x2 n2 y2 b3 o3 y3,e = .returned (.tuple #[.agg #[.string s,.slice x1 n1 y1,.int .i64 d,.slice x2 n2 y2,.slice (some ⟨b3,o3,none⟩) 3 y3],.int .i64 0])/\(w.heap.size<=b3/\b3<w'.heap.size/\w'.cell? ⟨b3,o3+1,none⟩=some (.int .i64 4)/\w'.cell? ⟨b3,o3+2,none⟩=some (.int .i64 1)/\w'.cell? ⟨b3,o3+3,none⟩=some (.int .i64 1))/\Below w.heap.size w w':=
 (Resolve_any topMo v a1 c1 a2 c2 a3 c3 a4 c4 [cntF] al cl w hM hF).mono fun e w' ⟨h,hb⟩=>by
   rw [top_res] at h;obtain ⟨x1,y1,x2,y2,x3,y3,he,_,_,h3⟩:=h;rw [cntUn_len.2.2.2.1] at h3 he;obtain ⟨b,off,rfl,hlt,hlo,hc⟩:=h3.num (by decide);exact ⟨_,x1,_,y1,_,x2,_,y2,b,off,y3,he,⟨hlo,hlt,hc 1 4 top_act.1,hc 2 1 top_act.2.1,hc 3 1 top_act.2.2⟩,hb⟩
theorem face_row {w:World} {ad:Option Addr} {cp:Nat} (hD:DAt w Tt ad 4 (itsD cntF.items)) (t:TypeId):DAt (w.alloc (.cells #[.string ⟨#[99,110,116]⟩,.slice ad 4 cp] t)) Tt (some ⟨w.heap.size,0,none⟩) 1 (fcsD [cntF]):=by
 refine dat_blk (blk_allocsC w [(#[.string ⟨#[99,110,116]⟩,.slice ad 4 cp],t)] 0 _ _ rfl) ?_ (by decide) (by decide);exact .cons (dstr (by decide)) (.cons (hD.moves ⟨by simp,fun b hb _=>⟨trivial,(al1 _ _).block b hb⟩⟩).val .nil)
theorem face_row1 {w:World} {ad:Option Addr} {cp:Nat} (hD:DAt w Tt ad 4 (itsD cntF.items)) (o:Obj) (t:TypeId):DAt ((w.alloc o).alloc (.cells #[.string ⟨#[99,110,116]⟩,.slice ad 4 cp] t)) Tt (some ⟨w.heap.size+1,0,none⟩) 1 (fcsD [cntF]):=by
 have:=face_row (cp:=cp) (hD.moves (w':=w.alloc o) ⟨by simp,fun b hb _=>⟨trivial,(al1 _ _).block b hb⟩⟩) t;simpa using this
theorem five {W:World} {b:Nat} {v0 v1 v2 v3 v4:Value} {t:TypeId} (h:W.heap[b]? = some (.cells #[v0,v1,v2,v3,v4] t (0,0))):W.cell? ⟨b,0,none⟩=some v0/\W.cell? ⟨b,1,none⟩=some v1/\W.cell? ⟨b,2,none⟩=some v2/\W.cell? ⟨b,3,none⟩=some v3/\W.cell? ⟨b,4,none⟩=some v4:=
 have h3:=cellsOf5 h
 ⟨h3.1,h3.2.1,h3.2.2.1,h3.2.2.2.1,h3.2.2.2.2.1⟩
theorem sg_cells {w W:World} {b1 b3 b5:Nat} {a:Option Addr} {cap:Nat} {s:ByteArray} {x1:Option Addr} {n1 y1 b2 o2 y2:Nat} {x3:Option Addr} {n3 y3:Nat} {z1 z2 z3 z4:Option Addr} {d1 d2 d3 d4:Nat} (h:Sg w W b1 b3 b5 a cap s x1 n1 y1 b2 o2 y2 x3 n3 y3 z1 d1 z2 d2 z3 d3 z4 d4) {b7:Nat} {s8:ByteArray} {p1:Option Addr} {m1 q1:Nat} {dd:Int} {p2:Option Addr} {m2 q2 b8 o8 q3:Nat} (t:Tg W b7 s8 p1 m1 q1 dd p2 m2 q2 b8 o8 q3) :
 W.cell? ⟨b1,0,none⟩=some (.string ⟨#[99,110,116]⟩)/\W.cell? ⟨b1,1,none⟩=some (.slice a 4 cap)/\W.cell? ⟨b3,2,none⟩=some (.int .i64 5)/\W.cell? ⟨b3,3,none⟩=some (.slice (some ⟨b2,o2,none⟩) 1 y2)/\W.cell? ⟨b2,o2+1,none⟩=some (.int .i64 1)/\W.cell? ⟨b7,4,none⟩=some (.slice (some ⟨b8,o8,none⟩) 3 q3)/\W.cell? ⟨b8,o8+1,none⟩=some (.int .i64 4)/\W.cell? ⟨b8,o8+2,none⟩=some (.int .i64 1)/\W.cell? ⟨b8,o8+3,none⟩=some (.int .i64 1):=
 have h1:=cellsOf2 h.h1;have h3:=five h.h3;have h7:=five t.h7
 ⟨h1.1,h1.2.1,h3.2.2.1,h3.2.2.2.1,h.c3,h7.2.2.2.2,t.n,t.m,t.at'⟩
theorem tg_new {w8:World} (s8:ByteArray) (p1:Option Addr) (m1 q1:Nat) (dd:Int) (p2:Option Addr) (m2 q2 b8 o8 q3:Nat) (t:TypeId) (ht:t=42) (h:b8<w8.heap.size/\w8.cell? ⟨b8,o8+1,none⟩=some (.int .i64 4)/\w8.cell? ⟨b8,o8+2,none⟩=some (.int .i64 1)/\w8.cell? ⟨b8,o8+3,none⟩=some (.int .i64 1)) :
 Tg (w8.alloc (.cells #[.string s8,.slice p1 m1 q1,.int .i64 dd,.slice p2 m2 q2,.slice (some ⟨b8,o8,none⟩) 3 q3] t)) w8.heap.size s8 p1 m1 q1 dd p2 m2 q2 b8 o8 q3:=by
 subst ht;have hB:=al1 w8 (.cells #[.string s8,.slice p1 m1 q1,.int .i64 dd,.slice p2 m2 q2,.slice (some ⟨b8,o8,none⟩) 3 q3] 42);exact ⟨heap_newP _ _,Nat.lt_of_lt_of_le h.1 hB.size,(hB.cell (p:=⟨b8,o8+1,none⟩) h.1).trans h.2.1,(hB.cell (p:=⟨b8,o8+2,none⟩) h.1).trans h.2.2.1,(hB.cell (p:=⟨b8,o8+3,none⟩) h.1).trans h.2.2.2⟩
theorem tg_set {w8:World} {b7:Nat} {x0 x1 x2 x3 x4:Value} (s8:ByteArray) (p1:Option Addr) (m1 q1:Nat) (dd:Int) (p2:Option Addr) (m2 q2 b8 o8 q3:Nat) (hz:w8.heap[b7]? = some (.cells #[x0,x1,x2,x3,x4] 42)) (hn:b8≠b7) (h:b8<w8.heap.size/\w8.cell? ⟨b8,o8+1,none⟩=some (.int .i64 4)/\w8.cell? ⟨b8,o8+2,none⟩=some (.int .i64 1)/\w8.cell? ⟨b8,o8+3,none⟩=some (.int .i64 1)) :
 Tg (set5 w8 b7 (.string s8) (.slice p1 m1 q1) (.int .i64 dd) (.slice p2 m2 q2) (.slice (some ⟨b8,o8,none⟩) 3 q3)) b7 s8 p1 m1 q1 dd p2 m2 q2 b8 o8 q3:=by
 have e:(set5 w8 b7 (.string s8) (.slice p1 m1 q1) (.int .i64 dd) (.slice p2 m2 q2) (.slice (some ⟨b8,o8,none⟩) 3 q3)).heap[b8]? = w8.heap[b8]?:=(heap_set_ne hn _).trans ((heap_set_ne hn _).trans ((heap_set_ne hn _).trans ((heap_set_ne hn _).trans (heap_set_ne hn _))));exact ⟨heap_set (heap_set (heap_set (heap_set (heap_set hz _) _) _) _) _,by simpa using h.1,(World.cell?_of_block (w:=w8) (a:=⟨b8,o8+1,none⟩) e).trans h.2.1,(World.cell?_of_block (w:=w8) (a:=⟨b8,o8+2,none⟩) e).trans h.2.2.1,(World.cell?_of_block (w:=w8) (a:=⟨b8,o8+3,none⟩) e).trans h.2.2.2⟩
theorem check_cnt {w:World} {a:Option Addr} {cap:Nat} (hI:Fx.ItemsAt w a cntF.items) (hf:Fx.AllFit cntF.items) :
 Calls Tryz.prog 19 #[.agg #[.string ⟨#[99,110,116]⟩,.slice a 4 cap]] w fun e w'=>e = .returned (.int .i64 0)/\Below w.heap.size w w':=by
 have:=Fx.scopeCheck_any cntF a cap w hI (by decide) (by decide) hf;rw [cntF_ok] at this;exact this
theorem later_blk {w w':World} {b:Nat} {x:Obj} (h:w.heap[b]? = some x) (hb:Below w.heap.size w w'):w'.heap[b]? = some x:=(hb.block _ (lt_of_heap h)).trans h
theorem new_d (w:World) (o:Obj):(w.alloc o).drew.heap[w.heap.size]? = some o:=heap_newP w o
theorem new_1 (w:World) (o p:Obj):((w.alloc o).alloc p).heap[w.heap.size+1]? = some p:=by simpa using heap_newP (w.alloc o) p
theorem scopeBegun_any (w:World) :
 Calls Tryz.prog 17 #[] w fun e w'=>e = .returned (.bool true)/\Below w.heap.size w w':=by
 go_enter Tryz.func17,Tryz.ntmps17;go_wp2_with fail;refine (counter_any _).mono ?_;rintro e w1 ⟨v,a1,c1,a2,c2,a3,c3,a4,c4,rfl,hM,hb1⟩;have HM:=hid hM;have HB1:=hid hb1;clear hM hb1;go_wp2_with fail;refine (face_cnt HM.out).mono ?_;rintro e w2 ⟨a,cap,rfl,hI,hb2⟩;have HB2:=hid (thenB HB1.out hb2);have HI:=hid hI;clear hb2 HM HB1 hI;go_wp2_with fail
 obtain ⟨W2,hW2⟩:∃ W2,W2=w2.alloc (.cells #[.string ⟨#[99,110,116]⟩,.slice a 4 cap] 30):=⟨_,rfl⟩
 have hB2:Below w2.heap.size w2 W2:=by rw [hW2];exact al1 _ _
 have HX2:Hid (W2.heap[w2.heap.size]? = some (.cells #[.string ⟨#[99,110,116]⟩,.slice a 4 cap] 30 (0,0))):=by rw [hW2];exact heap_newP _ _
 have HBW2:=hid (thenB HB2.out hB2);have HI2:=hid (And.intro (HI.out.1.later hB2) HI.out.2);rw [← hW2];clear hW2 hB2 HI HB2;go_wp2_with fail;refine (counter_any _).mono ?_;rintro e w3 ⟨v,a1,c1,a2,c2,a3,c3,a4,c4,rfl,hM,hb3⟩;have HM:=hid hM;have HBW3:=hid (thenB HBW2.out hb3);have HX3:=hid ((hb3.block _ (lt_of_heap HX2.out)).trans HX2.out);have HI3:=hid (And.intro (HI2.out.1.later hb3) HI2.out.2);clear hM hb3 HBW2 HX2 HI2;go_wp2_with fail;refine (res_cnt HM.out).mono ?_;rintro e w4 ⟨s,x1,n1,y1,b2,o2,y2,x3,n3,y3,rfl,hC,hb4⟩;have HC:=hid hC;have HBW4:=hid (thenB HBW3.out hb4);have HX4:=hid ((hb4.block _ (lt_of_heap HX3.out)).trans HX3.out);have HI4:=hid (And.intro (HI3.out.1.later hb4) HI3.out.2);clear HM hb4 HBW3 HX3 HI3 hC;go_wp2_with fail
 obtain ⟨W4,hW4⟩:∃ W4,W4=w4.alloc (.cells #[.string s,.slice x1 n1 y1,.int .i64 5,.slice (some ⟨b2,o2,none⟩) 1 y2,.slice x3 n3 y3] 42):=⟨_,rfl⟩
 have hB4:Below w4.heap.size w4 W4:=by rw [hW4];exact al1 _ _
 have HU4:Hid (W4.heap[w4.heap.size]? = some (.cells #[.string s,.slice x1 n1 y1,.int .i64 5,.slice (some ⟨b2,o2,none⟩) 1 y2,.slice x3 n3 y3] 42 (0,0))):=by rw [hW4];exact heap_newP _ _
 have HBW5:=hid (thenB HBW4.out hB4);have HX5:=hid ((hB4.block _ (lt_of_heap HX4.out)).trans HX4.out);have HI5:=hid (And.intro (HI4.out.1.later hB4) HI4.out.2);have HC5:=hid (And.intro (Nat.lt_of_lt_of_le HC.out.1 hB4.size) ((hB4.cell (p:=⟨b2,o2+1,none⟩) HC.out.1).trans HC.out.2));rw [← hW4];clear hW4 hB4 HBW4 HX4 HI4 HC;go_wp2_with fail;refine (topText_any _).mono ?_;rintro e w5 ⟨rfl,h5⟩
 have hB5:Below W4.heap.size W4 w5:=by rw [h5];exact Below.refl _ _
 clear h5;go_wp2_with fail;refine (parse_top w5).mono ?_;rintro e w6 ⟨u,z1,d1,z2,d2,z3,d3,z4,d4,rfl,hM,hb6⟩;have hB6:=thenB hB5 hb6;obtain rfl:u = .agg #[.string ⟨#[116,111,112]⟩,.slice z1 1 d1,.slice z2 0 d2,.slice z3 0 d3,.slice z4 3 d4]:=hM.val;have HM:=hid hM;have HB6:=hid hB6;clear hM hB6 hb6 hB5;go_wp2_with fail
 obtain ⟨W6,hW6⟩:∃ W6,W6=w6.alloc (.cells #[.string ⟨#[116,111,112]⟩,.slice z1 1 d1,.slice z2 0 d2,.slice z3 0 d3,.slice z4 3 d4] 27):=⟨_,rfl⟩
 have hB7:Below w6.heap.size w6 W6:=by rw [hW6];exact al1 _ _
 have hB:=thenB HB6.out hB7
 have HS:Hid (Sg w W6 w2.heap.size w4.heap.size w6.heap.size a cap s x1 n1 y1 b2 o2 y2 x3 n3 y3 z1 d1 z2 d2 z3 d3 z4 d4):=
  ⟨thenB HBW5.out hB,(hB.block _ (lt_of_heap HX5.out)).trans HX5.out,HI5.out.1.later hB,HI5.out.2,(hB.block _ (lt_of_heap HU4.out)).trans HU4.out,Nat.lt_of_lt_of_le HC5.out.1 hB.size,(hB.cell (p:=⟨b2,o2+1,none⟩) HC5.out.1).trans HC5.out.2,by rw [hW6];exact heap_newP _ _,HM.out.later hB7⟩
 rw [← hW6];clear hW6 hB7 hB HB6 HBW5 HX5 HI5 HU4 HC5 HM
 rename_i K hK
 have TAIL:∀ {W9:World} {b7:Nat} {s8:ByteArray} {p1:Option Addr} {m1 q1:Nat} {dd:Int} {p2:Option Addr} {m2 q2 b8 o8 q3:Nat} {t9 t10 t11 t12 t13 t14 t15 t16 t17 t18 t19 t20 t21 t22 t23 t24 t25 t26 t27 t28 t29 t30 t31 t32 t33 t34 t35 t36 t37 t38 t39 t40 t41 t42 t43 t44 t45 t46 t47 t48 t49 t50 t51 t52 t53 t54 t55 t56 t57 t58 t59 t60 t61 t62 t63 t64 t65 t66 t67 t68 t69 t70 t71 t72 t73 t74 t75 t76 t77 t78 t79 t80 t81 t82 t83 t84 t85 t86 t87 t88 t89 t90 t91 t92 t93 t94 t95 t96 t97 t98 t99 t100 t101 t102 t103 t104 t105 t106 t107 t108 t109 t110 t111 t112 t113 t114:Value},Sg w W9 w2.heap.size w4.heap.size w6.heap.size a cap s x1 n1 y1 b2 o2 y2 x3 n3 y3 z1 d1 z2 d2 z3 d3 z4 d4->Tg W9 b7 s8 p1 m1 q1 dd p2 m2 q2 b8 o8 q3->K { tmps:=#[.bool false,.pointer (some ⟨w2.heap.size,0,none⟩),.int .i64 0,.pointer (some ⟨w4.heap.size,0,none⟩),.int .i64 0,.pointer (some ⟨w6.heap.size,0,none⟩),.int .i64 0,.pointer (some ⟨b7,0,none⟩),.int .i64 0,t9,t10,t11,t12,t13,t14,t15,t16,t17,t18,t19,t20,t21,t22,t23,t24,t25,t26,t27,t28,t29,t30,t31,t32,t33,t34,t35,t36,t37,t38,t39,t40,t41,t42,t43,t44,t45,t46,t47,t48,t49,t50,t51,t52,t53,t54,t55,t56,t57,t58,t59,t60,t61,t62,t63,t64,t65,t66,t67,t68,t69,t70,t71,t72,t73,t74,t75,t76,t77,t78,t79,t80,t81,t82,t83,t84,t85,t86,t87,t88,t89,t90,t91,t92,t93,t94,t95,t96,t97,t98,t99,t100,t101,t102,t103,t104,t105,t106,t107,t108,t109,t110,t111,t112,t113,t114],defers:=[] } W9:=by
  clear HS;intro W9 b7 s8 p1 m1 q1 dd p2 m2 q2 b8 o8 q3 t9 t10 t11 t12 t13 t14 t15 t16 t17 t18 t19 t20 t21 t22 t23 t24 t25 t26 t27 t28 t29 t30 t31 t32 t33 t34 t35 t36 t37 t38 t39 t40 t41 t42 t43 t44 t45 t46 t47 t48 t49 t50 t51 t52 t53 t54 t55 t56 t57 t58 t59 t60 t61 t62 t63 t64 t65 t66 t67 t68 t69 t70 t71 t72 t73 t74 t75 t76 t77 t78 t79 t80 t81 t82 t83 t84 t85 t86 t87 t88 t89 t90 t91 t92 t93 t94 t95 t96 t97 t98 t99 t100 t101 t102 t103 t104 t105 t106 t107 t108 t109 t110 t111 t112 t113 t114 hS9 hT9;have HS9:=hid hS9;have HT9:=hid hT9;clear hS9 hT9;refine hK _ _ ?_;clear hK;obtain ⟨y0,y1',y2',y3',y4'⟩:=five HS9.out.h5;have Hb7:=hid (lt_of_heap HT9.out.h7);go_wp2_with fail;refine (res_top0 HS9.out.mo).mono ?_;rintro e w10 ⟨rfl,hb10⟩;have HS10:=hid (HS9.out.later hb10);have HT10:=hid (HT9.out.later hb10);clear hb10 HS9 HT9 y0 y1' y2' y3' y4';go_wp2_with fail
  obtain ⟨W10,hW10⟩:∃ W10,W10=w10.alloc (.cells #[.string ⟨#[]⟩,.slice none 0 0,.int .i64 0,.slice none 0 0,.slice none 0 0] 42):=⟨_,rfl⟩
  have hB10:Below w10.heap.size w10 W10:=by rw [hW10];exact al1 _ _
  have HSd:=hid ((HS10.out.later hB10).later (bdrew W10));have HTd:=hid ((HT10.out.later hB10).later (bdrew W10));rw [← hW10];clear hW10 hB10 HS10 HT10;have FF:=hid (sg_cells HSd.out HTd.out);refine wp_region_held_drew (S:=(fun W=>W.cell? ⟨w2.heap.size,0,none⟩=some (.string ⟨#[99,110,116]⟩)/\W.cell? ⟨w2.heap.size,1,none⟩=some (.slice a 4 cap)/\W.cell? ⟨w4.heap.size,2,none⟩=some (.int .i64 5)/\W.cell? ⟨w4.heap.size,3,none⟩=some (.slice (some ⟨b2,o2,none⟩) 1 y2)/\W.cell? ⟨b2,o2+1,none⟩=some (.int .i64 1)/\W.cell? ⟨b7,4,none⟩=some (.slice (some ⟨b8,o8,none⟩) 3 q3)/\W.cell? ⟨b8,o8+1,none⟩=some (.int .i64 4)/\W.cell? ⟨b8,o8+2,none⟩=some (.int .i64 1)/\W.cell? ⟨b8,o8+3,none⟩=some (.int .i64 1))) (by kernel_rfl) FF.out (fun hHeld=>?_);refine wpAnyH_take (i:=0) (oi:=⟨some 38,_,_,_,_,_⟩) (v:=.int .i64 0) rfl (by kernel_rfl) (by kernel_rfl) (by kernel_rfl) (fun _ _ _ h=>h) (Or.inl ⟨by kernel_rfl,fun W _=>by kernel_rfl⟩) (by assumption) ?_
  refine wpAnyH_take (i:=1) (oi:=⟨some 39,_,_,_,_,_⟩) (v:=.bool true) rfl (by kernel_rfl) (by kernel_rfl) (by kernel_rfl) (fun _ _ _ h=>h) (Or.inl ⟨by kernel_rfl,fun W _=>by kernel_rfl⟩) (by assumption) ?_;refine wpAnyH_take (i:=2) (oi:=⟨some 40,_,_,_,_,_⟩) (v:=.bool true) rfl (by kernel_rfl) (by kernel_rfl) (by kernel_rfl) (fun _ _ _ h=>h) (Or.inl ⟨by kernel_rfl,fun W _=>by kernel_rfl⟩) (by assumption) ?_;refine wpAnyH_take (i:=3) (oi:=⟨some 41,_,_,_,_,_⟩) (v:=.int .i64 0) rfl (by kernel_rfl) (by kernel_rfl) (by kernel_rfl) (fun _ _ _ h=>h) (Or.inl ⟨by kernel_rfl,fun W _=>by kernel_rfl⟩) (by assumption) ?_;refine wpAnyH_take (i:=4) (oi:=⟨some 42,_,_,_,_,_⟩) (v:=.bool true) rfl (by kernel_rfl) (by kernel_rfl) (by kernel_rfl) (fun _ _ _ h=>h) (Or.inl ⟨by kernel_rfl,fun W _=>by kernel_rfl⟩) (by assumption) ?_;refine wpAnyH_take (i:=5) (oi:=⟨some 43,_,_,_,_,_⟩) (v:=.bool true) rfl (by kernel_rfl) (by kernel_rfl) (by kernel_rfl) (fun _ _ _ h=>h) (Or.inl ⟨by kernel_rfl,fun W _=>by kernel_rfl⟩) (by assumption) ?_
  refine wpAnyH_take (i:=6) (oi:=⟨some 44,_,_,_,_,_⟩) (v:=.bool true) rfl (by kernel_rfl) (by kernel_rfl) (by kernel_rfl) (fun _ _ _ h=>h) (Or.inl ⟨by kernel_rfl,fun W _=>by kernel_rfl⟩) (by assumption) ?_;refine wpAnyH_take (i:=7) (oi:=⟨some 45,_,_,_,_,_⟩) (v:=.int .i64 0) rfl (by kernel_rfl) (by kernel_rfl) (by kernel_rfl) (fun _ _ _ h=>h) (Or.inl ⟨by kernel_rfl,fun W _=>by kernel_rfl⟩) (by assumption) ?_;refine wpAnyH_take (i:=8) (oi:=⟨some 46,_,_,_,_,_⟩) (v:=.bool true) rfl (by kernel_rfl) (by kernel_rfl) (by kernel_rfl) (fun _ _ _ h=>h) (Or.inl ⟨by kernel_rfl,fun W _=>by kernel_rfl⟩) (by assumption) ?_;refine wpAnyH_take (i:=9) (oi:=⟨some 47,_,_,_,_,_⟩) (v:=.bool true) rfl (by kernel_rfl) (by kernel_rfl) (by kernel_rfl) (fun _ _ _ h=>h) (Or.inl ⟨by kernel_rfl,fun W _=>by kernel_rfl⟩) (by assumption) ?_;refine wpAnyH_take (i:=10) (oi:=⟨some 48,_,_,_,_,_⟩) (v:=.bool true) rfl (by kernel_rfl) (by kernel_rfl) (by kernel_rfl) (fun _ _ _ h=>h) (Or.inl ⟨by kernel_rfl,fun W _=>by kernel_rfl⟩) (by assumption) ?_
  refine wpAnyH_take (i:=11) (oi:=⟨some 49,_,_,_,_,_⟩) (v:=.int .i64 0) rfl (by kernel_rfl) (by kernel_rfl) (by kernel_rfl) (fun _ _ _ h=>h) (Or.inl ⟨by kernel_rfl,fun W _=>by kernel_rfl⟩) (by assumption) ?_;refine wpAnyH_take (i:=12) (oi:=⟨some 50,_,_,_,_,_⟩) (v:=.bool true) rfl (by kernel_rfl) (by kernel_rfl) (by kernel_rfl) (fun _ _ _ h=>h) (Or.inl ⟨by kernel_rfl,fun W _=>by kernel_rfl⟩) (by assumption) ?_;refine wpAnyH_take (i:=13) (oi:=⟨some 51,_,_,_,_,_⟩) (v:=.bool true) rfl (by kernel_rfl) (by kernel_rfl) (by kernel_rfl) (fun _ _ _ h=>h) (Or.inl ⟨by kernel_rfl,fun W _=>by kernel_rfl⟩) (by assumption) ?_;refine wpAnyH_take (i:=14) (oi:=⟨some 52,_,_,_,_,_⟩) (v:=.bool true) rfl (by kernel_rfl) (by kernel_rfl) (by kernel_rfl) (fun _ _ _ h=>h) (Or.inl ⟨by kernel_rfl,fun W _=>by kernel_rfl⟩) (by assumption) ?_;refine wpAnyH_take (i:=15) (oi:=⟨some 53,_,_,_,_,_⟩) (v:=.int .i64 8) rfl (by kernel_rfl) (by kernel_rfl) (by kernel_rfl) (fun _ _ _ h=>h) (Or.inl ⟨by kernel_rfl,fun W _=>by kernel_rfl⟩) (by assumption) ?_
  refine wpAnyH_take (i:=16) (oi:=⟨some 54,_,_,_,_,_⟩) (v:=.bool true) rfl (by kernel_rfl) (by kernel_rfl) (by kernel_rfl) (fun _ _ _ h=>h) (Or.inl ⟨by kernel_rfl,fun W _=>by kernel_rfl⟩) (by assumption) ?_;refine wpAnyH_take (i:=17) (oi:=⟨some 55,_,_,_,_,_⟩) (v:=.bool true) rfl (by kernel_rfl) (by kernel_rfl) (by kernel_rfl) (fun _ _ _ h=>h) (Or.inl ⟨by kernel_rfl,fun W _=>by kernel_rfl⟩) (by assumption) ?_;refine wpAnyH_take (i:=18) (oi:=⟨some 56,_,_,_,_,_⟩) (v:=.bool true) rfl (by kernel_rfl) (by kernel_rfl) (by kernel_rfl) (fun _ _ _ h=>h) (Or.inl ⟨by kernel_rfl,fun W _=>by kernel_rfl⟩) (by assumption) ?_;refine wpAnyH_take (i:=19) (oi:=⟨some 57,_,_,_,_,_⟩) (v:=.agg #[.string ⟨#[99,110,116]⟩,.slice a 4 cap]) rfl (by kernel_rfl) (by kernel_rfl) (by kernel_rfl) (fun _ _ _ h=>h) (Or.inl ⟨by kernel_rfl,fun W hSW=>by (obtain ⟨s0,s1,s2,s3,s4,s5,s6,s7,s8⟩:=hSW;go_simp)⟩) (by assumption) ?_
  refine wpAnyH_ready (rs:=[20]) (by kernel_rfl) (by simp) ?_;refine AllReadyH.cons rfl (fun K hK=>?_) AllReadyH.nil;go_simp
  go_wp2_with (go_at_call 57;refine (counted_any _).mono ?_;rintro e w11 ⟨ae,ce,rfl,hD,hb⟩;have HD11:=hid (items_atD (l:=cntF.items) hD).1;have HSx:=hid (HSd.out.later hb);have HTx:=hid (HTd.out.later hb);clear hD hb FF;have FF:=hid (sg_cells HSx.out HTx.out))
  refine hK.out _ _ FF.out (fun hHeld=>?_);clear hK K;refine wpAnyH_ready (rs:=[21]) (by kernel_rfl) (by simp) ?_;refine AllReadyH.cons rfl (fun K hK=>?_) AllReadyH.nil;go_simp
  go_wp2_with (go_at_call 18;refine (SameFaces_same cntF _ _ _ _ _ HSx.out.its HD11.out (by decide)).mono ?_;rintro e w12 ⟨rfl,hb⟩;have HSy:=hid (HSx.out.later hb);have HTy:=hid (HTx.out.later hb);clear hb FF;have FF:=hid (sg_cells HSy.out HTy.out))
  refine hK.out _ _ FF.out (fun hHeld=>?_);clear hK K;refine wpAnyH_take (i:=22) (oi:=⟨some 60,_,_,_,_,_⟩) (v:=.bool true) rfl (by kernel_rfl) (by kernel_rfl) (by kernel_rfl) (fun _ _ _ h=>h) (Or.inl ⟨by kernel_rfl,fun W _=>by kernel_rfl⟩) (by assumption) ?_;refine wpAnyH_take (i:=23) (oi:=⟨some 61,_,_,_,_,_⟩) (v:=.bool true) rfl (by kernel_rfl) (by kernel_rfl) (by kernel_rfl) (fun _ _ _ h=>h) (Or.inl ⟨by kernel_rfl,fun W _=>by kernel_rfl⟩) (by assumption) ?_;refine wpAnyH_take (i:=24) (oi:=⟨some 62,_,_,_,_,_⟩) (v:=.agg #[.string ⟨#[99,110,116]⟩,.slice a 4 cap]) rfl (by kernel_rfl) (by kernel_rfl) (by kernel_rfl) (fun _ _ _ h=>h) (Or.inl ⟨by kernel_rfl,fun W hSW=>by (obtain ⟨s0,s1,s2,s3,s4,s5,s6,s7,s8⟩:=hSW;go_simp)⟩) (by assumption) ?_;refine wpAnyH_ready (rs:=[25]) (by kernel_rfl) (by simp) ?_;refine AllReadyH.cons rfl (fun K hK=>?_) AllReadyH.nil
  go_simp
  go_wp2_with (go_at_call 19;refine (check_cnt HSy.out.its HSy.out.fit).mono ?_;rintro e w13 ⟨rfl,hb⟩;have HSz:=hid (HSy.out.later hb);have HTz:=hid (HTy.out.later hb);clear hb FF;have FF:=hid (sg_cells HSz.out HTz.out))
  refine hK.out _ _ FF.out (fun hHeld=>?_);clear hK K;refine wpAnyH_take (i:=26) (oi:=⟨some 64,_,_,_,_,_⟩) (v:=.bool true) rfl (by kernel_rfl) (by kernel_rfl) (by kernel_rfl) (fun _ _ _ h=>h) (Or.inl ⟨by kernel_rfl,fun W _=>by kernel_rfl⟩) (by assumption) ?_;refine wpAnyH_take (i:=27) (oi:=⟨some 65,_,_,_,_,_⟩) (v:=.bool true) rfl (by kernel_rfl) (by kernel_rfl) (by kernel_rfl) (fun _ _ _ h=>h) (Or.inl ⟨by kernel_rfl,fun W _=>by kernel_rfl⟩) (by assumption) ?_;refine wpAnyH_take (i:=28) (oi:=⟨some 66,_,_,_,_,_⟩) (v:=.bool true) rfl (by kernel_rfl) (by kernel_rfl) (by kernel_rfl) (fun _ _ _ h=>h) (Or.inl ⟨by kernel_rfl,fun W _=>by kernel_rfl⟩) (by assumption) ?_;refine wpAnyH_take (i:=29) (oi:=⟨some 67,_,_,_,_,_⟩) (v:=.pointer (some ⟨w4.heap.size,2,none⟩)) rfl (by kernel_rfl) (by kernel_rfl) (by kernel_rfl) (fun _ _ _ h=>h) (Or.inl ⟨by kernel_rfl,fun W _=>by kernel_rfl⟩) (by assumption) ?_
  refine wpAnyH_take (i:=30) (oi:=⟨some 68,_,_,_,_,_⟩) (v:=.int .i64 5) rfl (by kernel_rfl) (by kernel_rfl) (by kernel_rfl) (fun _ _ _ h=>h) (Or.inl ⟨by kernel_rfl,fun W hSW=>by (obtain ⟨s0,s1,s2,s3,s4,s5,s6,s7,s8⟩:=hSW;go_simp)⟩) (by assumption) ?_;refine wpAnyH_take (i:=31) (oi:=⟨some 69,_,_,_,_,_⟩) (v:=.bool true) rfl (by kernel_rfl) (by kernel_rfl) (by kernel_rfl) (fun _ _ _ h=>h) (Or.inl ⟨by kernel_rfl,fun W _=>by kernel_rfl⟩) (by assumption) ?_;refine wpAnyH_take (i:=32) (oi:=⟨some 70,_,_,_,_,_⟩) (v:=.bool true) rfl (by kernel_rfl) (by kernel_rfl) (by kernel_rfl) (fun _ _ _ h=>h) (Or.inl ⟨by kernel_rfl,fun W _=>by kernel_rfl⟩) (by assumption) ?_;refine wpAnyH_take (i:=33) (oi:=⟨some 71,_,_,_,_,_⟩) (v:=.bool true) rfl (by kernel_rfl) (by kernel_rfl) (by kernel_rfl) (fun _ _ _ h=>h) (Or.inl ⟨by kernel_rfl,fun W _=>by kernel_rfl⟩) (by assumption) ?_
  refine wpAnyH_take (i:=34) (oi:=⟨some 72,_,_,_,_,_⟩) (v:=.pointer (some ⟨w4.heap.size,3,none⟩)) rfl (by kernel_rfl) (by kernel_rfl) (by kernel_rfl) (fun _ _ _ h=>h) (Or.inl ⟨by kernel_rfl,fun W _=>by kernel_rfl⟩) (by assumption) ?_;refine wpAnyH_take (i:=35) (oi:=⟨some 73,_,_,_,_,_⟩) (v:=.slice (some ⟨b2,o2,none⟩) 1 y2) rfl (by kernel_rfl) (by kernel_rfl) (by kernel_rfl) (fun _ _ _ h=>h) (Or.inl ⟨by kernel_rfl,fun W hSW=>by (obtain ⟨s0,s1,s2,s3,s4,s5,s6,s7,s8⟩:=hSW;go_simp)⟩) (by assumption) ?_;refine wpAnyH_take (i:=36) (oi:=⟨some 74,_,_,_,_,_⟩) (v:=.int .i64 1) rfl (by kernel_rfl) (by kernel_rfl) (by kernel_rfl) (fun _ _ _ h=>h) (Or.inl ⟨by kernel_rfl,fun W _=>by kernel_rfl⟩) (by assumption) ?_;refine wpAnyH_take (i:=37) (oi:=⟨some 75,_,_,_,_,_⟩) (v:=.bool true) rfl (by kernel_rfl) (by kernel_rfl) (by kernel_rfl) (fun _ _ _ h=>h) (Or.inl ⟨by kernel_rfl,fun W _=>by kernel_rfl⟩) (by assumption) ?_
  refine wpAnyH_take (i:=38) (oi:=⟨some 76,_,_,_,_,_⟩) (v:=.bool true) rfl (by kernel_rfl) (by kernel_rfl) (by kernel_rfl) (fun _ _ _ h=>h) (Or.inl ⟨by kernel_rfl,fun W _=>by kernel_rfl⟩) (by assumption) ?_;refine wpAnyH_take (i:=39) (oi:=⟨some 77,_,_,_,_,_⟩) (v:=.bool true) rfl (by kernel_rfl) (by kernel_rfl) (by kernel_rfl) (fun _ _ _ h=>h) (Or.inl ⟨by kernel_rfl,fun W _=>by kernel_rfl⟩) (by assumption) ?_;refine wpAnyH_take (i:=40) (oi:=⟨some 78,_,_,_,_,_⟩) (v:=.pointer (some ⟨w4.heap.size,3,none⟩)) rfl (by kernel_rfl) (by kernel_rfl) (by kernel_rfl) (fun _ _ _ h=>h) (Or.inl ⟨by kernel_rfl,fun W _=>by kernel_rfl⟩) (by assumption) ?_;refine wpAnyH_take (i:=41) (oi:=⟨some 79,_,_,_,_,_⟩) (v:=.slice (some ⟨b2,o2,none⟩) 1 y2) rfl (by kernel_rfl) (by kernel_rfl) (by kernel_rfl) (fun _ _ _ h=>h) (Or.inl ⟨by kernel_rfl,fun W hSW=>by (obtain ⟨s0,s1,s2,s3,s4,s5,s6,s7,s8⟩:=hSW;go_simp)⟩) (by assumption) ?_
  refine wpAnyH_take (i:=42) (oi:=⟨some 80,_,_,_,_,_⟩) (v:=.pointer (some ⟨b2,o2,none⟩)) rfl (by kernel_rfl) (by kernel_rfl) (by kernel_rfl) (fun _ _ _ h=>h) (Or.inl ⟨by kernel_rfl,fun W _=>by kernel_rfl⟩) (by assumption) ?_;refine wpAnyH_take (i:=43) (oi:=⟨some 81,_,_,_,_,_⟩) (v:=.pointer (some ⟨b2,o2+1,none⟩)) rfl (by kernel_rfl) (by kernel_rfl) (by kernel_rfl) (fun _ _ _ h=>h) (Or.inl ⟨by kernel_rfl,fun W _=>by kernel_rfl⟩) (by assumption) ?_;refine wpAnyH_take (i:=44) (oi:=⟨some 82,_,_,_,_,_⟩) (v:=.int .i64 1) rfl (by kernel_rfl) (by kernel_rfl) (by kernel_rfl) (fun _ _ _ h=>h) (Or.inl ⟨by kernel_rfl,fun W hSW=>by (obtain ⟨s0,s1,s2,s3,s4,s5,s6,s7,s8⟩:=hSW;go_simp)⟩) (by assumption) ?_;refine wpAnyH_take (i:=45) (oi:=⟨some 83,_,_,_,_,_⟩) (v:=.bool true) rfl (by kernel_rfl) (by kernel_rfl) (by kernel_rfl) (fun _ _ _ h=>h) (Or.inl ⟨by kernel_rfl,fun W _=>by kernel_rfl⟩) (by assumption) ?_
  refine wpAnyH_take (i:=46) (oi:=⟨some 84,_,_,_,_,_⟩) (v:=.bool true) rfl (by kernel_rfl) (by kernel_rfl) (by kernel_rfl) (fun _ _ _ h=>h) (Or.inl ⟨by kernel_rfl,fun W _=>by kernel_rfl⟩) (by assumption) ?_;refine wpAnyH_take (i:=47) (oi:=⟨some 85,_,_,_,_,_⟩) (v:=.bool true) rfl (by kernel_rfl) (by kernel_rfl) (by kernel_rfl) (fun _ _ _ h=>h) (Or.inl ⟨by kernel_rfl,fun W _=>by kernel_rfl⟩) (by assumption) ?_;refine wpAnyH_take (i:=48) (oi:=⟨some 86,_,_,_,_,_⟩) (v:=.pointer (some ⟨b7,4,none⟩)) rfl (by kernel_rfl) (by kernel_rfl) (by kernel_rfl) (fun _ _ _ h=>h) (Or.inl ⟨by kernel_rfl,fun W _=>by kernel_rfl⟩) (by assumption) ?_;refine wpAnyH_take (i:=49) (oi:=⟨some 87,_,_,_,_,_⟩) (v:=.slice (some ⟨b8,o8,none⟩) 3 q3) rfl (by kernel_rfl) (by kernel_rfl) (by kernel_rfl) (fun _ _ _ h=>h) (Or.inl ⟨by kernel_rfl,fun W hSW=>by (obtain ⟨s0,s1,s2,s3,s4,s5,s6,s7,s8⟩:=hSW;go_simp)⟩) (by assumption) ?_
  refine wpAnyH_take (i:=50) (oi:=⟨some 88,_,_,_,_,_⟩) (v:=.int .i64 3) rfl (by kernel_rfl) (by kernel_rfl) (by kernel_rfl) (fun _ _ _ h=>h) (Or.inl ⟨by kernel_rfl,fun W _=>by kernel_rfl⟩) (by assumption) ?_;refine wpAnyH_take (i:=51) (oi:=⟨some 89,_,_,_,_,_⟩) (v:=.bool true) rfl (by kernel_rfl) (by kernel_rfl) (by kernel_rfl) (fun _ _ _ h=>h) (Or.inl ⟨by kernel_rfl,fun W _=>by kernel_rfl⟩) (by assumption) ?_;refine wpAnyH_take (i:=52) (oi:=⟨some 90,_,_,_,_,_⟩) (v:=.bool true) rfl (by kernel_rfl) (by kernel_rfl) (by kernel_rfl) (fun _ _ _ h=>h) (Or.inl ⟨by kernel_rfl,fun W _=>by kernel_rfl⟩) (by assumption) ?_;refine wpAnyH_take (i:=53) (oi:=⟨some 91,_,_,_,_,_⟩) (v:=.bool true) rfl (by kernel_rfl) (by kernel_rfl) (by kernel_rfl) (fun _ _ _ h=>h) (Or.inl ⟨by kernel_rfl,fun W _=>by kernel_rfl⟩) (by assumption) ?_;refine wpAnyH_take (i:=54) (oi:=⟨some 92,_,_,_,_,_⟩) (v:=.pointer (some ⟨b7,4,none⟩)) rfl (by kernel_rfl) (by kernel_rfl) (by kernel_rfl) (fun _ _ _ h=>h) (Or.inl ⟨by kernel_rfl,fun W _=>by kernel_rfl⟩) (by assumption) ?_
  refine wpAnyH_take (i:=55) (oi:=⟨some 93,_,_,_,_,_⟩) (v:=.slice (some ⟨b8,o8,none⟩) 3 q3) rfl (by kernel_rfl) (by kernel_rfl) (by kernel_rfl) (fun _ _ _ h=>h) (Or.inl ⟨by kernel_rfl,fun W hSW=>by (obtain ⟨s0,s1,s2,s3,s4,s5,s6,s7,s8⟩:=hSW;go_simp)⟩) (by assumption) ?_;refine wpAnyH_take (i:=56) (oi:=⟨some 94,_,_,_,_,_⟩) (v:=.pointer (some ⟨b8,o8,none⟩)) rfl (by kernel_rfl) (by kernel_rfl) (by kernel_rfl) (fun _ _ _ h=>h) (Or.inl ⟨by kernel_rfl,fun W _=>by kernel_rfl⟩) (by assumption) ?_;refine wpAnyH_take (i:=57) (oi:=⟨some 95,_,_,_,_,_⟩) (v:=.pointer (some ⟨b8,o8+2,none⟩)) rfl (by kernel_rfl) (by kernel_rfl) (by kernel_rfl) (fun _ _ _ h=>h) (Or.inl ⟨by kernel_rfl,fun W _=>by kernel_rfl⟩) (by assumption) ?_;refine wpAnyH_take (i:=58) (oi:=⟨some 96,_,_,_,_,_⟩) (v:=.int .i64 1) rfl (by kernel_rfl) (by kernel_rfl) (by kernel_rfl) (fun _ _ _ h=>h) (Or.inl ⟨by kernel_rfl,fun W hSW=>by (obtain ⟨s0,s1,s2,s3,s4,s5,s6,s7,s8⟩:=hSW;go_simp)⟩) (by assumption) ?_
  refine wpAnyH_take (i:=59) (oi:=⟨some 97,_,_,_,_,_⟩) (v:=.bool true) rfl (by kernel_rfl) (by kernel_rfl) (by kernel_rfl) (fun _ _ _ h=>h) (Or.inl ⟨by kernel_rfl,fun W _=>by kernel_rfl⟩) (by assumption) ?_;refine wpAnyH_take (i:=60) (oi:=⟨some 98,_,_,_,_,_⟩) (v:=.bool true) rfl (by kernel_rfl) (by kernel_rfl) (by kernel_rfl) (fun _ _ _ h=>h) (Or.inl ⟨by kernel_rfl,fun W _=>by kernel_rfl⟩) (by assumption) ?_;refine wpAnyH_take (i:=61) (oi:=⟨some 99,_,_,_,_,_⟩) (v:=.bool true) rfl (by kernel_rfl) (by kernel_rfl) (by kernel_rfl) (fun _ _ _ h=>h) (Or.inl ⟨by kernel_rfl,fun W _=>by kernel_rfl⟩) (by assumption) ?_;refine wpAnyH_take (i:=62) (oi:=⟨some 100,_,_,_,_,_⟩) (v:=.pointer (some ⟨b7,4,none⟩)) rfl (by kernel_rfl) (by kernel_rfl) (by kernel_rfl) (fun _ _ _ h=>h) (Or.inl ⟨by kernel_rfl,fun W _=>by kernel_rfl⟩) (by assumption) ?_
  refine wpAnyH_take (i:=63) (oi:=⟨some 101,_,_,_,_,_⟩) (v:=.slice (some ⟨b8,o8,none⟩) 3 q3) rfl (by kernel_rfl) (by kernel_rfl) (by kernel_rfl) (fun _ _ _ h=>h) (Or.inl ⟨by kernel_rfl,fun W hSW=>by (obtain ⟨s0,s1,s2,s3,s4,s5,s6,s7,s8⟩:=hSW;go_simp)⟩) (by assumption) ?_;refine wpAnyH_take (i:=64) (oi:=⟨some 102,_,_,_,_,_⟩) (v:=.pointer (some ⟨b8,o8,none⟩)) rfl (by kernel_rfl) (by kernel_rfl) (by kernel_rfl) (fun _ _ _ h=>h) (Or.inl ⟨by kernel_rfl,fun W _=>by kernel_rfl⟩) (by assumption) ?_;refine wpAnyH_take (i:=65) (oi:=⟨some 103,_,_,_,_,_⟩) (v:=.pointer (some ⟨b8,o8+3,none⟩)) rfl (by kernel_rfl) (by kernel_rfl) (by kernel_rfl) (fun _ _ _ h=>h) (Or.inl ⟨by kernel_rfl,fun W _=>by kernel_rfl⟩) (by assumption) ?_;refine wpAnyH_take (i:=66) (oi:=⟨some 104,_,_,_,_,_⟩) (v:=.int .i64 1) rfl (by kernel_rfl) (by kernel_rfl) (by kernel_rfl) (fun _ _ _ h=>h) (Or.inl ⟨by kernel_rfl,fun W hSW=>by (obtain ⟨s0,s1,s2,s3,s4,s5,s6,s7,s8⟩:=hSW;go_simp)⟩) (by assumption) ?_
  refine wpAnyH_take (i:=67) (oi:=⟨some 105,_,_,_,_,_⟩) (v:=.bool true) rfl (by kernel_rfl) (by kernel_rfl) (by kernel_rfl) (fun _ _ _ h=>h) (Or.inl ⟨by kernel_rfl,fun W _=>by kernel_rfl⟩) (by assumption) ?_;refine wpAnyH_take (i:=68) (oi:=⟨some 106,_,_,_,_,_⟩) (v:=.bool true) rfl (by kernel_rfl) (by kernel_rfl) (by kernel_rfl) (fun _ _ _ h=>h) (Or.inl ⟨by kernel_rfl,fun W _=>by kernel_rfl⟩) (by assumption) ?_;refine wpAnyH_take (i:=69) (oi:=⟨some 107,_,_,_,_,_⟩) (v:=.bool true) rfl (by kernel_rfl) (by kernel_rfl) (by kernel_rfl) (fun _ _ _ h=>h) (Or.inl ⟨by kernel_rfl,fun W _=>by kernel_rfl⟩) (by assumption) ?_;refine wpAnyH_take (i:=70) (oi:=⟨some 108,_,_,_,_,_⟩) (v:=.pointer (some ⟨b7,4,none⟩)) rfl (by kernel_rfl) (by kernel_rfl) (by kernel_rfl) (fun _ _ _ h=>h) (Or.inl ⟨by kernel_rfl,fun W _=>by kernel_rfl⟩) (by assumption) ?_
  refine wpAnyH_take (i:=71) (oi:=⟨some 109,_,_,_,_,_⟩) (v:=.slice (some ⟨b8,o8,none⟩) 3 q3) rfl (by kernel_rfl) (by kernel_rfl) (by kernel_rfl) (fun _ _ _ h=>h) (Or.inl ⟨by kernel_rfl,fun W hSW=>by (obtain ⟨s0,s1,s2,s3,s4,s5,s6,s7,s8⟩:=hSW;go_simp)⟩) (by assumption) ?_;refine wpAnyH_take (i:=72) (oi:=⟨some 110,_,_,_,_,_⟩) (v:=.pointer (some ⟨b8,o8,none⟩)) rfl (by kernel_rfl) (by kernel_rfl) (by kernel_rfl) (fun _ _ _ h=>h) (Or.inl ⟨by kernel_rfl,fun W _=>by kernel_rfl⟩) (by assumption) ?_;refine wpAnyH_take (i:=73) (oi:=⟨some 111,_,_,_,_,_⟩) (v:=.pointer (some ⟨b8,o8+1,none⟩)) rfl (by kernel_rfl) (by kernel_rfl) (by kernel_rfl) (fun _ _ _ h=>h) (Or.inl ⟨by kernel_rfl,fun W _=>by kernel_rfl⟩) (by assumption) ?_;refine wpAnyH_take (i:=74) (oi:=⟨some 112,_,_,_,_,_⟩) (v:=.int .i64 4) rfl (by kernel_rfl) (by kernel_rfl) (by kernel_rfl) (fun _ _ _ h=>h) (Or.inl ⟨by kernel_rfl,fun W hSW=>by (obtain ⟨s0,s1,s2,s3,s4,s5,s6,s7,s8⟩:=hSW;go_simp)⟩) (by assumption) ?_
  refine wpAnyH_take (i:=75) (oi:=⟨some 113,_,_,_,_,_⟩) (v:=.bool true) rfl (by kernel_rfl) (by kernel_rfl) (by kernel_rfl) (fun _ _ _ h=>h) (Or.inl ⟨by kernel_rfl,fun W _=>by kernel_rfl⟩) (by assumption) ?_;refine wpAnyH_take (i:=76) (oi:=⟨some 114,_,_,_,_,_⟩) (v:=.bool true) rfl (by kernel_rfl) (by kernel_rfl) (by kernel_rfl) (fun _ _ _ h=>h) (Or.inl ⟨by kernel_rfl,fun W _=>by kernel_rfl⟩) (by assumption) ?_;refine wpAnyH_take (i:=77) (oi:=⟨some 0,_,_,_,_,_⟩) (v:=.bool true) rfl (by kernel_rfl) (by kernel_rfl) (by kernel_rfl) (fun _ _ _ h=>h) (Or.inl ⟨by kernel_rfl,fun W _=>by kernel_rfl⟩) (by assumption) ?_;refine wpAnyH_done (by kernel_rfl) ?_ _
  try simp only [Act.put,List.setIfInBounds_toArray,List.set_cons_zero,List.set_cons_succ]
  go_wp2_with fail;go_ret;exact ⟨rfl,HSz.out.below⟩
 clear hK;have HSd:=hid (HS.out.later (bdrew W6));have hb5:=lt_of_heap HS.out.h5
 go_region_held (fun W=>W.cell? ⟨w6.heap.size,0,none⟩=some (.string ⟨#[116,111,112]⟩)/\W.cell? ⟨w6.heap.size,1,none⟩=some (.slice z1 1 d1)/\W.cell? ⟨w6.heap.size,2,none⟩=some (.slice z2 0 d2)/\W.cell? ⟨w6.heap.size,3,none⟩=some (.slice z3 0 d3)/\W.cell? ⟨w6.heap.size,4,none⟩=some (.slice z4 3 d4))
  (first | with_reducible exact five HS8.out.h5 | with_reducible exact five (HS8.out.later (al1 _ _)).h5 | with_reducible exact five (HS.out.later (bset5 HB8.out (by omega) _ _ _ _ _)).h5 | with_reducible exact five HS7.out.h5 | with_reducible exact five (HS7.out.later (al1 _ _)).h5 | with_reducible exact five (HS7.out.later (bl2 _ _ _)).h5 | with_reducible exact five HSd.out.h5 | with_reducible exact five (HS.out.later (bAdrew _ _)).h5 | with_reducible exact five (HSd.out.later (al1 _ _)).h5)
  (first
  | (go_at_call 57;refine (counted_any _).mono ?_;rintro e w7 ⟨ad,cp,rfl,hD,hb7⟩;have HD7:=hid hD;(first | (with_reducible have HB7:=hid (thenB (bdrew W6) hb7)) | (have HZ7:=hid (later_blk (new_d W6 _) hb7);have HB7:=hid (thenB (bAdrew W6 _) hb7)));have HS7:=hid (HS.out.later HB7.out);have hz7:=HB7.out.size;clear hD hb7)
  | (go_at_call 21;with_reducible refine (res_topF (HS7.out.later (al1 _ _)).mo _ (face_row HD7.out _)).mono ?_;rintro e w8 ⟨s8,p1,m1,q1,dd,p2,m2,q2,b8,o8,q3,rfl,hC,hb8⟩;have HC8:=hid hC;have HB8:=hid (thenB HB7.out (thenB (al1 _ _) hb8));have HS8:=hid ((HS7.out.later (al1 _ _)).later hb8);have HX8:=hid hb8;(first | (with_reducible refine And.elim ?_ (box5lt (later_blk (later_blk HZ7.out (al1 _ _)) hb8));intro e0 hcs;have HZ8:=hid (later_blk (later_blk HZ7.out (al1 _ _)) hb8);obtain ⟨e1,e2,e3,e4,ef,hel⟩:=hcs) | skip);clear hC hb8)
  | (go_at_call 21;with_reducible refine (res_topF (HS7.out.later (bl2 _ _ _)).mo _ ((face_row HD7.out _).later (al1 _ _))).mono ?_;rintro e w8 ⟨s8,p1,m1,q1,dd,p2,m2,q2,b8,o8,q3,rfl,hC,hb8⟩;have HC8:=hid hC;have HB8:=hid (thenB HB7.out (thenB (bl2 _ _ _) hb8));have HS8:=hid ((HS7.out.later (bl2 _ _ _)).later hb8);have HX8:=hid hb8;(refine And.elim ?_ (box5lt (later_blk (new_1 w7 _ _) hb8));intro e0 hcs;have HZ8:=hid (later_blk (new_1 w7 _ _) hb8);obtain ⟨e1,e2,e3,e4,ef,hel⟩:=hcs);clear hC hb8)
  | (go_at_call 21;with_reducible refine (res_topF (HS7.out.later (bl2 _ _ _)).mo _ (face_row1 HD7.out _ _)).mono ?_;rintro e w8 ⟨s8,p1,m1,q1,dd,p2,m2,q2,b8,o8,q3,rfl,hC,hb8⟩;have HC8:=hid hC;have HB8:=hid (thenB HB7.out (thenB (bl2 _ _ _) hb8));have HS8:=hid ((HS7.out.later (bl2 _ _ _)).later hb8);have HX8:=hid hb8;(refine And.elim ?_ (box5lt (later_blk (heap_old (heap_newP w7 _)) hb8));intro e0 hcs;have HZ8:=hid (later_blk (heap_old (heap_newP w7 _)) hb8);obtain ⟨e1,e2,e3,e4,ef,hel⟩:=hcs);clear hC hb8))
 . show K _ _
   exact TAIL (HS8.out.later (al1 w8 (.cells #[.string s8,.slice p1 m1 q1,.int .i64 dd,.slice p2 m2 q2,.slice (some ⟨b8,o8,none⟩) 3 q3] 42))) (tg_new (w8:=w8) s8 p1 m1 q1 dd p2 m2 q2 b8 o8 q3 42 rfl HC8.out.2)
 . have hq:=HC8.out.1
   simp at hq;show K _ _;exact TAIL (HS.out.later (bset5 HB8.out (b:=w7.heap.size+1) (by omega) (.string s8) (.slice p1 m1 q1) (.int .i64 dd) (.slice p2 m2 q2) (.slice (some ⟨b8,o8,none⟩) 3 q3))) (tg_set s8 p1 m1 q1 dd p2 m2 q2 b8 o8 q3 HZ8.out (by omega) HC8.out.2)
 . have hq:=HC8.out.1
   simp at hq;show K _ _;exact TAIL (HS.out.later (bset5 HB8.out (b:=w7.heap.size) (by omega) (.string s8) (.slice p1 m1 q1) (.int .i64 dd) (.slice p2 m2 q2) (.slice (some ⟨b8,o8,none⟩) 3 q3))) (tg_set s8 p1 m1 q1 dd p2 m2 q2 b8 o8 q3 HZ8.out (by omega) HC8.out.2)
 . have hq:=HC8.out.1
   simp at hq;show K _ _;exact TAIL (HS.out.later (bset5 HB8.out (b:=W6.heap.size) (by omega) (.string s8) (.slice p1 m1 q1) (.int .i64 dd) (.slice p2 m2 q2) (.slice (some ⟨b8,o8,none⟩) 3 q3))) (tg_set s8 p1 m1 q1 dd p2 m2 q2 b8 o8 q3 HZ8.out (by omega) HC8.out.2)
end Go.Proofs.YtndkhgakfodldaaGreatDoor
