/-
  A face is right: without the program. ScopeRight's call.
-/
import Derived.Test.YtndkhgakfodldaaGreatDoorUr
import Derived.Test.YtndkhgakfodldaaGreatDoorPo
import Derived.Deep.QuietTactic
import Derived.BigQuiet
import Derived.Deep.RegionHeld
import Derived.Test.YtndkhgakfodldaaGreatDoorUn
namespace Go.Proofs.YtndkhgakfodldaaGreatDoor
set_option maxRecDepth 100000
open Go.RowKit Go.Maps Go.WideMaps
set_option linter.unusedSimpArgs false
set_option linter.unusedVariables false
theorem dup_nodup:∀ l:List (List UInt8),Fx.dupB l=false↔l.Nodup:=by
 apply Fx.list_snoc_ind
 . exact ⟨fun _=>.nil,fun _=>rfl⟩
 . intro l s ih
   rw [Fx.dup_snoc,Bool.or_eq_false_iff,ih,decide_eq_false_iff_not,List.nodup_append]
   constructor
   . rintro ⟨h1,h2⟩
     refine ⟨h1,by simp,fun a ha b hb e=>?_⟩;rw [List.mem_singleton.1 hb] at e;exact h2 (e ▸ ha)
   . rintro ⟨h1,_,h2⟩
     exact ⟨h1,fun hs=>h2 s hs s (by simp) rfl⟩
end Go.Proofs.YtndkhgakfodldaaGreatDoor

namespace Go.Proofs.YtndkhgakfodldaaGreatDoor
set_option maxRecDepth 100000
set_option maxHeartbeats 1600000
open Go.RowKit Go.Maps Go.WideMaps
set_option linter.unusedSimpArgs false
def cntF:Fc:=⟨⟨#[99,110,116]⟩,[⟨1,3,0,⟨#[107]⟩⟩,⟨2,0,0,⟨#[115,117,109]⟩⟩,⟨3,4,1,⟨#[116]⟩⟩,⟨4,1,0,⟨#[100,111,119,110]⟩⟩]⟩
def okOr (r:Except Int Un):Un:=match r with | .ok u=>u | .error _=>⟨⟨#[]⟩,[],0,[],[]⟩
def cntUn:Un:=okOr (resolveM cntMo [])
def topUn:Un:=okOr (resolveM topMo [cntF])
theorem cnt_res:resolveM cntMo [] = .ok cntUn:=by kernel_rfl
theorem top_res:resolveM topMo [cntF] = .ok topUn:=by kernel_rfl
theorem EAt.num {w:World} {A:Nat->Prop} {a:Option Addr} {n:Nat} {ds:List D} (h:EAt w A a n ds) (hn:n≠0):∃ b off,a=some ⟨b,off,none⟩/\b<w.heap.size/\A b/\∀ (j:Nat) (k:Int),ds[j]? = some (.int k)->w.cell? ⟨b,off+j,none⟩=some (.int .i64 k):=by
 rcases h with h | ⟨b,off,cs,ha,hA,hb,hc,hx⟩
 . exact absurd h hn
 . refine ⟨b,off,ha,hb,hA,fun j k hj=>?_⟩
   obtain ⟨v,hv,hd⟩:=hx.get j _ hj;rw [enum_of hd] at hv;exact hc j _ hv
theorem counted_any (w:World) :
 Calls Tryz.prog 57 #[] w fun e w'=>∃ ad cap,e = .returned (.agg #[.string ⟨#[99,110,116]⟩,.slice ad 4 cap])/\DAt w' Tt ad 4 (itsD cntF.items)/\Below w.heap.size w w':=by
 go_enter Tryz.func57,Tryz.ntmps57;go_wp2_with fail
 obtain ⟨W,hW⟩:∃ W,W=allocsC w [(#[.string ⟨#[99,110,116]⟩,.slice (some ⟨w.heap.size+1,0,none⟩) 4 4],30),(#[.int .i64 1,.int .i64 3,.int .i64 0,.string ⟨#[107]⟩,.int .i64 2,.int .i64 0,.int .i64 0,.string ⟨#[115,117,109]⟩,.int .i64 3,.int .i64 4,.int .i64 1,.string ⟨#[116]⟩,.int .i64 4,.int .i64 1,.int .i64 0,.string ⟨#[100,111,119,110]⟩],98)]:=⟨_,rfl⟩
 have hB:Below w.heap.size w W:=by rw [hW];exact below_allocsC _ _
 have hD:DAt W Tt (some ⟨w.heap.size+1,0,none⟩) 4 (itsD cntF.items):=by
  rw [hW];refine dat_blk (blk_allocsC w _ 1 _ _ rfl) ?_ (by decide) (by decide);exact .cons (dint rfl) (.cons (dint rfl) (.cons (dint rfl) (.cons (dstr (by decide)) (.cons (dint rfl) (.cons (dint rfl) (.cons (dint rfl) (.cons (dstr (by decide)) (.cons (dint rfl) (.cons (dint rfl) (.cons (dint rfl) (.cons (dstr (by decide)) (.cons (dint rfl) (.cons (dint rfl) (.cons (dint rfl) (.cons (dstr (by decide)) .nil)))))))))))))))
 refine bodyPost_ret (v:=.agg #[.string ⟨#[99,110,116]⟩,.slice (some ⟨w.heap.size+1,0,none⟩) 4 4]) (by simp [results,Tryz.results57,go_sem]) rfl ⟨some ⟨w.heap.size+1,0,none⟩,4,rfl,?_,?_⟩
 . rw [hW] at hD;exact hD
 . rw [hW] at hB;exact hB
theorem parse_top (w:World):Calls Tryz.prog 55 #[.string topS] w fun e w'=>∃ v a1 c1 a2 c2 a3 c3 a4 c4,e = .returned (.tuple #[v,.int .i64 0])/\MoAt w' Tt topMo v a1 c1 a2 c2 a3 c3 a4 c4/\Below w.heap.size w w':=
 (Parse_any topS w (by decide)).mono fun e w' ⟨h,hb⟩=>by
   rcases h with ⟨h,_⟩ | ⟨m,v,a1,c1,a2,c2,a3,c3,a4,c4,hp,_,he,hM⟩
   . rw [top_pars] at h;cases h
   . rw [top_pars] at hp
     obtain rfl:=Option.some.inj hp;exact ⟨v,a1,c1,a2,c2,a3,c3,a4,c4,he,hM,hb⟩
end Go.Proofs.YtndkhgakfodldaaGreatDoor

namespace Go.Proofs.YtndkhgakfodldaaGreatDoor
set_option maxRecDepth 100000
set_option maxHeartbeats 12800000
open Go.RowKit Go.Maps Go.WideMaps
set_option linter.unusedSimpArgs false
structure Sg (w W:World) (b1 b3 b5:Nat) (a:Option Addr) (cap:Nat) (s:ByteArray) (x1:Option Addr) (n1 y1:Nat) (b2 o2 y2:Nat) (x3:Option Addr) (n3 y3:Nat) (z1:Option Addr) (d1:Nat) (z2:Option Addr) (d2:Nat) (z3:Option Addr) (d3:Nat) (z4:Option Addr) (d4:Nat):Prop where
 below:Below w.heap.size w W
 h1:W.heap[b1]? = some (.cells #[.string ⟨#[99,110,116]⟩,.slice a 4 cap] 30 (0,0))
 its:Fx.ItemsAt W a cntF.items
 fit:Fx.AllFit cntF.items
 h3:W.heap[b3]? = some (.cells #[.string s,.slice x1 n1 y1,.int .i64 5,.slice (some ⟨b2,o2,none⟩) 1 y2,.slice x3 n3 y3] 42 (0,0))
 l3:b2<W.heap.size
 c3:W.cell? ⟨b2,o2+1,none⟩=some (.int .i64 1)
 h5:W.heap[b5]? = some (.cells #[.string ⟨#[116,111,112]⟩,.slice z1 1 d1,.slice z2 0 d2,.slice z3 0 d3,.slice z4 3 d4] 27 (0,0))
 mo:MoAt W Tt topMo (.agg #[.string ⟨#[116,111,112]⟩,.slice z1 1 d1,.slice z2 0 d2,.slice z3 0 d3,.slice z4 3 d4]) z1 d1 z2 d2 z3 d3 z4 d4
theorem Sg.later {w W W':World} {b1 b3 b5:Nat} {a:Option Addr} {cap:Nat} {s:ByteArray} {x1:Option Addr} {n1 y1 b2 o2 y2:Nat} {x3:Option Addr} {n3 y3:Nat} {z1 z2 z3 z4:Option Addr} {d1 d2 d3 d4:Nat} (h:Sg w W b1 b3 b5 a cap s x1 n1 y1 b2 o2 y2 x3 n3 y3 z1 d1 z2 d2 z3 d3 z4 d4) (hb:Below W.heap.size W W'):Sg w W' b1 b3 b5 a cap s x1 n1 y1 b2 o2 y2 x3 n3 y3 z1 d1 z2 d2 z3 d3 z4 d4:=
 ⟨h.below.trans (hb.mono h.below.size),(hb.block _ (lt_of_heap h.h1)).trans h.h1,h.its.later hb,h.fit,(hb.block _ (lt_of_heap h.h3)).trans h.h3,Nat.lt_of_lt_of_le h.l3 hb.size,(hb.cell (p:=⟨b2,o2+1,none⟩) h.l3).trans h.c3,(hb.block _ (lt_of_heap h.h5)).trans h.h5,h.mo.later hb⟩
structure Tg (W:World) (b7:Nat) (s:ByteArray) (x1:Option Addr) (n1 y1:Nat) (d:Int) (x2:Option Addr) (n2 y2 b3 o3 y3:Nat):Prop where
 h7:W.heap[b7]? = some (.cells #[.string s,.slice x1 n1 y1,.int .i64 d,.slice x2 n2 y2,.slice (some ⟨b3,o3,none⟩) 3 y3] 42 (0,0))
 l7:b3<W.heap.size
 n:W.cell? ⟨b3,o3+1,none⟩=some (.int .i64 4)
 m:W.cell? ⟨b3,o3+2,none⟩=some (.int .i64 1)
 at':W.cell? ⟨b3,o3+3,none⟩=some (.int .i64 1)
theorem Tg.later {W W':World} {b7:Nat} {s:ByteArray} {x1:Option Addr} {n1 y1:Nat} {d:Int} {x2:Option Addr} {n2 y2 b3 o3 y3:Nat} (h:Tg W b7 s x1 n1 y1 d x2 n2 y2 b3 o3 y3) (hb:Below W.heap.size W W'):Tg W' b7 s x1 n1 y1 d x2 n2 y2 b3 o3 y3:=
 ⟨(hb.block _ (lt_of_heap h.h7)).trans h.h7,Nat.lt_of_lt_of_le h.l7 hb.size,(hb.cell (p:=⟨b3,o3+1,none⟩) h.l7).trans h.n,(hb.cell (p:=⟨b3,o3+2,none⟩) h.l7).trans h.m,(hb.cell (p:=⟨b3,o3+3,none⟩) h.l7).trans h.at'⟩
theorem face_row {w:World} {ad:Option Addr} {cp:Nat} (hD:DAt w Tt ad 4 (itsD cntF.items)) (t:TypeId):DAt (w.alloc (.cells #[.string ⟨#[99,110,116]⟩,.slice ad 4 cp] t)) Tt (some ⟨w.heap.size,0,none⟩) 1 (fcsD [cntF]):=by
 refine dat_blk (blk_allocsC w [(#[.string ⟨#[99,110,116]⟩,.slice ad 4 cp],t)] 0 _ _ rfl) ?_ (by decide) (by decide);exact .cons (dstr (by decide)) (.cons (hD.moves ⟨by simp,fun b hb _=>⟨trivial,(al1 _ _).block b hb⟩⟩).val .nil)
theorem face_row1 {w:World} {ad:Option Addr} {cp:Nat} (hD:DAt w Tt ad 4 (itsD cntF.items)) (o:Obj) (t:TypeId):DAt ((w.alloc o).alloc (.cells #[.string ⟨#[99,110,116]⟩,.slice ad 4 cp] t)) Tt (some ⟨w.heap.size+1,0,none⟩) 1 (fcsD [cntF]):=by
 have:=face_row (cp:=cp) (hD.moves (w':=w.alloc o) ⟨by simp,fun b hb _=>⟨trivial,(al1 _ _).block b hb⟩⟩) t;simpa using this
theorem five {W:World} {b:Nat} {v0 v1 v2 v3 v4:Value} {t:TypeId} (h:W.heap[b]? = some (.cells #[v0,v1,v2,v3,v4] t (0,0))):W.cell? ⟨b,0,none⟩=some v0/\W.cell? ⟨b,1,none⟩=some v1/\W.cell? ⟨b,2,none⟩=some v2/\W.cell? ⟨b,3,none⟩=some v3/\W.cell? ⟨b,4,none⟩=some v4:=
 have h3:=cellsOf5 h
 ⟨h3.1,h3.2.1,h3.2.2.1,h3.2.2.2.1,h3.2.2.2.2.1⟩
theorem later_blk {w w':World} {b:Nat} {x:Obj} (h:w.heap[b]? = some x) (hb:Below w.heap.size w w'):w'.heap[b]? = some x:=(hb.block _ (lt_of_heap h)).trans h
theorem new_d (w:World) (o:Obj):(w.alloc o).drew.heap[w.heap.size]? = some o:=heap_newP w o
theorem new_1 (w:World) (o p:Obj):((w.alloc o).alloc p).heap[w.heap.size+1]? = some p:=by simpa using heap_newP (w.alloc o) p
end Go.Proofs.YtndkhgakfodldaaGreatDoor

namespace Go.Proofs.YtndkhgakfodldaaGreatDoor
set_option maxRecDepth 100000
set_option maxHeartbeats 6400000
open Go.RowKit Go.Maps Go.WideMaps
set_option linter.unusedSimpArgs false
set_option linter.unusedVariables false
mutual
def D.fineB:D->Bool
 | .int n=>(Lit.int .i64 n).wf
 | .str _=>true
 | .bool _=>true
 | .list n ds=>decide (n<=ds.length)&&(decide (ds.length<=17592186044416)&&finesB ds)
def finesB:List D->Bool
 | []=>true
 | d :: ds=>d.fineB&&finesB ds
end
mutual
theorem fine_of:∀ d:D,d.fineB=true->d.fine
 | .int _,h=>by unfold D.fineB at h;unfold D.fine;exact h
 | .str _,_=>by unfold D.fine;trivial
 | .bool _,_=>by unfold D.fine;trivial
 | .list n ds,h=>by
   unfold D.fineB at h;unfold D.fine;simp only [Bool.and_eq_true,decide_eq_true_eq] at h;exact ⟨h.1,h.2.1,fines_of ds h.2.2⟩
theorem fines_of:∀ l:List D,finesB l=true->D.fines l
 | [],_=>by unfold D.fines;trivial
 | d :: ds,h=>by
   unfold finesB at h;unfold D.fines;rw [Bool.and_eq_true] at h;exact ⟨fine_of d h.1,fines_of ds h.2⟩
end
def Uls (w:World) (A:Nat->Prop) (u:Un) (x1 x2 x3:Option Addr):Prop:=DAt w A x1 u.uses.length (strsD u.uses)/\DAt w A x2 u.parts.length (ptsD u.parts)/\DAt w A x3 u.main.length (acsD u.main)
theorem Uls.moves {w w':World} {A A':Nat->Prop} {u:Un} {x1 x2 x3:Option Addr} (h:Uls w A u x1 x2 x3) (m:Moves w A w' A'):Uls w' A' u x1 x2 x3:=⟨h.1.moves m,h.2.1.moves m,h.2.2.moves m⟩
theorem uls_of {w:World} {A:Nat->Prop} {u:Un} {x1 x2 x3:Option Addr} (hf:D.fines u.ds) (h1:EAt w A x1 u.uses.length (strsD u.uses)) (h2:EAt w A x2 u.parts.length (ptsD u.parts)) (h3:EAt w A x3 u.main.length (acsD u.main)):Uls w A u x1 x2 x3:=by
 simp only [Un.ds,D.fines,D.fine] at hf;obtain ⟨_,⟨a1,a2,a3⟩,_,⟨b1,b2,b3⟩,⟨c1,c2,c3⟩,_⟩:=hf;exact ⟨h1.toD a1 a2 a3,h2.toD b1 b2 b3,h3.toD c1 c2 c3⟩
structure UnIn (w:World) (b:Nat) (u:Un) (x1:Option Addr) (xc1:Nat) (x2:Option Addr) (xc2:Nat) (x3:Option Addr) (xc3:Nat):Prop where
 blk:w.heap[b]? = some (.cells #[.string u.name,.slice x1 u.uses.length xc1,.int .i64 u.data,.slice x2 u.parts.length xc2,.slice x3 u.main.length xc3] 42 (0,0))
 ls:Uls w Tt u x1 x2 x3
theorem UnIn.later {w w':World} {b:Nat} {u:Un} {x1 x2 x3:Option Addr} {xc1 xc2 xc3:Nat} (h:UnIn w b u x1 xc1 x2 xc2 x3 xc3) (hb:Below w.heap.size w w'):UnIn w' b u x1 xc1 x2 xc2 x3 xc3:=
 ⟨later_blk h.blk hb,h.ls.moves (Moves.of_below hb _)⟩
def ResEnd (u:Un) (w:World) (e:Ending) (w':World):Prop:=∃ x1 xc1 x2 xc2 x3 xc3,e = .returned (.tuple #[.agg #[.string u.name,.slice x1 u.uses.length xc1,.int .i64 u.data,.slice x2 u.parts.length xc2,.slice x3 u.main.length xc3],.int .i64 0])/\Uls w' (w.heap.size<=·) u x1 x2 x3/\Below w.heap.size w w'
theorem res_un {m:Mo} {l:List Fc} {u:Un} (hr:resolveM m l = .ok u) (hf:D.fines u.ds) {w:World} {v:Value} {a1 a2 a3 a4:Option Addr} {c1 c2 c3 c4:Nat} (hM:MoAt w Tt m v a1 c1 a2 c2 a3 c3 a4 c4) {al:Option Addr} (cl:Nat) (hF:DAt w Tt al l.length (fcsD l)) :
 Calls Tryz.prog 21 #[v,.slice al l.length cl] w fun e w'=>ResEnd u w e w':=
 (Resolve_any m v a1 c1 a2 c2 a3 c3 a4 c4 l al cl w hM hF).mono fun e w' ⟨h,hb⟩=>by
   rw [hr] at h;obtain ⟨x1,y1,x2,y2,x3,y3,he,h1,h2,h3⟩:=h;exact ⟨x1,y1,x2,y2,x3,y3,he,uls_of hf h1 h2 h3,hb⟩
theorem Uls.new {w:World} {A:Nat->Prop} {u:Un} {x1 x2 x3:Option Addr} (xc1 xc2 xc3:Nat) (h:Uls w A u x1 x2 x3) (t:TypeId) (ht:t=42):UnIn (w.alloc (.cells #[.string u.name,.slice x1 u.uses.length xc1,.int .i64 u.data,.slice x2 u.parts.length xc2,.slice x3 u.main.length xc3] t)) w.heap.size u x1 xc1 x2 xc2 x3 xc3:=by
 subst ht;exact ⟨heap_newP _ _,h.moves ⟨by simp,fun b hb _=>⟨trivial,(al1 _ _).block b hb⟩⟩⟩
theorem Uls.set {w:World} {lo b:Nat} {u:Un} {x1 x2 x3:Option Addr} (xc1 xc2 xc3:Nat) {v0 v1 v2 v3 v4:Value} (h:Uls w (lo<=·) u x1 x2 x3) (hz:w.heap[b]? = some (.cells #[v0,v1,v2,v3,v4] 42)) (hb:b<lo):UnIn (set5 w b (.string u.name) (.slice x1 u.uses.length xc1) (.int .i64 u.data) (.slice x2 u.parts.length xc2) (.slice x3 u.main.length xc3)) b u x1 xc1 x2 xc2 x3 xc3:=by
 refine ⟨heap_set (heap_set (heap_set (heap_set (heap_set hz _) _) _) _) _,h.moves ⟨by simp [set5],fun k hk hl=>⟨trivial,?_⟩⟩⟩
 have hn:k≠b:=by omega
 exact (heap_set_ne hn _).trans ((heap_set_ne hn _).trans ((heap_set_ne hn _).trans ((heap_set_ne hn _).trans (heap_set_ne hn _))))
theorem un_ds {w:World} {u:Un} {x1 x2 x3:Option Addr} (xc1 xc2 xc3:Nat) (hf:D.fines u.ds) (hn:u.name.size<=maxLen) (h:Uls w Tt u x1 x2 x3):DVals w Tt u.ds [.string u.name,.slice x1 u.uses.length xc1,.int .i64 u.data,.slice x2 u.parts.length xc2,.slice x3 u.main.length xc3]:=by
 simp only [Un.ds,D.fines,D.fine] at hf;unfold Un.ds;exact .cons (dstr hn) (.cons h.1.val (.cons (dint hf.2.2.1) (.cons h.2.1.val (.cons h.2.2.val .nil))))
theorem program_gen (u t:Un) (hu:resolveM cntMo [] = .ok u) (ht:resolveM topMo [cntF] = .ok t) (hfu:D.fines u.ds) (hft:D.fines t.ds) (hnu:u.name.size<=maxLen) (hnt:t.name.size<=maxLen) (w:World) :
 Calls Tryz.prog 75 #[] w fun e w'=>∃ a,e = .returned (.slice (some a) 2 2)/\DAt w' Tt (some a) 2 (unsD [u,t])/\Below w.heap.size w w':=by
 have HU:=hid (fun (W:World) (v:Value) (a1:Option Addr) (c1:Nat) (a2:Option Addr) (c2:Nat) (a3:Option Addr) (c3:Nat) (a4:Option Addr) (c4:Nat) (hM:MoAt W Tt cntMo v a1 c1 a2 c2 a3 c3 a4 c4)=>res_un hu hfu hM (al:=none) 0 ⟨Nat.le_refl _,Nat.zero_le _,Or.inl rfl⟩)
 have HT:Hid (∀ (W:World) (v:Value) (a1:Option Addr) (c1:Nat) (a2:Option Addr) (c2:Nat) (a3:Option Addr) (c3:Nat) (a4:Option Addr) (c4:Nat),MoAt W Tt topMo v a1 c1 a2 c2 a3 c3 a4 c4->∀ (al:Option Addr) (cl:Nat),DAt W Tt al 1 (fcsD [cntF])->Calls Tryz.prog 21 #[v,.slice al 1 cl] W fun e w'=>ResEnd t W e w'):=fun W v a1 c1 a2 c2 a3 c3 a4 c4 hM al cl hF=>res_un ht hft hM (l:=[cntF]) cl hF
 have HFu:=hid (And.intro hfu hnu);have HFt:=hid (And.intro hft hnt);clear hu ht hfu hft hnu hnt;go_enter Tryz.func75,Tryz.ntmps75;go_wp2_with fail;refine (counter_any _).mono ?_;rintro e w1 ⟨v,a1,c1,a2,c2,a3,c3,a4,c4,rfl,hM,hb1⟩;have HM:=hid hM;have HB1:=hid hb1;clear hM hb1;go_wp2_with fail;refine (HU.out _ _ _ _ _ _ _ _ _ _ HM.out).mono ?_;rintro e w2 ⟨x1,xc1,x2,xc2,x3,xc3,rfl,hC,hb2⟩;have HN:=hid (hC.new xc1 xc2 xc3 42 rfl);have HB2:=hid (thenB HB1.out (thenB hb2 (al1 w2 (.cells #[.string u.name,.slice x1 u.uses.length xc1,.int .i64 u.data,.slice x2 u.parts.length xc2,.slice x3 u.main.length xc3] 42))));clear hC hb2 HM HB1;go_wp2_with fail
 obtain ⟨W2,hW2⟩:∃ W2,W2=w2.alloc (.cells #[.string u.name,.slice x1 u.uses.length xc1,.int .i64 u.data,.slice x2 u.parts.length xc2,.slice x3 u.main.length xc3] 42):=⟨_,rfl⟩
 rw [← hW2] at HN HB2 ⊢;clear hW2;refine (topText_any _).mono ?_;rintro e w5 ⟨rfl,h5⟩
 have hB5:Below W2.heap.size W2 w5:=by rw [h5];exact Below.refl _ _
 clear h5;go_wp2_with fail;refine (parse_top w5).mono ?_;rintro e w6 ⟨u',z1,d1,z2,d2,z3,d3,z4,d4,rfl,hM,hb6⟩;have hB6:=thenB hB5 hb6;obtain rfl:u' = .agg #[.string ⟨#[116,111,112]⟩,.slice z1 1 d1,.slice z2 0 d2,.slice z3 0 d3,.slice z4 3 d4]:=hM.val;have HM:=hid hM;have HB6:=hid hB6;clear hM hB6 hb6 hB5;go_wp2_with fail
 obtain ⟨W6,hW6⟩:∃ W6,W6=w6.alloc (.cells #[.string ⟨#[116,111,112]⟩,.slice z1 1 d1,.slice z2 0 d2,.slice z3 0 d3,.slice z4 3 d4] 27):=⟨_,rfl⟩
 have hB7:Below w6.heap.size w6 W6:=by rw [hW6];exact al1 _ _
 have hB:=thenB HB6.out hB7;have HSB:=hid (thenB HB2.out hB);have HSU:=hid (HN.out.later hB)
 have HSM:Hid (W6.heap[w6.heap.size]? = some (.cells #[.string ⟨#[116,111,112]⟩,.slice z1 1 d1,.slice z2 0 d2,.slice z3 0 d3,.slice z4 3 d4] 27 (0,0))/\MoAt W6 Tt topMo (.agg #[.string ⟨#[116,111,112]⟩,.slice z1 1 d1,.slice z2 0 d2,.slice z3 0 d3,.slice z4 3 d4]) z1 d1 z2 d2 z3 d3 z4 d4):=⟨by rw [hW6];exact heap_newP _ _,HM.out.later hB7⟩
 rw [← hW6];clear hW6 hB7 hB HB6 HB2 HM HN
 rename_i K hK
 have TAIL:∀ {W9:World} {b7:Nat} {y1 y2 y3:Option Addr} {yc1 yc2 yc3:Nat} {t7 t8 t9 t10 t11 t12 t13 t14 t15 t16 t17 t18 t19 t20 t21 t22 t23 t24 t25 t26:Value},Below w.heap.size w W9->UnIn W9 w2.heap.size u x1 xc1 x2 xc2 x3 xc3->UnIn W9 b7 t y1 yc1 y2 yc2 y3 yc3->K { tmps:=#[.slice none 0 0,.pointer (some ⟨w2.heap.size,0,none⟩),.int .i64 0,.pointer (some ⟨w6.heap.size,0,none⟩),.int .i64 0,.pointer (some ⟨b7,0,none⟩),.int .i64 0,t7,t8,t9,t10,t11,t12,t13,t14,t15,t16,t17,t18,t19,t20,t21,t22,t23,t24,t25,t26],defers:=[] } W9:=by
  intro W9 b7 y1 y2 y3 yc1 yc2 yc3 t7 t8 t9 t10 t11 t12 t13 t14 t15 t16 t17 t18 t19 t20 t21 t22 t23 t24 t25 t26 hb9 h1 h2;have HB9:=hid hb9;have H1:=hid h1;have H2:=hid h2;obtain ⟨q0,q1,q2,q3,q4⟩:=five h1.blk;obtain ⟨r0,r1,r2,r3,r4⟩:=five h2.blk;have qz:=lt_of_heap h1.blk;have rz:=lt_of_heap h2.blk;clear hb9 h1 h2 HSB HSU HSM;refine hK _ _ ?_;clear hK;go_wp2_with fail;have hB9:=al1 W9 (.cells #[.string u.name,.slice x1 u.uses.length xc1,.int .i64 u.data,.slice x2 u.parts.length xc2,.slice x3 u.main.length xc3,.string t.name,.slice y1 t.uses.length yc1,.int .i64 t.data,.slice y2 t.parts.length yc2,.slice y3 t.main.length yc3] 42);go_ret;refine ⟨⟨W9.heap.size,0,none⟩,rfl,?_,thenB HB9.out hB9⟩;refine dat_blk (Blk.new W9 _ _) ?_ (by simp [unsD,Un.ds]) (by simp [unsD,Un.ds])
  have e:unsD [u,t]=u.ds++t.ds:=by simp [unsD]
  rw [e];have k1:=un_ds xc1 xc2 xc3 HFu.out.1 HFu.out.2 (H1.out.ls.moves (Moves.of_below hB9 _));have k2:=un_ds yc1 yc2 yc3 HFt.out.1 HFt.out.2 (H2.out.ls.moves (Moves.of_below hB9 _));exact k1.append k2
 clear hK;have HMd:=hid (later_blk HSM.out.1 (bdrew W6));have hb5:=lt_of_heap HSM.out.1;have HX5:=hid (fun (W:World) (hW:Below W6.heap.size W6 W)=>five (later_blk HSM.out.1 hW))
 go_region_held (fun W=>W.cell? ⟨w6.heap.size,0,none⟩=some (.string ⟨#[116,111,112]⟩)/\W.cell? ⟨w6.heap.size,1,none⟩=some (.slice z1 1 d1)/\W.cell? ⟨w6.heap.size,2,none⟩=some (.slice z2 0 d2)/\W.cell? ⟨w6.heap.size,3,none⟩=some (.slice z3 0 d3)/\W.cell? ⟨w6.heap.size,4,none⟩=some (.slice z4 3 d4))
  (first | with_reducible exact HX5.out _ HB8.out | with_reducible exact HX5.out _ (thenB HB8.out (al1 _ _)) | with_reducible exact HX5.out _ (bset5 HB8.out (by omega) _ _ _ _ _) | with_reducible exact HX5.out _ HB7.out | with_reducible exact HX5.out _ (thenB HB7.out (al1 _ _)) | with_reducible exact HX5.out _ (thenB HB7.out (bl2 _ _ _)) | with_reducible exact HX5.out _ (bdrew _) | with_reducible exact HX5.out _ (bAdrew _ _) | with_reducible exact HX5.out _ (thenB (bdrew _) (al1 _ _)))
  (first
  | (go_at_call 57;refine (counted_any _).mono ?_;rintro e w7 ⟨ad,cp,rfl,hD,hb7⟩;have HD7:=hid hD;(first | (with_reducible have HB7:=hid (thenB (bdrew W6) hb7)) | (have HZ7:=hid (later_blk (new_d W6 _) hb7);have HB7:=hid (thenB (bAdrew W6 _) hb7)));have hz7:=HB7.out.size;clear hD hb7)
  | (go_at_call 21;(with_reducible refine (HT.out _ _ _ _ _ _ _ _ _ _ (HSM.out.2.later (thenB HB7.out (al1 _ _))) _ _ (face_row HD7.out _)).mono ?_);rintro e w8 ⟨y1,yc1,y2,yc2,y3,yc3,rfl,hC,hb8⟩;have HC8:=hid hC;have HB8:=hid (thenB HB7.out (thenB (al1 _ _) hb8));(first | (with_reducible refine And.elim ?_ (box5lt (later_blk (later_blk HZ7.out (al1 _ _)) hb8));intro e0 hcs;have HZ8:=hid (later_blk (later_blk HZ7.out (al1 _ _)) hb8);obtain ⟨e1,e2,e3,e4,ef,hel⟩:=hcs) | skip);clear hC hb8)
  | (go_at_call 21;(with_reducible refine (HT.out _ _ _ _ _ _ _ _ _ _ (HSM.out.2.later (thenB HB7.out (bl2 _ _ _))) _ _ ((face_row HD7.out _).later (al1 _ _))).mono ?_);rintro e w8 ⟨y1,yc1,y2,yc2,y3,yc3,rfl,hC,hb8⟩;have HC8:=hid hC;have HB8:=hid (thenB HB7.out (thenB (bl2 _ _ _) hb8));(refine And.elim ?_ (box5lt (later_blk (new_1 w7 _ _) hb8));intro e0 hcs;have HZ8:=hid (later_blk (new_1 w7 _ _) hb8);obtain ⟨e1,e2,e3,e4,ef,hel⟩:=hcs);clear hC hb8)
  | (go_at_call 21;(with_reducible refine (HT.out _ _ _ _ _ _ _ _ _ _ (HSM.out.2.later (thenB HB7.out (bl2 _ _ _))) _ _ (face_row1 HD7.out _ _)).mono ?_);rintro e w8 ⟨y1,yc1,y2,yc2,y3,yc3,rfl,hC,hb8⟩;have HC8:=hid hC;have HB8:=hid (thenB HB7.out (thenB (bl2 _ _ _) hb8));(refine And.elim ?_ (box5lt (later_blk (heap_old (heap_newP w7 _)) hb8));intro e0 hcs;have HZ8:=hid (later_blk (heap_old (heap_newP w7 _)) hb8);obtain ⟨e1,e2,e3,e4,ef,hel⟩:=hcs);clear hC hb8))
 . show K _ _
   exact TAIL (thenB HSB.out (thenB HB8.out (al1 w8 _))) (HSU.out.later (thenB HB8.out (al1 w8 _))) (HC8.out.new yc1 yc2 yc3 42 rfl)
 . show K _ _
   exact TAIL (thenB HSB.out (bset5 HB8.out (b:=w7.heap.size+1) (by omega) _ _ _ _ _)) (HSU.out.later (bset5 HB8.out (b:=w7.heap.size+1) (by omega) _ _ _ _ _)) (HC8.out.set yc1 yc2 yc3 HZ8.out (by simp<;>omega))
 . show K _ _
   exact TAIL (thenB HSB.out (bset5 HB8.out (b:=w7.heap.size) (by omega) _ _ _ _ _)) (HSU.out.later (bset5 HB8.out (b:=w7.heap.size) (by omega) _ _ _ _ _)) (HC8.out.set yc1 yc2 yc3 HZ8.out (by simp<;>omega))
 . show K _ _
   exact TAIL (thenB HSB.out (bset5 HB8.out (b:=W6.heap.size) (by omega) _ _ _ _ _)) (HSU.out.later (bset5 HB8.out (b:=W6.heap.size) (by omega) _ _ _ _ _)) (HC8.out.set yc1 yc2 yc3 HZ8.out (by simp<;>omega))
theorem cnt_fine:D.fines cntUn.ds:=fines_of _ (by kernel_rfl)
theorem top_fine:D.fines topUn.ds:=fines_of _ (by kernel_rfl)
theorem size_le {n k:Nat} (h:n=k) (hk:k<=maxLen):n<=maxLen:=h ▸ hk
theorem program_any (w:World) :
 Calls Tryz.prog 75 #[] w fun e w'=>∃ a,e = .returned (.slice (some a) 2 2)/\DAt w' Tt (some a) 2 (unsD [cntUn,topUn])/\Below w.heap.size w w':=
 program_gen cntUn topUn cnt_res top_res cnt_fine top_fine (size_le (k:=3) (by kernel_rfl) (by decide)) (size_le (k:=3) (by kernel_rfl) (by decide)) w
end Go.Proofs.YtndkhgakfodldaaGreatDoor
