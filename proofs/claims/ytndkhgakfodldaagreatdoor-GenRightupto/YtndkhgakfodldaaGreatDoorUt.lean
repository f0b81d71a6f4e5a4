/-
  The sample modules resolved: reckoned; the law's counted face; two copies of one face are the same.
-/
import Derived.Test.YtndkhgakfodldaaGreatDoorUs
import Derived.Test.YtndkhgakfodldaaGreatDoorPo
import Derived.Deep.QuietTactic
import Derived.BigQuiet
import Derived.Deep.RegionHeld
import Derived.Test.YtndkhgakfodldaaGreatDoorUn
import Derived.Deep.RegionHeldLaw
import Derived.Test.YtndkhgakfodldaaGreatDoorUr
namespace Go.Proofs.YtndkhgakfodldaaGreatDoor
set_option maxRecDepth 100000
set_option maxHeartbeats 1600000
open Go.RowKit Go.Maps Go.WideMaps
set_option linter.unusedSimpArgs false
def cntF:Fc:=⟨⟨#[99,110,116]⟩,[⟨1,3,0,⟨#[107]⟩⟩,⟨2,0,0,⟨#[115,117,109]⟩⟩,⟨3,4,1,⟨#[116]⟩⟩,⟨4,1,0,⟨#[100,111,119,110]⟩⟩]⟩
def okOr (r:Except Int Un):Un:=match r with | .ok u=>u | .error _=>⟨⟨#[]⟩,[],0,[],[]⟩
def cntUn:Un:=okOr (resolveM cntMo [])
def topUn:Un:=okOr (resolveM topMo [cntF])
theorem cnt_res:resolveM cntMo [] = .ok cntUn:=by kernel_rfl
theorem top_res:resolveM topMo [cntF] = .ok topUn:=by kernel_rfl
theorem EAt.num {w:World} {A:Nat->Prop} {a:Option Addr} {n:Nat} {ds:List D} (h:EAt w A a n ds) (hn:n≠0):∃ b off,a=some ⟨b,off,none⟩/\b<w.heap.size/\A b/\∀ (j:Nat) (k:Int),ds[j]? = some (.int k)->w.cell? ⟨b,off+j,none⟩=some (.int .i64 k):=by
 rcases h with h | ⟨b,off,cs,ha,hA,hb,hc,hx⟩
 . exact absurd h hn
 . refine ⟨b,off,ha,hb,hA,fun j k hj=>?_⟩
   obtain ⟨v,hv,hd⟩:=hx.get j _ hj;rw [enum_of hd] at hv;exact hc j _ hv
theorem counted_any (w:World) :
 Calls Tryz.prog 57 #[] w fun e w'=>∃ ad cap,e = .returned (.agg #[.string ⟨#[99,110,116]⟩,.slice ad 4 cap])/\DAt w' Tt ad 4 (itsD cntF.items)/\Below w.heap.size w w':=by
 go_enter Tryz.func57,Tryz.ntmps57;go_wp2_with fail
 obtain ⟨W,hW⟩:∃ W,W=allocsC w [(#[.string ⟨#[99,110,116]⟩,.slice (some ⟨w.heap.size+1,0,none⟩) 4 4],30),(#[.int .i64 1,.int .i64 3,.int .i64 0,.string ⟨#[107]⟩,.int .i64 2,.int .i64 0,.int .i64 0,.string ⟨#[115,117,109]⟩,.int .i64 3,.int .i64 4,.int .i64 1,.string ⟨#[116]⟩,.int .i64 4,.int .i64 1,.int .i64 0,.string ⟨#[100,111,119,110]⟩],98)]:=⟨_,rfl⟩
 have hB:Below w.heap.size w W:=by rw [hW];exact below_allocsC _ _
 have hD:DAt W Tt (some ⟨w.heap.size+1,0,none⟩) 4 (itsD cntF.items):=by
  rw [hW];refine dat_blk (blk_allocsC w _ 1 _ _ rfl) ?_ (by decide) (by decide);exact .cons (dint rfl) (.cons (dint rfl) (.cons (dint rfl) (.cons (dstr (by decide)) (.cons (dint rfl) (.cons (dint rfl) (.cons (dint rfl) (.cons (dstr (by decide)) (.cons (dint rfl) (.cons (dint rfl) (.cons (dint rfl) (.cons (dstr (by decide)) (.cons (dint rfl) (.cons (dint rfl) (.cons (dint rfl) (.cons (dstr (by decide)) .nil)))))))))))))))
 refine bodyPost_ret (v:=.agg #[.string ⟨#[99,110,116]⟩,.slice (some ⟨w.heap.size+1,0,none⟩) 4 4]) (by simp [results,Tryz.results57,go_sem]) rfl ⟨some ⟨w.heap.size+1,0,none⟩,4,rfl,?_,?_⟩
 . rw [hW] at hD;exact hD
 . rw [hW] at hB;exact hB
theorem parse_top (w:World):Calls Tryz.prog 55 #[.string topS] w fun e w'=>∃ v a1 c1 a2 c2 a3 c3 a4 c4,e = .returned (.tuple #[v,.int .i64 0])/\MoAt w' Tt topMo v a1 c1 a2 c2 a3 c3 a4 c4/\Below w.heap.size w w':=
 (Parse_any topS w (by decide)).mono fun e w' ⟨h,hb⟩=>by
   rcases h with ⟨h,_⟩ | ⟨m,v,a1,c1,a2,c2,a3,c3,a4,c4,hp,_,he,hM⟩
   . rw [top_pars] at h;cases h
   . rw [top_pars] at hp
     obtain rfl:=Option.some.inj hp;exact ⟨v,a1,c1,a2,c2,a3,c3,a4,c4,he,hM,hb⟩
end Go.Proofs.YtndkhgakfodldaaGreatDoor

namespace Go.Proofs.YtndkhgakfodldaaGreatDoor
set_option maxRecDepth 100000
set_option maxHeartbeats 12800000
open Go.RowKit Go.Maps Go.WideMaps
set_option linter.unusedSimpArgs false
structure Sg (w W:World) (b1 b3 b5:Nat) (a:Option Addr) (cap:Nat) (s:ByteArray) (x1:Option Addr) (n1 y1:Nat) (b2 o2 y2:Nat) (x3:Option Addr) (n3 y3:Nat) (z1:Option Addr) (d1:Nat) (z2:Option Addr) (d2:Nat) (z3:Option Addr) (d3:Nat) (z4:Option Addr) (d4:Nat):Prop where
 below:Below w.heap.size w W
 h1:W.heap[b1]? = some (.cells #[.string ⟨#[99,110,116]⟩,.slice a 4 cap] 30 (0,0))
 its:Fx.ItemsAt W a cntF.items
 fit:Fx.AllFit cntF.items
 h3:W.heap[b3]? = some (.cells #[.string s,.slice x1 n1 y1,.int .i64 5,.slice (some ⟨b2,o2,none⟩) 1 y2,.slice x3 n3 y3] 42 (0,0))
 l3:b2<W.heap.size
 c3:W.cell? ⟨b2,o2+1,none⟩=some (.int .i64 1)
 h5:W.heap[b5]? = some (.cells #[.string ⟨#[116,111,112]⟩,.slice z1 1 d1,.slice z2 0 d2,.slice z3 0 d3,.slice z4 3 d4] 27 (0,0))
 mo:MoAt W Tt topMo (.agg #[.string ⟨#[116,111,112]⟩,.slice z1 1 d1,.slice z2 0 d2,.slice z3 0 d3,.slice z4 3 d4]) z1 d1 z2 d2 z3 d3 z4 d4
theorem Sg.later {w W W':World} {b1 b3 b5:Nat} {a:Option Addr} {cap:Nat} {s:ByteArray} {x1:Option Addr} {n1 y1 b2 o2 y2:Nat} {x3:Option Addr} {n3 y3:Nat} {z1 z2 z3 z4:Option Addr} {d1 d2 d3 d4:Nat} (h:Sg w W b1 b3 b5 a cap s x1 n1 y1 b2 o2 y2 x3 n3 y3 z1 d1 z2 d2 z3 d3 z4 d4) (hb:Below W.heap.size W W'):Sg w W' b1 b3 b5 a cap s x1 n1 y1 b2 o2 y2 x3 n3 y3 z1 d1 z2 d2 z3 d3 z4 d4:=
 ⟨h.below.trans (hb.mono h.below.size),(hb.block _ (lt_of_heap h.h1)).trans h.h1,h.its.later hb,h.fit,(hb.block _ (lt_of_heap h.h3)).trans h.h3,Nat.lt_of_lt_of_le h.l3 hb.size,(hb.cell (p:=⟨b2,o2+1,none⟩) h.l3).trans h.c3,(hb.block _ (lt_of_heap h.h5)).trans h.h5,h.mo.later hb⟩
structure Tg (W:World) (b7:Nat) (s:ByteArray) (x1:Option Addr) (n1 y1:Nat) (d:Int) (x2:Option Addr) (n2 y2 b3 o3 y3:Nat):Prop where
 h7:W.heap[b7]? = some (.cells #[.string s,.slice x1 n1 y1,.int .i64 d,.slice x2 n2 y2,.slice (some ⟨b3,o3,none⟩) 3 y3] 42 (0,0))
 l7:b3<W.heap.size
 n:W.cell? ⟨b3,o3+1,none⟩=some (.int .i64 4)
 m:W.cell? ⟨b3,o3+2,none⟩=some (.int .i64 1)
 at':W.cell? ⟨b3,o3+3,none⟩=some (.int .i64 1)
theorem Tg.later {W W':World} {b7:Nat} {s:ByteArray} {x1:Option Addr} {n1 y1:Nat} {d:Int} {x2:Option Addr} {n2 y2 b3 o3 y3:Nat} (h:Tg W b7 s x1 n1 y1 d x2 n2 y2 b3 o3 y3) (hb:Below W.heap.size W W'):Tg W' b7 s x1 n1 y1 d x2 n2 y2 b3 o3 y3:=
 ⟨(hb.block _ (lt_of_heap h.h7)).trans h.h7,Nat.lt_of_lt_of_le h.l7 hb.size,(hb.cell (p:=⟨b3,o3+1,none⟩) h.l7).trans h.n,(hb.cell (p:=⟨b3,o3+2,none⟩) h.l7).trans h.m,(hb.cell (p:=⟨b3,o3+3,none⟩) h.l7).trans h.at'⟩
theorem face_row {w:World} {ad:Option Addr} {cp:Nat} (hD:DAt w Tt ad 4 (itsD cntF.items)) (t:TypeId):DAt (w.alloc (.cells #[.string ⟨#[99,110,116]⟩,.slice ad 4 cp] t)) Tt (some ⟨w.heap.size,0,none⟩) 1 (fcsD [cntF]):=by
 refine dat_blk (blk_allocsC w [(#[.string ⟨#[99,110,116]⟩,.slice ad 4 cp],t)] 0 _ _ rfl) ?_ (by decide) (by decide);exact .cons (dstr (by decide)) (.cons (hD.moves ⟨by simp,fun b hb _=>⟨trivial,(al1 _ _).block b hb⟩⟩).val .nil)
theorem face_row1 {w:World} {ad:Option Addr} {cp:Nat} (hD:DAt w Tt ad 4 (itsD cntF.items)) (o:Obj) (t:TypeId):DAt ((w.alloc o).alloc (.cells #[.string ⟨#[99,110,116]⟩,.slice ad 4 cp] t)) Tt (some ⟨w.heap.size+1,0,none⟩) 1 (fcsD [cntF]):=by
 have:=face_row (cp:=cp) (hD.moves (w':=w.alloc o) ⟨by simp,fun b hb _=>⟨trivial,(al1 _ _).block b hb⟩⟩) t;simpa using this
theorem five {W:World} {b:Nat} {v0 v1 v2 v3 v4:Value} {t:TypeId} (h:W.heap[b]? = some (.cells #[v0,v1,v2,v3,v4] t (0,0))):W.cell? ⟨b,0,none⟩=some v0/\W.cell? ⟨b,1,none⟩=some v1/\W.cell? ⟨b,2,none⟩=some v2/\W.cell? ⟨b,3,none⟩=some v3/\W.cell? ⟨b,4,none⟩=some v4:=
 have h3:=cellsOf5 h
 ⟨h3.1,h3.2.1,h3.2.2.1,h3.2.2.2.1,h3.2.2.2.2.1⟩
theorem later_blk {w w':World} {b:Nat} {x:Obj} (h:w.heap[b]? = some x) (hb:Below w.heap.size w w'):w'.heap[b]? = some x:=(hb.block _ (lt_of_heap h)).trans h
theorem new_d (w:World) (o:Obj):(w.alloc o).drew.heap[w.heap.size]? = some o:=heap_newP w o
theorem new_1 (w:World) (o p:Obj):((w.alloc o).alloc p).heap[w.heap.size+1]? = some p:=by simpa using heap_newP (w.alloc o) p
end Go.Proofs.YtndkhgakfodldaaGreatDoor

namespace Go.Proofs.YtndkhgakfodldaaGreatDoor
set_option maxRecDepth 100000
set_option maxHeartbeats 6400000
open Go.RowKit Go.Maps Go.WideMaps
set_option linter.unusedSimpArgs false
set_option linter.unusedVariables false
mutual
def D.fineB:D->Bool
 | .int n=>(Lit.int .i64 n).wf
 | .str _=>true
 | .bool _=>true
 | .list n ds=>decide (n<=ds.length)&&(decide (ds.length<=17592186044416)&&finesB ds)
def finesB:List D->Bool
 | []=>true
 | d :: ds=>d.fineB&&finesB ds
end
mutual
theorem fine_of:∀ d:D,d.fineB=true->d.fine
 | .int _,h=>by unfold D.fineB at h;unfold D.fine;exact h
 | .str _,_=>by unfold D.fine;trivial
 | .bool _,_=>by unfold D.fine;trivial
 | .list n ds,h=>by
   unfold D.fineB at h;unfold D.fine;simp only [Bool.and_eq_true,decide_eq_true_eq] at h;exact ⟨h.1,h.2.1,fines_of ds h.2.2⟩
theorem fines_of:∀ l:List D,finesB l=true->D.fines l
 | [],_=>by unfold D.fines;trivial
 | d :: ds,h=>by
   unfold finesB at h;unfold D.fines;rw [Bool.and_eq_true] at h;exact ⟨fine_of d h.1,fines_of ds h.2⟩
end
def Uls (w:World) (A:Nat->Prop) (u:Un) (x1 x2 x3:Option Addr):Prop:=DAt w A x1 u.uses.length (strsD u.uses)/\DAt w A x2 u.parts.length (ptsD u.parts)/\DAt w A x3 u.main.length (acsD u.main)
theorem Uls.moves {w w':World} {A A':Nat->Prop} {u:Un} {x1 x2 x3:Option Addr} (h:Uls w A u x1 x2 x3) (m:Moves w A w' A'):Uls w' A' u x1 x2 x3:=⟨h.1.moves m,h.2.1.moves m,h.2.2.moves m⟩
theorem uls_of {w:World} {A:Nat->Prop} {u:Un} {x1 x2 x3:Option Addr} (hf:D.fines u.ds) (h1:EAt w A x1 u.uses.length (strsD u.uses)) (h2:EAt w A x2 u.parts.length (ptsD u.parts)) (h3:EAt w A x3 u.main.length (acsD u.main)):Uls w A u x1 x2 x3:=by
 simp only [Un.ds,D.fines,D.fine] at hf;obtain ⟨_,⟨a1,a2,a3⟩,_,⟨b1,b2,b3⟩,⟨c1,c2,c3⟩,_⟩:=hf;exact ⟨h1.toD a1 a2 a3,h2.toD b1 b2 b3,h3.toD c1 c2 c3⟩
structure UnIn (w:World) (b:Nat) (u:Un) (x1:Option Addr) (xc1:Nat) (x2:Option Addr) (xc2:Nat) (x3:Option Addr) (xc3:Nat):Prop where
 blk:w.heap[b]? = some (.cells #[.string u.name,.slice x1 u.uses.length xc1,.int .i64 u.data,.slice x2 u.parts.length xc2,.slice x3 u.main.length xc3] 42 (0,0))
 ls:Uls w Tt u x1 x2 x3
theorem UnIn.later {w w':World} {b:Nat} {u:Un} {x1 x2 x3:Option Addr} {xc1 xc2 xc3:Nat} (h:UnIn w b u x1 xc1 x2 xc2 x3 xc3) (hb:Below w.heap.size w w'):UnIn w' b u x1 xc1 x2 xc2 x3 xc3:=
 ⟨later_blk h.blk hb,h.ls.moves (Moves.of_below hb _)⟩
def ResEnd (u:Un) (w:World) (e:Ending) (w':World):Prop:=∃ x1 xc1 x2 xc2 x3 xc3,e = .returned (.tuple #[.agg #[.string u.name,.slice x1 u.uses.length xc1,.int .i64 u.data,.slice x2 u.parts.length xc2,.slice x3 u.main.length xc3],.int .i64 0])/\Uls w' (w.heap.size<=·) u x1 x2 x3/\Below w.heap.size w w'
theorem res_un {m:Mo} {l:List Fc} {u:Un} (hr:resolveM m l = .ok u) (hf:D.fines u.ds) {w:World} {v:Value} {a1 a2 a3 a4:Option Addr} {c1 c2 c3 c4:Nat} (hM:MoAt w Tt m v a1 c1 a2 c2 a3 c3 a4 c4) {al:Option Addr} (cl:Nat) (hF:DAt w Tt al l.length (fcsD l)) :
 Calls Tryz.prog 21 #[v,.slice al l.length cl] w fun e w'=>ResEnd u w e w':=
 (Resolve_any m v a1 c1 a2 c2 a3 c3 a4 c4 l al cl w hM hF).mono fun e w' ⟨h,hb⟩=>by
   rw [hr] at h;obtain ⟨x1,y1,x2,y2,x3,y3,he,h1,h2,h3⟩:=h;exact ⟨x1,y1,x2,y2,x3,y3,he,uls_of hf h1 h2 h3,hb⟩
theorem Uls.new {w:World} {A:Nat->Prop} {u:Un} {x1 x2 x3:Option Addr} (xc1 xc2 xc3:Nat) (h:Uls w A u x1 x2 x3) (t:TypeId) (ht:t=42):UnIn (w.alloc (.cells #[.string u.name,.slice x1 u.uses.length xc1,.int .i64 u.data,.slice x2 u.parts.length xc2,.slice x3 u.main.length xc3] t)) w.heap.size u x1 xc1 x2 xc2 x3 xc3:=by
 subst ht;exact ⟨heap_newP _ _,h.moves ⟨by simp,fun b hb _=>⟨trivial,(al1 _ _).block b hb⟩⟩⟩
theorem Uls.set {w:World} {lo b:Nat} {u:Un} {x1 x2 x3:Option Addr} (xc1 xc2 xc3:Nat) {v0 v1 v2 v3 v4:Value} (h:Uls w (lo<=·) u x1 x2 x3) (hz:w.heap[b]? = some (.cells #[v0,v1,v2,v3,v4] 42)) (hb:b<lo):UnIn (set5 w b (.string u.name) (.slice x1 u.uses.length xc1) (.int .i64 u.data) (.slice x2 u.parts.length xc2) (.slice x3 u.main.length xc3)) b u x1 xc1 x2 xc2 x3 xc3:=by
 refine ⟨heap_set (heap_set (heap_set (heap_set (heap_set hz _) _) _) _) _,h.moves ⟨by simp [set5],fun k hk hl=>⟨trivial,?_⟩⟩⟩
 have hn:k≠b:=by omega
 exact (heap_set_ne hn _).trans ((heap_set_ne hn _).trans ((heap_set_ne hn _).trans ((heap_set_ne hn _).trans (heap_set_ne hn _))))
theorem un_ds {w:World} {u:Un} {x1 x2 x3:Option Addr} (xc1 xc2 xc3:Nat) (hf:D.fines u.ds) (hn:u.name.size<=maxLen) (h:Uls w Tt u x1 x2 x3):DVals w Tt u.ds [.string u.name,.slice x1 u.uses.length xc1,.int .i64 u.data,.slice x2 u.parts.length xc2,.slice x3 u.main.length xc3]:=by
 simp only [Un.ds,D.fines,D.fine] at hf;unfold Un.ds;exact .cons (dstr hn) (.cons h.1.val (.cons (dint hf.2.2.1) (.cons h.2.1.val (.cons h.2.2.val .nil))))
theorem program_gen (u t:Un) (hu:resolveM cntMo [] = .ok u) (ht:resolveM topMo [cntF] = .ok t) (hfu:D.fines u.ds) (hft:D.fines t.ds) (hnu:u.name.size<=maxLen) (hnt:t.name.size<=maxLen) (w:World) :
 Calls Tryz.prog 75 #[] w fun e w'=>∃ a,e = .returned (.slice (some a) 2 2)/\DAt w' Tt (some a) 2 (unsD [u,t])/\Below w.heap.size w w':=by
 have HU:=hid (fun (W:World) (v:Value) (a1:Option Addr) (c1:Nat) (a2:Option Addr) (c2:Nat) (a3:Option Addr) (c3:Nat) (a4:Option Addr) (c4:Nat) (hM:MoAt W Tt cntMo v a1 c1 a2 c2 a3 c3 a4 c4)=>res_un hu hfu hM (al:=none) 0 ⟨Nat.le_refl _,Nat.zero_le _,Or.inl rfl⟩)
 have HT:Hid (∀ (W:World) (v:Value) (a1:Option Addr) (c1:Nat) (a2:Option Addr) (c2:Nat) (a3:Option Addr) (c3:Nat) (a4:Option Addr) (c4:Nat),MoAt W Tt topMo v a1 c1 a2 c2 a3 c3 a4 c4->∀ (al:Option Addr) (cl:Nat),DAt W Tt al 1 (fcsD [cntF])->Calls Tryz.prog 21 #[v,.slice al 1 cl] W fun e w'=>ResEnd t W e w'):=fun W v a1 c1 a2 c2 a3 c3 a4 c4 hM al cl hF=>res_un ht hft hM (l:=[cntF]) cl hF
 have HFu:=hid (And.intro hfu hnu);have HFt:=hid (And.intro hft hnt);clear hu ht hfu hft hnu hnt;go_enter Tryz.func75,Tryz.ntmps75;go_wp2_with fail;refine (counter_any _).mono ?_;rintro e w1 ⟨v,a1,c1,a2,c2,a3,c3,a4,c4,rfl,hM,hb1⟩;have HM:=hid hM;have HB1:=hid hb1;clear hM hb1;go_wp2_with fail;refine (HU.out _ _ _ _ _ _ _ _ _ _ HM.out).mono ?_;rintro e w2 ⟨x1,xc1,x2,xc2,x3,xc3,rfl,hC,hb2⟩;have HN:=hid (hC.new xc1 xc2 xc3 42 rfl);have HB2:=hid (thenB HB1.out (thenB hb2 (al1 w2 (.cells #[.string u.name,.slice x1 u.uses.length xc1,.int .i64 u.data,.slice x2 u.parts.length xc2,.slice x3 u.main.length xc3] 42))));clear hC hb2 HM HB1;go_wp2_with fail
 obtain ⟨W2,hW2⟩:∃ W2,W2=w2.alloc (.cells #[.string u.name,.slice x1 u.uses.length xc1,.int .i64 u.data,.slice x2 u.parts.length xc2,.slice x3 u.main.length xc3] 42):=⟨_,rfl⟩
 rw [← hW2] at HN HB2 ⊢;clear hW2;refine (topText_any _).mono ?_;rintro e w5 ⟨rfl,h5⟩
 have hB5:Below W2.heap.size W2 w5:=by rw [h5];exact Below.refl _ _
 clear h5;go_wp2_with fail;refine (parse_top w5).mono ?_;rintro e w6 ⟨u',z1,d1,z2,d2,z3,d3,z4,d4,rfl,hM,hb6⟩;have hB6:=thenB hB5 hb6;obtain rfl:u' = .agg #[.string ⟨#[116,111,112]⟩,.slice z1 1 d1,.slice z2 0 d2,.slice z3 0 d3,.slice z4 3 d4]:=hM.val;have HM:=hid hM;have HB6:=hid hB6;clear hM hB6 hb6 hB5;go_wp2_with fail
 obtain ⟨W6,hW6⟩:∃ W6,W6=w6.alloc (.cells #[.string ⟨#[116,111,112]⟩,.slice z1 1 d1,.slice z2 0 d2,.slice z3 0 d3,.slice z4 3 d4] 27):=⟨_,rfl⟩
 have hB7:Below w6.heap.size w6 W6:=by rw [hW6];exact al1 _ _
 have hB:=thenB HB6.out hB7;have HSB:=hid (thenB HB2.out hB);have HSU:=hid (HN.out.later hB)
 have HSM:Hid (W6.heap[w6.heap.size]? = some (.cells #[.string ⟨#[116,111,112]⟩,.slice z1 1 d1,.slice z2 0 d2,.slice z3 0 d3,.slice z4 3 d4] 27 (0,0))/\MoAt W6 Tt topMo (.agg #[.string ⟨#[116,111,112]⟩,.slice z1 1 d1,.slice z2 0 d2,.slice z3 0 d3,.slice z4 3 d4]) z1 d1 z2 d2 z3 d3 z4 d4):=⟨by rw [hW6];exact heap_newP _ _,HM.out.later hB7⟩
 rw [← hW6];clear hW6 hB7 hB HB6 HB2 HM HN
 rename_i K hK
 have TAIL:∀ {W9:World} {b7:Nat} {y1 y2 y3:Option Addr} {yc1 yc2 yc3:Nat} {t7 t8 t9 t10 t11 t12 t13 t14 t15 t16 t17 t18 t19 t20 t21 t22 t23 t24 t25 t26:Value},Below w.heap.size w W9->UnIn W9 w2.heap.size u x1 xc1 x2 xc2 x3 xc3->UnIn W9 b7 t y1 yc1 y2 yc2 y3 yc3->K { tmps:=#[.slice none 0 0,.pointer (some ⟨w2.heap.size,0,none⟩),.int .i64 0,.pointer (some ⟨w6.heap.size,0,none⟩),.int .i64 0,.pointer (some ⟨b7,0,none⟩),.int .i64 0,t7,t8,t9,t10,t11,t12,t13,t14,t15,t16,t17,t18,t19,t20,t21,t22,t23,t24,t25,t26],defers:=[] } W9:=by
  intro W9 b7 y1 y2 y3 yc1 yc2 yc3 t7 t8 t9 t10 t11 t12 t13 t14 t15 t16 t17 t18 t19 t20 t21 t22 t23 t24 t25 t26 hb9 h1 h2;have HB9:=hid hb9;have H1:=hid h1;have H2:=hid h2;obtain ⟨q0,q1,q2,q3,q4⟩:=five h1.blk;obtain ⟨r0,r1,r2,r3,r4⟩:=five h2.blk;have qz:=lt_of_heap h1.blk;have rz:=lt_of_heap h2.blk;clear hb9 h1 h2 HSB HSU HSM;refine hK _ _ ?_;clear hK;go_wp2_with fail;have hB9:=al1 W9 (.cells #[.string u.name,.slice x1 u.uses.length xc1,.int .i64 u.data,.slice x2 u.parts.length xc2,.slice x3 u.main.length xc3,.string t.name,.slice y1 t.uses.length yc1,.int .i64 t.data,.slice y2 t.parts.length yc2,.slice y3 t.main.length yc3] 42);go_ret;refine ⟨⟨W9.heap.size,0,none⟩,rfl,?_,thenB HB9.out hB9⟩;refine dat_blk (Blk.new W9 _ _) ?_ (by simp [unsD,Un.ds]) (by simp [unsD,Un.ds])
  have e:unsD [u,t]=u.ds++t.ds:=by simp [unsD]
  rw [e];have k1:=un_ds xc1 xc2 xc3 HFu.out.1 HFu.out.2 (H1.out.ls.moves (Moves.of_below hB9 _));have k2:=un_ds yc1 yc2 yc3 HFt.out.1 HFt.out.2 (H2.out.ls.moves (Moves.of_below hB9 _));exact k1.append k2
 clear hK;have HMd:=hid (later_blk HSM.out.1 (bdrew W6));have hb5:=lt_of_heap HSM.out.1;have HX5:=hid (fun (W:World) (hW:Below W6.heap.size W6 W)=>five (later_blk HSM.out.1 hW))
 go_region_held (fun W=>W.cell? ⟨w6.heap.size,0,none⟩=some (.string ⟨#[116,111,112]⟩)/\W.cell? ⟨w6.heap.size,1,none⟩=some (.slice z1 1 d1)/\W.cell? ⟨w6.heap.size,2,none⟩=some (.slice z2 0 d2)/\W.cell? ⟨w6.heap.size,3,none⟩=some (.slice z3 0 d3)/\W.cell? ⟨w6.heap.size,4,none⟩=some (.slice z4 3 d4))
  (first | with_reducible exact HX5.out _ HB8.out | with_reducible exact HX5.out _ (thenB HB8.out (al1 _ _)) | with_reducible exact HX5.out _ (bset5 HB8.out (by omega) _ _ _ _ _) | with_reducible exact HX5.out _ HB7.out | with_reducible exact HX5.out _ (thenB HB7.out (al1 _ _)) | with_reducible exact HX5.out _ (thenB HB7.out (bl2 _ _ _)) | with_reducible exact HX5.out _ (bdrew _) | with_reducible exact HX5.out _ (bAdrew _ _) | with_reducible exact HX5.out _ (thenB (bdrew _) (al1 _ _)))
  (first
  | (go_at_call 57;refine (counted_any _).mono ?_;rintro e w7 ⟨ad,cp,rfl,hD,hb7⟩;have HD7:=hid hD;(first | (with_reducible have HB7:=hid (thenB (bdrew W6) hb7)) | (have HZ7:=hid (later_blk (new_d W6 _) hb7);have HB7:=hid (thenB (bAdrew W6 _) hb7)));have hz7:=HB7.out.size;clear hD hb7)
  | (go_at_call 21;(with_reducible refine (HT.out _ _ _ _ _ _ _ _ _ _ (HSM.out.2.later (thenB HB7.out (al1 _ _))) _ _ (face_row HD7.out _)).mono ?_);rintro e w8 ⟨y1,yc1,y2,yc2,y3,yc3,rfl,hC,hb8⟩;have HC8:=hid hC;have HB8:=hid (thenB HB7.out (thenB (al1 _ _) hb8));(first | (with_reducible refine And.elim ?_ (box5lt (later_blk (later_blk HZ7.out (al1 _ _)) hb8));intro e0 hcs;have HZ8:=hid (later_blk (later_blk HZ7.out (al1 _ _)) hb8);obtain ⟨e1,e2,e3,e4,ef,hel⟩:=hcs) | skip);clear hC hb8)
  | (go_at_call 21;(with_reducible refine (HT.out _ _ _ _ _ _ _ _ _ _ (HSM.out.2.later (thenB HB7.out (bl2 _ _ _))) _ _ ((face_row HD7.out _).later (al1 _ _))).mono ?_);rintro e w8 ⟨y1,yc1,y2,yc2,y3,yc3,rfl,hC,hb8⟩;have HC8:=hid hC;have HB8:=hid (thenB HB7.out (thenB (bl2 _ _ _) hb8));(refine And.elim ?_ (box5lt (later_blk (new_1 w7 _ _) hb8));intro e0 hcs;have HZ8:=hid (later_blk (new_1 w7 _ _) hb8);obtain ⟨e1,e2,e3,e4,ef,hel⟩:=hcs);clear hC hb8)
  | (go_at_call 21;(with_reducible refine (HT.out _ _ _ _ _ _ _ _ _ _ (HSM.out.2.later (thenB HB7.out (bl2 _ _ _))) _ _ (face_row1 HD7.out _ _)).mono ?_);rintro e w8 ⟨y1,yc1,y2,yc2,y3,yc3,rfl,hC,hb8⟩;have HC8:=hid hC;have HB8:=hid (thenB HB7.out (thenB (bl2 _ _ _) hb8));(refine And.elim ?_ (box5lt (later_blk (heap_old (heap_newP w7 _)) hb8));intro e0 hcs;have HZ8:=hid (later_blk (heap_old (heap_newP w7 _)) hb8);obtain ⟨e1,e2,e3,e4,ef,hel⟩:=hcs);clear hC hb8))
 . show K _ _
   exact TAIL (thenB HSB.out (thenB HB8.out (al1 w8 _))) (HSU.out.later (thenB HB8.out (al1 w8 _))) (HC8.out.new yc1 yc2 yc3 42 rfl)
 . show K _ _
   exact TAIL (thenB HSB.out (bset5 HB8.out (b:=w7.heap.size+1) (by omega) _ _ _ _ _)) (HSU.out.later (bset5 HB8.out (b:=w7.heap.size+1) (by omega) _ _ _ _ _)) (HC8.out.set yc1 yc2 yc3 HZ8.out (by simp<;>omega))
 . show K _ _
   exact TAIL (thenB HSB.out (bset5 HB8.out (b:=w7.heap.size) (by omega) _ _ _ _ _)) (HSU.out.later (bset5 HB8.out (b:=w7.heap.size) (by omega) _ _ _ _ _)) (HC8.out.set yc1 yc2 yc3 HZ8.out (by simp<;>omega))
 . show K _ _
   exact TAIL (thenB HSB.out (bset5 HB8.out (b:=W6.heap.size) (by omega) _ _ _ _ _)) (HSU.out.later (bset5 HB8.out (b:=W6.heap.size) (by omega) _ _ _ _ _)) (HC8.out.set yc1 yc2 yc3 HZ8.out (by simp<;>omega))
theorem cnt_fine:D.fines cntUn.ds:=fines_of _ (by kernel_rfl)
theorem top_fine:D.fines topUn.ds:=fines_of _ (by kernel_rfl)
theorem size_le {n k:Nat} (h:n=k) (hk:k<=maxLen):n<=maxLen:=h ▸ hk
theorem program_any (w:World) :
 Calls Tryz.prog 75 #[] w fun e w'=>∃ a,e = .returned (.slice (some a) 2 2)/\DAt w' Tt (some a) 2 (unsD [cntUn,topUn])/\Below w.heap.size w w':=
 program_gen cntUn topUn cnt_res top_res cnt_fine top_fine (size_le (k:=3) (by kernel_rfl) (by decide)) (size_le (k:=3) (by kernel_rfl) (by decide)) w
end Go.Proofs.YtndkhgakfodldaaGreatDoor

namespace Go.Proofs.YtndkhgakfodldaaGreatDoor
set_option maxRecDepth 100000
set_option maxHeartbeats 6400000
open Go.RowKit Go.Maps Go.WideMaps
set_option linter.unusedSimpArgs false
set_option linter.unusedVariables false
def cntOb:Ob:=genOb cntUn
theorem cnt_gen:genM cntUn = .ok cntOb:=by kernel_rfl
theorem nil_gen:genM un0 = .error 1:=by kernel_rfl
theorem cntOb_len:cntOb.code.length=22/\cntOb.fixes.length=5/\cntOb.entries.length=1/\cntOb.main=19:=⟨by kernel_rfl,by kernel_rfl,by kernel_rfl,by kernel_rfl⟩
theorem cntOb_ents:cntOb.entries=[0]:=by kernel_rfl
theorem cntOb_4:(gisD cntOb.code)[12]? = some (.int 12)/\(gisD cntOb.code)[13]? = some (.int 15)/\(gisD cntOb.code)[14]? = some (.int 0)/\(gisD cntOb.code)[15]? = some (.int 16):=⟨by kernel_rfl,by kernel_rfl,by kernel_rfl,by kernel_rfl⟩
theorem cntOb_f:(gfsD cntOb.fixes)[0]? = some (.int 4)/\(gfsD cntOb.fixes)[1]? = some (.int 1)/\(gfsD cntOb.fixes)[2]? = some (.int 0)/\(gfsD cntOb.fixes)[3]? = some (.int 6)/\(gfsD cntOb.fixes)[4]? = some (.int 3)/\(gfsD cntOb.fixes)[5]? = some (.int 0):=⟨by kernel_rfl,by kernel_rfl,by kernel_rfl,by kernel_rfl,by kernel_rfl,by kernel_rfl⟩
theorem DAt.ints {w:World} {A:Nat->Prop} {a:Option Addr} {n:Nat} {ds:List D} (h:DAt w A a n ds) (hn:0<n):∃ b off,a=some ⟨b,off,none⟩/\b<w.heap.size/\∀ (j:Nat) (k:Int),ds[j]? = some (.int k)->w.cell? ⟨b,off+j,none⟩=some (.int .i64 k):=by
 obtain ⟨b,off,ha,hb,hc⟩:=h.cell hn;refine ⟨b,off,ha,hb,fun j k hj=>?_⟩;obtain ⟨v,hv,hd⟩:=hc j _ hj;rw [(dnum_of hd).1] at hv;exact hv
structure Cob (w:World) (b3 o3 b4 o4 b5 o5:Nat):Prop where
 l3:b3<w.heap.size
 c0:w.cell? ⟨b3,o3+12,none⟩=some (.int .i64 12)
 c1:w.cell? ⟨b3,o3+13,none⟩=some (.int .i64 15)
 c2:w.cell? ⟨b3,o3+14,none⟩=some (.int .i64 0)
 c3:w.cell? ⟨b3,o3+15,none⟩=some (.int .i64 16)
 l4:b4<w.heap.size
 f0:w.cell? ⟨b4,o4,none⟩=some (.int .i64 4)
 f1:w.cell? ⟨b4,o4+1,none⟩=some (.int .i64 1)
 f2:w.cell? ⟨b4,o4+2,none⟩=some (.int .i64 0)
 f3:w.cell? ⟨b4,o4+3,none⟩=some (.int .i64 6)
 f4:w.cell? ⟨b4,o4+4,none⟩=some (.int .i64 3)
 f5:w.cell? ⟨b4,o4+5,none⟩=some (.int .i64 0)
 en:DAt w Tt (some ⟨b5,o5,none⟩) 1 (intD [0])
theorem Cob.later {w w':World} {b3 o3 b4 o4 b5 o5:Nat} (h:Cob w b3 o3 b4 o4 b5 o5) (hb:Below w.heap.size w w'):Cob w' b3 o3 b4 o4 b5 o5:=
 have k3:∀ j,w'.cell? ⟨b3,j,none⟩=w.cell? ⟨b3,j,none⟩:=fun j=>hb.cell (p:=⟨b3,j,none⟩) h.l3
 have k4:∀ j,w'.cell? ⟨b4,j,none⟩=w.cell? ⟨b4,j,none⟩:=fun j=>hb.cell (p:=⟨b4,j,none⟩) h.l4
 ⟨Nat.lt_of_lt_of_le h.l3 hb.size,(k3 _).trans h.c0,(k3 _).trans h.c1,(k3 _).trans h.c2,(k3 _).trans h.c3,Nat.lt_of_lt_of_le h.l4 hb.size,(k4 _).trans h.f0,(k4 _).trans h.f1,(k4 _).trans h.f2,(k4 _).trans h.f3,(k4 _).trans h.f4,(k4 _).trans h.f5,h.en.later hb⟩
theorem un0_at (w:World):UvAt w un0 none 0 none 0 none 0:=⟨by decide,⟨by decide,by decide,Or.inl rfl⟩,by decide,⟨by decide,by decide,Or.inl rfl⟩,⟨by unfold un0;simp [acsD],by unfold un0;simp [acsD],Or.inl rfl⟩⟩
theorem gen_nil (w:World):Calls Tryz.prog 31 #[.agg #[.string ⟨#[]⟩,.slice none 0 0,.int .i64 0,.slice none 0 0,.slice none 0 0]] w fun e w'=>e = .returned (.tuple #[.agg #[.string ⟨#[]⟩,.slice none 0 0,.int .i64 0,.slice none 0 0,.slice none 0 0,.slice none 0 0,.int .i64 0],.int .i64 1])/\Below w.heap.size w w':=
 gen_no nil_gen (un0_at w)
theorem gen_cnt {w:World} {x1:Option Addr} {y1:Nat} {x2:Option Addr} {y2:Nat} {x3:Option Addr} {y3:Nat} {u:Un} (hu:u=cntUn) (hU:UvAt w u x1 y1 x2 y2 x3 y3) :
 Calls Tryz.prog 31 #[.agg #[.string u.name,.slice x1 u.uses.length y1,.int .i64 u.data,.slice x2 u.parts.length y2,.slice x3 u.main.length y3]] w fun e w'=>∃ s p1 m1 q1 d b3 o3 q3 b4 o4 q4 b5 o5 q5,e = .returned (.tuple #[.agg #[.string s,.slice p1 m1 q1,.int .i64 d,.slice (some ⟨b3,o3,none⟩) 22 q3,.slice (some ⟨b4,o4,none⟩) 5 q4,.slice (some ⟨b5,o5,none⟩) 1 q5,.int .i64 19],.int .i64 0])/\Cob w' b3 o3 b4 o4 b5 o5/\Below w.heap.size w w':=
 (gen_at (o:=cntOb) (by rw [hu];exact cnt_gen) hU).mono fun e w' h=>by
   obtain ⟨p1,q1,p3,q3,p4,q4,p5,q5,he,hO,_,hb⟩:=h;have h3:=hO.code;have h4:=hO.fixes;have h5:=hO.entries;rw [cntOb_len.1] at h3 he;rw [cntOb_len.2.1] at h4 he;rw [cntOb_len.2.2.1] at h5 he;rw [cntOb_len.2.2.2] at he;rw [cntOb_ents] at h5;obtain ⟨b3,o3,rfl,l3,k3⟩:=h3.ints (by decide);obtain ⟨b4,o4,rfl,l4,k4⟩:=h4.ints (by decide);obtain ⟨b5,o5,rfl,_,_⟩:=h5.ints (by decide);exact ⟨_,p1,_,q1,_,b3,o3,q3,b4,o4,q4,b5,o5,q5,he,⟨l3,k3 _ _ cntOb_4.1,k3 _ _ cntOb_4.2.1,k3 _ _ cntOb_4.2.2.1,k3 _ _ cntOb_4.2.2.2,l4,k4 _ _ cntOb_f.1,k4 _ _ cntOb_f.2.1,k4 _ _ cntOb_f.2.2.1,k4 _ _ cntOb_f.2.2.2.1,k4 _ _ cntOb_f.2.2.2.2.1,k4 _ _ cntOb_f.2.2.2.2.2,h5⟩,hb⟩
theorem zero_at (w:World) (t:TypeId):DAt (w.alloc (.cells #[.int .i64 0] t)) Tt (some ⟨w.heap.size,0,none⟩) 1 (intD [0]):=
 dat_blk (Blk.new w _ t) (.cons (dint rfl) .nil) (by decide) (by decide)
theorem genBegun_any (w:World) :
 Calls Tryz.prog 30 #[] w fun e w'=>e = .returned (.bool true)/\Below w.heap.size w w':=by
 go_enter Tryz.func30,Tryz.ntmps30;go_wp2_with fail;refine (program_any _).mono ?_;rintro e w1 ⟨a,rfl,hD,hb1⟩;have HB1:=hid hb1;obtain ⟨b,off,a1,k1,a2,k2,a3,k3,ha,hx⟩:=(DAt.un (l:=[cntUn,topUn]) hD) 0 (by decide);obtain rfl:=Option.some.inj ha;have HU:=hid hx.uv
 obtain ⟨u,hu⟩:∃ u,u=cntUn:=⟨_,rfl⟩
 simp only [List.getElem_cons_zero,Nat.zero_mul,Nat.add_zero] at hx HU;rw [← hu] at hx HU;obtain ⟨hbl,z0,z1,z2,z3,z4,_,_,_,_,_⟩:=hx;have HH:=hid hu;clear hu hD hb1 ha;go_wp2_with fail;refine (gen_cnt HH.out HU.out).mono ?_;rintro e w2 ⟨s,p1,m1,q1,d,b3,o3,q3,b4,o4,q4,b5,o5,q5,rfl,hC,hb2⟩;have HB2:=hid (thenB HB1.out hb2);have HC:=hid hC;clear hC hb2 hbl z0 z1 z2 z3 z4 HU;go_wp2_with fail
 obtain ⟨W2,hW2⟩:∃ W2,W2=w2.alloc (.cells #[.string s,.slice p1 m1 q1,.int .i64 d,.slice (some ⟨b3,o3,none⟩) 22 q3,.slice (some ⟨b4,o4,none⟩) 5 q4,.slice (some ⟨b5,o5,none⟩) 1 q5,.int .i64 19] 62):=⟨_,rfl⟩
 have hBa:Below w2.heap.size w2 W2:=by rw [hW2];exact al1 _ _
 have HX2:Hid (W2.heap[w2.heap.size]? = some (.cells #[.string s,.slice p1 m1 q1,.int .i64 d,.slice (some ⟨b3,o3,none⟩) 22 q3,.slice (some ⟨b4,o4,none⟩) 5 q4,.slice (some ⟨b5,o5,none⟩) 1 q5,.int .i64 19] 62)):=by rw [hW2];exact heap_newP _ _
 have HBW:=hid (thenB HB2.out hBa);have HCW:=hid (HC.out.later hBa);rw [← hW2];clear hW2 hBa HB2 HC HB1;refine (gen_nil _).mono ?_;rintro e w3 ⟨rfl,hb3⟩;have HX3:=hid (later_blk HX2.out hb3);have HBW3:=hid (thenB HBW.out hb3);have HC3:=hid (HCW.out.later hb3);clear HX2 HBW HCW hb3;obtain ⟨q0',q1',q2',q3',q4',q5',q6',_⟩:=cells7 HX3.out;have qz:=lt_of_heap HX3.out
 have HZ:Hid (DAt ((w3.alloc (.cells #[.string ⟨#[]⟩,.slice none 0 0,.int .i64 0,.slice none 0 0,.slice none 0 0,.slice none 0 0,.int .i64 0] 62)).alloc (.cells #[.int .i64 0] 3)) Tt (some ⟨w3.heap.size+1,0,none⟩) 1 (intD [0])):=by
  have:=zero_at (w3.alloc (.cells #[.string ⟨#[]⟩,.slice none 0 0,.int .i64 0,.slice none 0 0,.slice none 0 0,.slice none 0 0,.int .i64 0] 62)) 3;rw [World.size_alloc] at this;exact this
 go_wp2_with fail;refine (SameInts_same (some ⟨b5,o5,none⟩) _ q5 1 [0] _ (HC3.out.en.later (bl2 _ _ _)) HZ.out).mono ?_;rintro e w4 ⟨rfl,m,h4⟩
 have hb4:Below w3.heap.size w3 w4:=by rw [h4];exact ⟨rfl,rfl,rfl,(bl2 w3 _ _).size,(bl2 w3 _ _).block⟩
 have HX4:=hid (later_blk HX3.out hb4);have HBW4:=hid (thenB HBW3.out hb4);have HC4:=hid (HC3.out.later hb4);clear q0' q1' q2' q3' q4' q5' q6' qz h4 HX3 HBW3 HC3 HZ hb4;obtain ⟨q0',q1',q2',q3',q4',q5',q6',_⟩:=cells7 HX4.out;have qz:=lt_of_heap HX4.out;obtain ⟨l3,c0,c1,c2,c3,l4,f0,f1,f2,f3,f4,f5,_⟩:=HC4.out;go_wp2_with fail;go_ret;exact ⟨rfl,by first | exact HBW4.out | exact thenB HBW4.out (al1 _ _) | exact thenB HBW4.out (bl2 _ _ _)⟩
end Go.Proofs.YtndkhgakfodldaaGreatDoor

namespace Go.Proofs.YtndkhgakfodldaaGreatDoor
set_option maxRecDepth 100000
open Go.RowKit Go.Maps Go.WideMaps
set_option linter.unusedSimpArgs false
set_option linter.unusedVariables false
theorem choose_any (c:Int) (k:Nat) (w:World) (hc:(Lit.int .i64 c).wf=true) (h0:0<k) (hk:k<=17592186044416) :
 Calls Tryz.prog 27 #[.int .i64 c,.int .i64 k] w fun e w'=>∃ i:Nat,i<k/\e = .returned (.int .i64 i)/\w'=w:=by
 have hr:=wf_range hc;clear hc
 have hk0:(k:Int)≠0:=by omega
 by_cases t:c<0
 . go_enter Tryz.func27,Tryz.ntmps27
   go_wp2_with fail;go_ret
   have e : -((c+1).tmod k)=(-(c+1)) % k:=by rw [← Int.neg_tmod,Int.tmod_eq_emod_of_nonneg (by omega)]
   have h1:=Int.emod_nonneg (-(c+1)) hk0;have h2:=Int.emod_lt_of_pos (-(c+1)) (by omega:(0:Int)<k);refine ⟨((-(c+1)) % k).toNat,by omega,?_,rfl⟩;show Ending.returned (.int .i64 (-((c+1).tmod k)))=_;rw [Int.toNat_of_nonneg h1,e]
 . go_enter Tryz.func27,Tryz.ntmps27
   go_wp2_with fail;go_ret;have h1:=Int.emod_nonneg c hk0;have h2:=Int.emod_lt_of_pos c (by omega:(0:Int)<k);refine ⟨(c % k).toNat,by omega,?_,rfl⟩;show Ending.returned (.int .i64 (c % k))=_;rw [Int.toNat_of_nonneg h1]
end Go.Proofs.YtndkhgakfodldaaGreatDoor

namespace Go.Proofs.YtndkhgakfodldaaGreatDoor
set_option maxRecDepth 100000
open Go.RowKit Go.Maps Go.WideMaps
set_option linter.unusedSimpArgs false
set_option linter.unusedVariables false
theorem Tryz.infoI:(Tryz.prog.info? 3).map (fun i=>(i.zero,i.size,i.bytes))=some (some (.int .i64 0),1,8):=by kernel_rfl
theorem intV_one (l:List Int):∀ u ∈ intV l,u.oneCell'=true:=fun u hu=>by
 obtain ⟨x,_,rfl⟩:=List.mem_map.1 hu
 rfl
theorem intV_len (l:List Int):(intV l).length=l.length:=by simp [intV]
theorem run_append_ints {w:World} (base:Nat) (ty:TypeId) (v:Value) (n:Nat) (xs:List Value) (hown:w.ownsRow base 3 1 v n xs) (us:List Int) (b:Option Addr) (c:Nat) (hS:DAt w Tt b us.length (intD us)) (hlen:n+us.length<=1000000000) (hbase:base<=w.heap.size) :
 ∃ v' w',(Builtin.append_ #[49,49] ty #[v,.slice b us.length c]).run Tryz.prog w = .ok v' w'/\w'.ownsRow base 3 1 v' (n+us.length) (xs++intV us)/\w.grownBy w' v.ownBlock:=by
 obtain ⟨i0,hi,hz0,hz1,hz2⟩:=info_parts Tryz.infoI
 have go:∀ ad:Addr,b=some ad->(∀ j u,(intV us)[j]? = some u->w.cell? (ad.add j)=some u)->∃ v' w',(Builtin.append_ #[49,49] ty #[v,.slice b us.length c]).run Tryz.prog w = .ok v' w'/\w'.ownsRow base 3 1 v' (n+us.length) (xs++intV us)/\w.grownBy w' v.ownBlock:=by
  rintro ad rfl hn;obtain ⟨v',w',h1,h2,h3,_⟩:=run_append_own (P:=Tryz.prog) (w:=w) base 49 ty 3 i0 _ 1 8 Tryz.underlying49 hi hz0 hz1 hz2 rfl (by decide) v n xs hown ad us.length c (intV us) (by rw [intV_len,Nat.mul_one]) hn (intV_one us) (by unfold maxLen;omega) (by omega) hbase;exact ⟨v',w',h1,h2,h3⟩
 by_cases h0:us.length=0
 . obtain rfl:=List.eq_nil_of_length_eq_zero h0
   cases b with
   | none=>exact ⟨v,w,run_append_nothing base _ ty _ i0 1 c Tryz.underlying49 hi v n xs hown,by simpa [intV] using hown,⟨rfl,rfl,rfl,Nat.le_refl _,fun _ _ _=>rfl⟩⟩
   | some ad=>exact go ad rfl (fun j u hj=>by simp [intV] at hj)
 . obtain ⟨b1,off,rfl,hb1,h⟩:=hS.ints (by omega)
   refine go _ rfl (fun j u hj=>?_)
   have hj':j<us.length:=by
    rcases Nat.lt_or_ge j us.length with h' | h'
    . exact h'
    . rw [List.getElem?_eq_none (by rw [intV_len];exact h')] at hj;cases hj
   have e:(⟨b1,off,none⟩:Addr).add j=⟨b1,off+j,none⟩:=by unfold Addr.add;split<;>simp_all
   rw [e,h j us[j] (by simp [intD,hj'])];simp [intV,hj'] at hj;rw [hj]
theorem step_append_ints {ops:Array Oper} {o:Oper} {a:Act} {K:Act->World->Prop} {Q:Exit->Act->World->Prop} {E:Prop} {w:World} (hgd:o.guard=none) (s x:Operand)
 (ho:o.op = .call { callee:=.builtin .append,args:=#[s,x],argTypes:=#[49,49] }) (base:Nat) (v:Value) (n:Nat) (xs:List Value) (hown:w.ownsRow base 3 1 v n xs) (us:List Int) (b:Option Addr) (c:Nat) (hs:a.eval s=v) (hx:a.eval x = .slice b us.length c) (hS:DAt w Tt b us.length (intD us)) (hlen:n+us.length<=1000000000) (hbase:base<=w.heap.size)
 (h:∀ v' w',w'.ownsRow base 3 1 v' (n+us.length) (xs++intV us)->Below base w w'->(∀ (b:Nat) (x:Obj),w.heap[b]? = some x->v.ownBlock≠some b->w'.heap[b]? = some x)->K (a.put o.dst v') w') :
 if Region.wanted o (yielded ops a.tmps)=true then Oper.wp Tryz.prog o a w K Q else E:=by
 have hw:Region.wanted o (yielded ops a.tmps)=true:=by simp [Region.wanted,hgd]
 rw [if_pos hw];obtain ⟨v',w',hr,h2,h3⟩:=run_append_ints base o.type v n xs hown us b c hS hlen hbase;exact Lib.wp_append_run w s x _ _ ho _ _ hs hx v' w' hr (h v' w' h2 ((Below.refl base w).grown h3 hbase (fun k hk=>(hown.lt k hk).1)) (fun b x hb hne=>(h3.block b (lt_of_heap hb) (fun e=>hne e.symm)).trans hb))
theorem own_empty {w:World} {base g:Nat} (h:w.heap[g]? = some (.cells #[] 3)) (hb:base<=g):w.ownsRow base 3 1 (.slice (some ⟨g,0,none⟩) 0 0) 0 []:=
 ⟨rfl,Or.inr ⟨g,0,#[],rfl,hb,h,Nat.le_refl _,Nat.zero_le _,rfl,rfl⟩⟩
theorem intV_app (a b:List Int):intV (a++b)=intV a++intV b:=by simp [intV]
theorem bdrewN {B:Nat} {a w:World} (h:Below B a w) (m:Nat):Below B a (w.drewN m):=⟨h.os,h.tape,h.output,h.size,h.block⟩
theorem ownB_1 (n:Nat):Value.ownBlock (.slice (some ⟨n,0,none⟩) 0 0)≠some (n+1):=by simp [Value.ownBlock]
theorem ownB_2 (n:Nat):Value.ownBlock (.slice (some ⟨n+1,0,none⟩) 0 0)≠some n:=by simp [Value.ownBlock]
theorem one_at {w:World} {g:Nat} {x:Int} (h:w.heap[g]? = some (.cells #[.int .i64 x] 3)) (hx:(Lit.int .i64 x).wf=true):DAt w Tt (some ⟨g,0,none⟩) [x].length (intD [x]):=
 ⟨by simp [intD],by simp [intD],Or.inr ⟨g,0,[.int .i64 x],rfl,trivial,lt_of_heap h,fun j u hj=>by
  rw [Nat.zero_add,Lib.cell_of_heap h]
  simpa using hj,.cons (dint hx) .nil⟩⟩
theorem own_dat {W:World} {base:Nat} {v:Value} {n:Nat} {l:List Int} (h:W.ownsRow base 3 1 v n (intV l)) (hn:n=l.length) (hl:l.length<=1000000000) (hf:∀ i ∈ l,(Lit.int .i64 i).wf=true):∃ a cap,v = .slice a l.length cap/\l.length<=cap/\DAt W Tt a l.length (intD l):=by
 subst hn;obtain ⟨a,cap,rfl,h1,_⟩:=ownsRow_form h
 have hv:∀ l:List Int,(∀ i ∈ l,(Lit.int .i64 i).wf=true)->DVals W Tt (intD l) (intV l):=by
  intro l
  induction l with
  | nil=>intro _;exact DVals.nil
  | cons x r ih=>intro hf;exact .cons (dint (hf x (List.mem_cons_self ..))) (ih (fun j hj=>hf j (List.mem_cons_of_mem _ hj)))
 exact ⟨a,cap,rfl,h1,dat_row h (hv l hf) (by simp [intD]) (by rw [show (intD l).length=l.length from by simp [intD]];omega)⟩
end Go.Proofs.YtndkhgakfodldaaGreatDoor

namespace Go.Proofs.YtndkhgakfodldaaGreatDoor
set_option maxRecDepth 100000
set_option maxHeartbeats 12800000
open Go.RowKit Go.Maps Go.WideMaps
set_option linter.unusedSimpArgs false
set_option linter.unusedVariables false
theorem GenRight_any (l:List Un) (a:Option Addr) (cap:Nat) (n:Int) (w:World) (hD:DAt w Tt a l.length (unsD l)) (hn:(Lit.int .i64 n).wf=true) (hS:∀ u ∈ l,u.uses.length<=2000000) :
 Calls Tryz.prog 8 #[.slice a l.length cap,.int .i64 n] w fun e w'=>e = .returned (.bool true)/\Below w.heap.size w w':=by
 have hbd:=hD.bound
 by_cases h0:l.length=0
 . clear hD hS hn
   rw [h0];clear h0 hbd;go_enter Tryz.func8,Tryz.ntmps8;go_wp2_with fail;refine (genBegun_any _).mono ?_;rintro e w1 ⟨rfl,hb1⟩;have HB:=hid hb1;clear hb1;go_wp2_with fail;go_ret;exact ⟨rfl,HB.out⟩
 have hl0:0<l.length:=by omega
 have HC:=hid (choose_any n l.length w hn hl0 hbd);have HD:=hid hD;have HSm:=hid hS;have HSc:=hid (fun (W:World) (hW:Below w.heap.size w W)=>semCheck_any l a cap W (hD.later hW) hS);clear hD hS hn;go_enter Tryz.func8,Tryz.ntmps8;go_wp2_with fail;refine HC.out.mono ?_;rintro e w1 ⟨i,hi,rfl,rfl⟩;obtain ⟨b,off,a1,k1,a2,k2,a3,k3,rfl,hx⟩:=HD.out.un i hi;have HU:=hid hx.uv;have HMem:=hid (List.getElem_mem hi);obtain ⟨hbl,z0,z1,z2,z3,z4,_,hpt,_,_,_⟩:=hx;have hpb:=hpt.bound;clear hpt;generalize l[i]=u at *;go_wp2_with fail
 cases hg:genM u with
 | error c=>
   refine (gen_no hg (HU.out.later (al1 _ _))).mono ?_;rintro e w2 ⟨rfl,hb2⟩;have HB2:=hid (thenB (al1 _ _) hb2);have HG:=hid hg;clear hb2 hg hbl z0 z1 z2 z3 z4
   rcases genM_err HG.out with rfl | ⟨rfl,hbad⟩
   . go_wp2_with fail
     refine (genBegun_any _).mono ?_;rintro e w3 ⟨rfl,hb3⟩;have HB3:=hid (thenB HB2.out (thenB (al1 _ _) hb3));clear hb3;go_wp2_with fail;go_ret;exact ⟨rfl,HB3.out⟩
   . have hsem:semE l≠0:=fun h=>by
      obtain ⟨h1,h2⟩:=gen_made h HMem.out;rw [h1,h2] at hbad;cases hbad
     go_wp2_with fail;refine (genBegun_any _).mono ?_;rintro e w3 ⟨rfl,hb3⟩;have HB3:=hid (thenB HB2.out (thenB (al1 _ _) hb3));have HS3:=hid (HSc.out w3 HB3.out);clear hb3 hbad;generalize semE l=z at *;go_wp2_with fail;refine HS3.out.mono ?_;rintro e w4 ⟨rfl,hb4⟩;have HB4:=hid (thenB HB3.out hb4);clear hb4;go_wp2_with fail;go_ret;exact ⟨ret_bool (by simpa using hsem),HB4.out⟩
 | ok o=>
   obtain ⟨ho,hh,hc,hf⟩:=genM_ok hg
   have HR:Hid (oChk o=0):=by subst ho;exact gen_right hh hc hf
   have HE:Hid (o.entries.length=u.parts.length):=by subst ho;exact entsTo_len ..
   have HH:Hid (∀ f ∈ o.fixes,f.kind=1->∃ (k:Nat) (i:Gi),o.code[k]? = some i/\f.at_=(k:Int)/\∀ b ∈ o.entries++[o.main],((k:Int)<b->i.a<b)/\(b<=k->b<=i.a)):=by subst ho;exact gen_home hh
   have HWf:Hid ((∀ x ∈ o.entries,(Lit.int .i64 x).wf=true)/\o.entries.length<=6):=by
    subst ho;obtain ⟨_,_,s3,_,_⟩:=gen_small hh;exact ⟨fun x hx=>wf_lit (s3 x hx).1 (s3 x hx).2,by rw [show (genOb u).entries.length=u.parts.length from entsTo_len ..];exact headB_six (holdB_parts hh).2.2⟩
   refine (gen_at hg (HU.out.later (al1 _ _))).mono ?_;rintro e w2 ⟨x1,y1,x3,y3,x4,y4,x5,y5,rfl,hO,hcp,hb2⟩;have HB2:=hid (thenB (al1 w1 _) hb2);have HX2:=hid (later_blk (heap_newP w1 (.cells #[.string u.name,.slice a1 u.uses.length k1,.int .i64 u.data,.slice a2 u.parts.length k2,.slice a3 u.main.length k3] 42)) hb2);have HO:=hid hO;have HCk:=hid (objCheck_any o x1 y1 x3 y3 x4 y4 x5 y5 _ (hO.later (al1 w2 (.cells #[.string o.name,.slice x1 o.uses.length y1,.int .i64 o.data,.slice x3 o.code.length y3,.slice x4 o.fixes.length y4,.slice x5 o.entries.length y5,.int .i64 o.main] 62))) hcp);rw [HR.out] at HCk;have h3b:=hO.code.bound;have h4b:=hO.fixes.bound;clear hb2 hg hh hc hf ho hO hbl z0 z1 z2 z3 z4 hcp;go_wp2_with fail;refine HCk.out.mono ?_;rintro e w3 ⟨rfl,hb3⟩;have hBa:=thenB (al1 w2 (.cells #[.string o.name,.slice x1 o.uses.length y1,.int .i64 o.data,.slice x3 o.code.length y3,.slice x4 o.fixes.length y4,.slice x5 o.entries.length y5,.int .i64 o.main] 62)) hb3
   have HB3:=hid (thenB HB2.out hBa);have HO3:=hid (HO.out.later hBa);have HX3:=hid (later_blk HX2.out hBa);have HY3:=hid (later_blk (heap_newP w2 (.cells #[.string o.name,.slice x1 o.uses.length y1,.int .i64 o.data,.slice x3 o.code.length y3,.slice x4 o.fixes.length y4,.slice x5 o.entries.length y5,.int .i64 o.main] 62)) hb3);clear hBa hb3 HO HX2 HB2;obtain ⟨u0,u1,u2,u3,u4,_⟩:=cellsOf5 HX3.out;obtain ⟨q0,q1,q2,q3,q4,q5,q6,_⟩:=cells7 HY3.out;have uz:=lt_of_heap HX3.out;have qz:=lt_of_heap HY3.out;have HLe:=hid HE.out
   have hel:(o.entries.length:Int)=u.parts.length:=by rw [HE.out]
   go_upto_region 9 with fail;clear hel
   have HK5:Hid (∀ W,Below w3.heap.size w3 W->W.cell? ⟨w2.heap.size,5,none⟩=some (.slice x5 o.entries.length y5)/\W.cell? ⟨w2.heap.size,6,none⟩=some (.int .i64 o.main)):=fun W hW=>by
    obtain ⟨_,_,_,_,_,r5,r6,_⟩:=cells7 (later_blk HY3.out hW);exact ⟨r5,r6⟩
   clear q0 q1 q2 q3 q4 q5 q6 u0 u1 u2 u3 u4
   go_region_held_law (fun W=>W.cell? ⟨w2.heap.size,5,none⟩=some (.slice x5 o.entries.length y5)/\W.cell? ⟨w2.heap.size,6,none⟩=some (.int .i64 o.main))
    (first | with_reducible exact HK5.out _ B5.out | with_reducible exact HK5.out _ B4.out | with_reducible exact HK5.out _ (thenB B4.out (al1 _ _)) | with_reducible exact HK5.out _ (bdrew _) | with_reducible exact HK5.out _ (bAdrew _ _) | with_reducible exact HK5.out _ (thenB (bAdrew _ _) (al1 _ _)) | with_reducible exact HK5.out _ ((bl2 _ _ _).drew))
    (first
    | (refine step_append_ints rfl (.tmp 56) (.tmp 59) rfl w3.heap.size _ _ _ K4.out [o.main] _ 1 rfl rfl (one_at N4.out HO3.out.wm) (by have:=HWf.out.2;simp;omega) B4.out.size ?_;intro v5 w5 h5 b5 n5;have K5:=hid h5;have B5:=hid (B4.out.trans b5);clear h5 b5 n5)
    | (refine step_append_ints rfl (.tmp 56) (.tmp 59) rfl w3.heap.size _ _ _ (K4.out.alloc _) [o.main] _ 1 rfl rfl (one_at (heap_newP w4 _) HO3.out.wm) (by have:=HWf.out.2;simp;omega) (thenB B4.out (al1 w4 _)).size ?_;intro v5 w5 h5 b5 n5;have K5:=hid h5;have B5:=hid ((thenB B4.out (al1 w4 _)).trans b5);clear h5 b5 n5)
    | (refine step_append_ints rfl (.tmp 53) (.tmp 55) rfl w3.heap.size _ 0 [] (own_empty (by first | exact new_1 _ _ _ | exact heap_newP _ _ | exact heap_old (heap_newP _ _)) (by simp)) o.entries x5 y5 rfl rfl (HO3.out.entries.later (by first | exact bAdrew _ _ | exact (bl2 _ _ _).drew)) (by have:=HWf.out.2;simp;omega) (by simp<;>omega) ?_;intro v4 w4 h4 b4 n4;have K4:=hid h4;(first | have B4:=hid ((bAdrew w3 _).trans b4) | have B4:=hid (((bl2 w3 _ _).drew).trans b4));(first | have N4:=hid (n4 _ _ (new_1 w3 _ _) (ownB_1 _)) | have N4:=hid (n4 _ _ (heap_old (heap_newP w3 _)) (ownB_2 _)) | skip);clear h4 b4 n4))
   all_goals
    have h5:=K5.out;rw [List.nil_append,← intV_app] at h5
    obtain ⟨a8,c8,rfl, -,h8⟩:=own_dat h5 (by simp) (by have:=HWf.out.2;simp;omega) (fun x hx=>by
     rcases List.mem_append.1 hx with hx | hx
     . exact HWf.out.1 x hx
     . rw [List.mem_singleton.1 hx];exact HO3.out.wm)
    clear h5 K5;have HO5:=hid (HO3.out.later B5.out);have HY5:=hid (later_blk HY3.out B5.out);have HB5:=hid (thenB HB3.out B5.out);have h8b:=h8.bound;have H8:=hid h8;clear h8;generalize o.entries++[o.main]=st at *;go_wp2_with fail
    go_loopw [9] (fun i wr=>∃ j:Nat,j<=o.fixes.length/\i = .int .i64 j/\Below w5.heap.size w5 wr) (fun i _=>o.fixes.length - (intOf i).toNat)
    case atStart=>exact ⟨0,Nat.zero_le _,rfl,Below.refl _ _⟩
    case round=>
     obtain ⟨j,hj,rfl,hb⟩:=hrel;have HBr:=hid hb;obtain ⟨q0,q1,q2,q3,q4,q5,q6,_⟩:=cells7 (later_blk HY5.out hb);have qz:=lt_of_heap (later_blk HY5.out hb);clear hb
     by_cases hlt:j<o.fixes.length
     . obtain ⟨b4,off4,rfl,hx⟩:=(HO5.out.later HBr.out).fixes.gf j hlt
       have HHf:=hid (HH.out _ (List.getElem_mem hlt));obtain ⟨hbl,p0,p1,p2,_,_,_⟩:=hx;generalize o.fixes[j]=f at *
       by_cases hk:f.kind=1
       . obtain ⟨k,gi,hgi,hat,hhm⟩:=HHf.out hk
         have hkl:=lt_some hgi;obtain ⟨b3,off3,rfl,hy⟩:=(HO5.out.later HBr.out).code.gi k hkl
         have hge:o.code[k]=gi:=by rw [List.getElem?_eq_getElem hkl] at hgi;exact Option.some.inj hgi
         rw [hge] at hy;obtain ⟨hbl3,_,c1,_,_,_,_⟩:=hy;have HHm:=hid hhm;rw [hat] at p0;rw [hk] at p1;obtain ⟨fa,fk,fm⟩:=f;simp only at hat hk p0 p1 p2;subst hat;subst hk;clear hgi hhm hge HHf;go_wp2_with fail
         obtain ⟨W9,hW9⟩:∃ W9,W9=wr.alloc (.cells #[.int .i64 k,.int .i64 1,.int .i64 fm] 67):=⟨_,rfl⟩
         have hB9:Below wr.heap.size wr W9:=by rw [hW9];exact al1 _ _
         have HX9:Hid (W9.heap[wr.heap.size]? = some (.cells #[.int .i64 k,.int .i64 1,.int .i64 fm] 67)):=by rw [hW9];exact heap_newP _ _
         have HB9:=hid (thenB HBr.out hB9);rw [← hW9];have HL9:=hid hlt;clear hW9 hB9 q0 q1 q2 q3 q4 q5 q6 qz p0 p1 p2 hbl hbl3 c1 HBr;generalize wr.heap.size=r9 at *
         go_loopw [12] (fun i wr'=>∃ m:Nat,m<=st.length/\i = .int .i64 m/\Below W9.heap.size W9 wr') (fun i _=>st.length - (intOf i).toNat)
         case atStart=>exact ⟨0,Nat.zero_le _,rfl,Below.refl _ _⟩
         case round=>
          obtain ⟨m,hm,rfl,hb'⟩:=hrel;have HB':=hid hb'
          by_cases hlm:m<st.length
          . obtain ⟨b8,o8,rfl,hl8,d0,_⟩:=(DAt.num (l:=st) (H8.out.later (thenB HB9.out hb'))) m hlm
            obtain ⟨f0,_,_,_⟩:=cellsOf3 (later_blk HX9.out hb');have fz:=lt_of_heap (later_blk HX9.out hb');have hcs:=HHm.out st[m] (List.getElem_mem hlm);clear hb';generalize st[m]=sm at *;generalize gi.a=ga at *
            by_cases hs:(k:Int)<sm
            . have hga:=hcs.1 hs
              have d1:decide ((k:Int)<sm)=true:=decide_eq_true hs;have d2:decide (sm<=ga)=false:=decide_eq_false (by omega);have d3:decide (sm<=(k:Int))=false:=decide_eq_false (by omega);clear hcs hs hga;go_wp2_with fail
              go_quiet ((fail))
              go_wp2_with fail;go_roundw
              case rel=>exact ⟨m+1,by omega,by go_num,bdrewN HB'.out _⟩
              case measure=>simp [intOf];omega
            . have hs':sm<=k:=by omega
              have hga:=hcs.2 hs';have d1:decide ((k:Int)<sm)=false:=decide_eq_false (by omega);have d3:decide (sm<=(k:Int))=true:=decide_eq_true hs';have d4:decide (ga<sm)=false:=decide_eq_false (by omega);clear hcs hs hs' hga;go_wp2_with fail
              go_quiet ((fail))
              go_wp2_with fail;go_roundw
              case rel=>exact ⟨m+1,by omega,by go_num,bdrewN HB'.out _⟩
              case measure=>simp [intOf];omega
          . clear hb'
            go_wp2_with fail;go_roundw
            case rel=>exact ⟨j+1,by have:=HL9.out;omega,by go_num,thenB HB9.out HB'.out⟩
            case measure=>have:=HL9.out;simp [intOf];omega
       . go_wp2_with fail
         go_roundw
         case rel=>exact ⟨j+1,by omega,by go_num,thenB HBr.out (al1 _ _)⟩
         case measure=>simp [intOf];omega
     . have HBe:=hid (thenB HB5.out HBr.out)
       go_wp2_with fail;refine (genBegun_any _).mono ?_;rintro e w6 ⟨rfl,hb6⟩;have HB6:=hid (thenB HBe.out hb6);clear hb6;go_wp2_with fail;go_ret;exact ⟨rfl,HB6.out⟩
end Go.Proofs.YtndkhgakfodldaaGreatDoor
