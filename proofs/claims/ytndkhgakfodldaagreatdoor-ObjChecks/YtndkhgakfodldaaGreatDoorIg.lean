/-
  The program's reader: a whole text.
-/
import Derived.Test.YtndkhgakfodldaaGreatDoorIe
import Derived.Test.YtndkhgakfodldaaGreatDoorMd
import Derived.Deep.RegionHeld
import Derived.Test.YtndkhgakfodldaaGreatDoorIo
namespace Go.Proofs.YtndkhgakfodldaaGreatDoor
set_option maxRecDepth 100000
set_option maxHeartbeats 6400000
open Go.RowKit Go.Shelf
set_option linter.unusedSimpArgs false
set_option linter.unusedVariables false
def noneO (w:World) (b:Nat):World:=((((((((w.alloc (.cells #[.string ⟨#[]⟩,.slice none 0 0,.int .i64 0,.slice none 0 0,.slice none 0 0,.slice none 0 0,.int .i64 0] 62)).setCell ⟨b,0,none⟩ (.string ⟨#[]⟩)).setCell ⟨b,1,none⟩ (.slice none 0 0)).setCell ⟨b,2,none⟩ (.int .i64 0)).setCell ⟨b,3,none⟩ (.slice none 0 0)).setCell ⟨b,4,none⟩ (.slice none 0 0)).setCell ⟨b,5,none⟩ (.slice none 0 0)).setCell ⟨b,6,none⟩ (.int .i64 0)).setCell ⟨b+1,0,none⟩ (.bool false)
def set7 (w:World) (b:Nat) (x0 x1 x2 x3 x4 x5 x6:Value):World:=(((((((w.setCell ⟨b,0,none⟩ (x0)).setCell ⟨b,1,none⟩ (x1)).setCell ⟨b,2,none⟩ (x2)).setCell ⟨b,3,none⟩ (x3)).setCell ⟨b,4,none⟩ (x4)).setCell ⟨b,5,none⟩ (x5)).setCell ⟨b,6,none⟩ (x6))
theorem heap7 {w:World} {b:Nat} {y0 y1 y2 y3 y4 y5 y6:Value} {t:TypeId} {f:Nat × Nat} (h:w.heap[b]? = some (.cells #[y0,y1,y2,y3,y4,y5,y6] t f)) (x0 x1 x2 x3 x4 x5 x6:Value):(set7 w b x0 x1 x2 x3 x4 x5 x6).heap[b]? = some (.cells #[x0,x1,x2,x3,x4,x5,x6] t f):=by
 have h0:(w.setCell ⟨b,0,none⟩ x0).heap[b]? = some (.cells #[x0,y1,y2,y3,y4,y5,y6] t f):=heap_set h x0;have h1:((w.setCell ⟨b,0,none⟩ x0).setCell ⟨b,1,none⟩ x1).heap[b]? = some (.cells #[x0,x1,y2,y3,y4,y5,y6] t f):=heap_set h0 x1;have h2:(((w.setCell ⟨b,0,none⟩ x0).setCell ⟨b,1,none⟩ x1).setCell ⟨b,2,none⟩ x2).heap[b]? = some (.cells #[x0,x1,x2,y3,y4,y5,y6] t f):=heap_set h1 x2;have h3:((((w.setCell ⟨b,0,none⟩ x0).setCell ⟨b,1,none⟩ x1).setCell ⟨b,2,none⟩ x2).setCell ⟨b,3,none⟩ x3).heap[b]? = some (.cells #[x0,x1,x2,x3,y4,y5,y6] t f):=heap_set h2 x3;have h4:(((((w.setCell ⟨b,0,none⟩ x0).setCell ⟨b,1,none⟩ x1).setCell ⟨b,2,none⟩ x2).setCell ⟨b,3,none⟩ x3).setCell ⟨b,4,none⟩ x4).heap[b]? = some (.cells #[x0,x1,x2,x3,x4,y5,y6] t f):=heap_set h3 x4;have h5:((((((w.setCell ⟨b,0,none⟩ x0).setCell ⟨b,1,none⟩ x1).setCell ⟨b,2,none⟩ x2).setCell ⟨b,3,none⟩ x3).setCell ⟨b,4,none⟩ x4).setCell ⟨b,5,none⟩ x5).heap[b]? = some (.cells #[x0,x1,x2,x3,x4,x5,y6] t f):=heap_set h4 x5
 have h6:(((((((w.setCell ⟨b,0,none⟩ x0).setCell ⟨b,1,none⟩ x1).setCell ⟨b,2,none⟩ x2).setCell ⟨b,3,none⟩ x3).setCell ⟨b,4,none⟩ x4).setCell ⟨b,5,none⟩ x5).setCell ⟨b,6,none⟩ x6).heap[b]? = some (.cells #[x0,x1,x2,x3,x4,x5,x6] t f):=heap_set h5 x6;exact h6
theorem heap7_ne {w:World} {b k:Nat} (hn:k≠b) (x0 x1 x2 x3 x4 x5 x6:Value):(set7 w b x0 x1 x2 x3 x4 x5 x6).heap[k]? = w.heap[k]?:=
 (heap_set_ne hn _).trans ((heap_set_ne hn _).trans ((heap_set_ne hn _).trans ((heap_set_ne hn _).trans ((heap_set_ne hn _).trans ((heap_set_ne hn _).trans (heap_set_ne hn _))))))
theorem below_set7 {B:Nat} {w w':World} {b:Nat} (h:Below B w w') (hb:B<=b) (x0 x1 x2 x3 x4 x5 x6:Value):Below B w (set7 w' b x0 x1 x2 x3 x4 x5 x6):=
 (((((((h.setCell (p:=⟨b,0,none⟩) hb _).setCell (p:=⟨b,1,none⟩) hb _).setCell (p:=⟨b,2,none⟩) hb _).setCell (p:=⟨b,3,none⟩) hb _).setCell (p:=⟨b,4,none⟩) hb _).setCell (p:=⟨b,5,none⟩) hb _).setCell (p:=⟨b,6,none⟩) hb _)
theorem catch_thrownO (b:Nat) (x0 x1 x2 x3 x4 x5 x6:Value) (y:Bool) (u:TypeId) (pv:Value) (w:World) (hX:w.heap[b]? = some (.cells #[x0,x1,x2,x3,x4,x5,x6] 62 (0,0))) (hK:w.heap[b+1]? = some (.cells #[.bool y] 4 (0,0))) :
 CallsD Tryz.prog 136 #[.pointer (some ⟨b,0,none⟩),.pointer (some ⟨b+1,0,none⟩)] (.panicking [{ v:=.iface u pv,recovered:=false }]) w fun e u' w'=>
  e = .returned (.tuple #[])/\u' = .panicking [{ v:=.iface u pv,recovered:=true }]/\w'=noneO w b:=by
 have hX1:=heap_old (o:=.cells #[.string ⟨#[]⟩,.slice none 0 0,.int .i64 0,.slice none 0 0,.slice none 0 0,.slice none 0 0,.int .i64 0] 62) hX;have hK1:=heap_old (o:=.cells #[.string ⟨#[]⟩,.slice none 0 0,.int .i64 0,.slice none 0 0,.slice none 0 0,.slice none 0 0,.int .i64 0] 62) hK;obtain ⟨a0,a1,a2,a3,a4,a5,a6,az⟩:=cells7 hX1
 have afz:∀ j,(w.alloc (.cells #[.string ⟨#[]⟩,.slice none 0 0,.int .i64 0,.slice none 0 0,.slice none 0 0,.slice none 0 0,.int .i64 0] 62)).frozen? ⟨b,j,none⟩=false:=fun j=>Lib.frozen_of_heap hX1 j
 have k0:(w.alloc (.cells #[.string ⟨#[]⟩,.slice none 0 0,.int .i64 0,.slice none 0 0,.slice none 0 0,.slice none 0 0,.int .i64 0] 62)).cell? ⟨b+1,0,none⟩=some (.bool y):=by rw [Lib.cell_of_heap hK1];rfl
 have kf:(w.alloc (.cells #[.string ⟨#[]⟩,.slice none 0 0,.int .i64 0,.slice none 0 0,.slice none 0 0,.slice none 0 0,.int .i64 0] 62)).frozen? ⟨b+1,0,none⟩=false:=Lib.frozen_of_heap hK1 0;obtain ⟨n0,n1,n2,n3,n4,n5,n6,nz⟩:=cells7 (heap_newP w (.cells #[.string ⟨#[]⟩,.slice none 0 0,.int .i64 0,.slice none 0 0,.slice none 0 0,.slice none 0 0,.int .i64 0] 62));have hE:noneO w b=((((((((w.alloc (.cells #[.string ⟨#[]⟩,.slice none 0 0,.int .i64 0,.slice none 0 0,.slice none 0 0,.slice none 0 0,.int .i64 0] 62)).setCell ⟨b,0,none⟩ (.string ⟨#[]⟩)).setCell ⟨b,1,none⟩ (.slice none 0 0)).setCell ⟨b,2,none⟩ (.int .i64 0)).setCell ⟨b,3,none⟩ (.slice none 0 0)).setCell ⟨b,4,none⟩ (.slice none 0 0)).setCell ⟨b,5,none⟩ (.slice none 0 0)).setCell ⟨b,6,none⟩ (.int .i64 0)).setCell ⟨b+1,0,none⟩ (.bool false):=rfl;rw [hE];clear hX hK hX1 hK1 hE
 refine callsD_of_wpS Tryz.func136 rfl fun c₀ cs hu=>?_
 apply wpS_seq
 apply wpS_region
 simp [wpOpsS,go_sem,recoverD,hu,Tryz.ntmps136,Exit.thenS];refine wpS_cond (t:=true) (by simp [Act.eval,Array.replicate]) ?_;simp only [if_true]
 apply wpS_seq
 apply wpS_region
 simp [wpOpsS,go_sem,Exit.thenS]
 apply wpS_region
 simp [wpOpsS,go_sem,n0,n1,n2,n3,n4,n5,n6,a0,a1,a2,a3,a4,a5,a6,afz,k0,kf,bodyPostS,results,Tryz.results136]
theorem catch_idleO (p q:Addr) (w:World) :
 CallsD Tryz.prog 136 #[.pointer (some p),.pointer (some q)] .returning w fun e u' w'=>e = .returned (.tuple #[])/\u' = .returning/\w'=w:=by
 refine callsD_of_wpS Tryz.func136 rfl fun c₀ cs hu=>?_
 apply wpS_seq
 apply wpS_region
 simp [wpOpsS,go_sem,recoverD,hu,Tryz.ntmps136,Exit.thenS];refine wpS_cond (t:=false) (by simp [Act.eval,Array.replicate]) ?_;simp only [Bool.false_eq_true,if_false];refine wpS_of_wp (wp_skip ?_)
 cases c₀
 simp_all [bodyPostS,results,Tryz.results136]
def wOk (l:List UInt8):Option Ob:=match pObj l with
 | some (o,[])=>some o
 | _=>none
theorem caught (u:TypeId) (pv:Value) (w W:World) (x0 x1 x2 x3 x4 x5 x6:Value) (y:Bool) (hX:W.heap[w.heap.size]? = some (.cells #[x0,x1,x2,x3,x4,x5,x6] 62 (0,0))) (hK:W.heap[w.heap.size+1]? = some (.cells #[.bool y] 4 (0,0))) (hB:Below w.heap.size w W) {R:Ending->World->Prop} (t:Array Value)
 (h4:t.getD 4 undef = .pointer (some ⟨w.heap.size,0,none⟩)) (h5:t.getD 5 undef = .pointer (some ⟨w.heap.size+1,0,none⟩))
 (hR:∀ W',Below w.heap.size w W'->R (.returned (.tuple #[.agg #[.string ⟨#[]⟩,.slice none 0 0,.int .i64 0,.slice none 0 0,.slice none 0 0,.slice none 0 0,.int .i64 0],.bool false])) W') :
 Leaves Tryz.prog Tryz.f95 t R [{ target:=Target.fn (Fn.func 136) #[Value.pointer (some ⟨w.heap.size,0,none⟩),Value.pointer (some ⟨w.heap.size+1,0,none⟩)],args:=#[] }] (.panicking [{ v:=.iface u pv,recovered:=false }]) W:=by
 refine leaves_cons (f:=136) (args:=#[.pointer (some ⟨w.heap.size,0,none⟩),.pointer (some ⟨w.heap.size+1,0,none⟩)]) (by simp) (by simp [go_sem]) ?_;refine (catch_thrownO w.heap.size x0 x1 x2 x3 x4 x5 x6 y u pv W hX hK).mono ?_;rintro e u' w'' ⟨rfl,rfl,rfl⟩;have hX1:=heap7 (heap_old (o:=.cells #[.string ⟨#[]⟩,.slice none 0 0,.int .i64 0,.slice none 0 0,.slice none 0 0,.slice none 0 0,.int .i64 0] 62) hX) (.string ⟨#[]⟩) (.slice none 0 0) (.int .i64 0) (.slice none 0 0) (.slice none 0 0) (.slice none 0 0) (.int .i64 0);have hX2:(noneO W w.heap.size).heap[w.heap.size]? = some (.cells #[.string ⟨#[]⟩,.slice none 0 0,.int .i64 0,.slice none 0 0,.slice none 0 0,.slice none 0 0,.int .i64 0] 62 (0,0)):=(heap_set_ne (p:=⟨w.heap.size+1,0,none⟩) (by show w.heap.size≠w.heap.size+1;omega) _).trans hX1;have hK2:(noneO W w.heap.size).heap[w.heap.size+1]? = some (.cells #[.bool false] 4 (0,0)):=heap_set ((heap7_ne (by omega) _ _ _ _ _ _ _).trans (heap_old (o:=.cells #[.string ⟨#[]⟩,.slice none 0 0,.int .i64 0,.slice none 0 0,.slice none 0 0,.slice none 0 0,.int .i64 0] 62) hK)) _
 have hb:Below w.heap.size w (noneO W w.heap.size):=(below_set7 (hB.alloc hB.size _) (Nat.le_refl _) _ _ _ _ _ _ _).setCell (p:=⟨w.heap.size+1,0,none⟩) (Nat.le_succ _) _;obtain ⟨c0,c1,c2,c3,c4,c5,c6,_⟩:=cells7 hX2
 have k0:(noneO W w.heap.size).cell? ⟨w.heap.size+1,0,none⟩=some (.bool false):=by rw [Lib.cell_of_heap hK2];rfl
 generalize noneO W w.heap.size=X at *
 have h4':t[4]?.getD undef = .pointer (some ⟨w.heap.size,0,none⟩):=by simpa using h4
 have h5':t[5]?.getD undef = .pointer (some ⟨w.heap.size+1,0,none⟩):=by simpa using h5
 refine ⟨.tuple #[.agg #[.string ⟨#[]⟩,.slice none 0 0,.int .i64 0,.slice none 0 0,.slice none 0 0,.slice none 0 0,.int .i64 0],.bool false],?_,hR X hb⟩;simp [results,Tryz.results95,go_sem,h4',h5',c0,c1,c2,c3,c4,c5,c6,k0]
def WEnd (w:World) (r:Option Ob) (e:Ending) (w':World):Prop:=
 Below w.heap.size w w'/\((r=none/\e = .returned (.tuple #[.agg #[.string ⟨#[]⟩,.slice none 0 0,.int .i64 0,.slice none 0 0,.slice none 0 0,.slice none 0 0,.int .i64 0],.bool false]))\/∃ o v,r=some o/\e = .returned (.tuple #[v,.bool true])/\isOb w.heap.size w' o v)
theorem below_gr {w X w':World} {rb:Nat} (h:Below w.heap.size w X) (hg:X.grownBy w' (some rb)) (hr:w.heap.size<=rb):Below w.heap.size w w':=h.grown hg h.size (fun k e=>by cases e;exact hr)
theorem Whole_any (l:List UInt8) (w:World) (hl:l.length<=1000000) :
 Calls Tryz.prog 95 #[.string (Fx.strOf l),.func (.func 96) #[] #[]] w fun e w'=>WEnd w (wOk l) e w':=by
 have hmf:∀ (fn:Fn) (first cap:Array Value) (w:World),(Instr.makeFunc fn first cap).run Tryz.prog w = .ok (.func fn first cap) w:=fun _ _ _ _=>rfl
 obtain ⟨W2,hW2⟩:∃ W2,W2=((w.alloc (.cells #[.string ⟨#[]⟩,.slice none 0 0,.int .i64 0,.slice none 0 0,.slice none 0 0,.slice none 0 0,.int .i64 0] 62)).alloc (.cells #[.bool false] 4)).alloc (.cells #[.string (Fx.strOf l)] 216):=⟨_,rfl⟩
 have hX:W2.heap[w.heap.size]? = some (.cells #[.string ⟨#[]⟩,.slice none 0 0,.int .i64 0,.slice none 0 0,.slice none 0 0,.slice none 0 0,.int .i64 0] 62 (0,0)):=by rw [hW2];exact heap_old (heap_old (heap_newP w _))
 have hK:W2.heap[w.heap.size+1]? = some (.cells #[.bool false] 4 (0,0)):=by rw [hW2];exact heap_old (new_1 w _ _)
 have hR2:W2.heap[w.heap.size+2]? = some (.cells #[.string (Fx.strOf l)] 216 (0,0)):=by
  rw [hW2];have:=heap_newP ((w.alloc (.cells #[.string ⟨#[]⟩,.slice none 0 0,.int .i64 0,.slice none 0 0,.slice none 0 0,.slice none 0 0,.int .i64 0] 62)).alloc (.cells #[.bool false] 4)) (.cells #[.string (Fx.strOf l)] 216);simpa using this
 have hRd:Fx.Rdr W2 (w.heap.size+2) l:=⟨lt_of_heap hR2,by rw [Lib.cell_of_heap hR2];rfl,Lib.frozen_of_heap hR2 0⟩
 have hBl:Below w.heap.size w W2:=by
  rw [hW2];exact (((Below.refl _ _).alloc (Nat.le_refl _) _).alloc (by simp) _).alloc (by simp;omega) _
 have HC:=hid (rdObj (w.heap.size+2) l W2 hRd hl);have HP:Hid (wOk l=match pObj l with | some (o,[])=>some o | _=>none):=rfl;have hz:=lt_of_heap hR2;have HX:=hid hX;have HK:=hid hK;have HBl:=hid hBl;have HW:=hid hW2;clear hX hK hRd hBl hW2 hR2;go_enter_defers Tryz.func95,Tryz.ntmps95
 go_wp2_with (fail)
 rw [← HW.out];refine HC.out.mono ?_;rintro e w1 ⟨hg,⟨hp,c,hc,rfl⟩ | ⟨o,r,v,hp,rfl,hv,hr⟩⟩
 . have HN:Hid (wOk l=none):=by show _=_;rw [HP.out,hp]
   have h1:=gk hg HX.out (by omega);have h2:=gk hg HK.out (by omega);have h3:=below_gr HBl.out hg (by omega)
   rcases hc with rfl | rfl
   . exact caught 9 _ w w1 _ _ _ _ _ _ _ _ h1 h2 h3 _ rfl rfl (fun W' h=>⟨h,Or.inl ⟨HN.out,rfl⟩⟩)
   . exact caught 9 _ w w1 _ _ _ _ _ _ _ _ h1 h2 h3 _ rfl rfl (fun W' h=>⟨h,Or.inl ⟨HN.out,rfl⟩⟩)
 obtain ⟨x1,y1,x3,y3,x4,y4,x5,y5,rfl,hO,hcp⟩:=hv;have HX1:=hid (gk hg HX.out (by omega));have HK1:=hid (gk hg HK.out (by omega));have HB1:=hid (below_gr HBl.out hg (by omega));have HO:=hid hO;have HCp:=hid hcp;have hr0:=hr.c0;obtain ⟨j0,j1,j2,j3,j4,j5,j6,jz⟩:=cells7 HX1.out
 have jfz:∀ j,w1.frozen? ⟨w.heap.size,j,none⟩=false:=fun j=>Lib.frozen_of_heap HX1.out j
 have k0:w1.cell? ⟨w.heap.size+1,0,none⟩=some (.bool false):=by rw [Lib.cell_of_heap HK1.out];rfl
 have kf:w1.frozen? ⟨w.heap.size+1,0,none⟩=false:=Lib.frozen_of_heap HK1.out 0;have kz:=lt_of_heap HK1.out;have rz:=hr.lt
 cases r with
 | cons c r=>
   have HN:Hid (wOk l=none):=by show _=_;rw [HP.out,hp]
   have hE:=Lx.ne_empty (Fx.strOf (c :: r)) (by rw [Fx.strOf_size];exact Nat.succ_pos _);clear hg hr hp hO hcp;go_wp2_with fail;exact caught 9 _ w _ _ _ _ _ _ _ _ _ (heap7 HX1.out _ _ _ _ _ _ _) ((heap7_ne (by omega) _ _ _ _ _ _ _).trans HK1.out) (below_set7 HB1.out (Nat.le_refl _) _ _ _ _ _ _ _) _ rfl rfl (fun W' h=>⟨h,Or.inl ⟨HN.out,rfl⟩⟩)
 | nil=>
   have HN:Hid (wOk l=some o):=by show _=_;rw [HP.out,hp]
   have e0:Fx.strOf ([]:List UInt8)=⟨#[]⟩:=rfl;rw [e0] at hr0;clear hg hr hp hO hcp;go_wp2_with fail;refine leaves_cons (f:=136) (args:=#[.pointer (some ⟨w.heap.size,0,none⟩),.pointer (some ⟨w.heap.size+1,0,none⟩)]) (by simp) (by simp [go_sem]) ?_;refine (catch_idleO ⟨w.heap.size,0,none⟩ ⟨w.heap.size+1,0,none⟩ _).mono ?_;rintro e u' w'' ⟨rfl,rfl,rfl⟩
   obtain ⟨F,hF⟩:∃ F,F=(set7 (set7 w1 w.heap.size (.string o.name) (.slice x1 o.uses.length y1) (.int .i64 o.data) (.slice x3 o.code.length y3) (.slice x4 o.fixes.length y4) (.slice x5 o.entries.length y5) (.int .i64 o.main)) w.heap.size (.string o.name) (.slice x1 o.uses.length y1) (.int .i64 o.data) (.slice x3 o.code.length y3) (.slice x4 o.fixes.length y4) (.slice x5 o.entries.length y5) (.int .i64 o.main)).setCell ⟨w.heap.size+1,0,none⟩ (.bool true):=⟨_,rfl⟩
   have hXF:F.heap[w.heap.size]? = some (.cells #[.string o.name,.slice x1 o.uses.length y1,.int .i64 o.data,.slice x3 o.code.length y3,.slice x4 o.fixes.length y4,.slice x5 o.entries.length y5,.int .i64 o.main] 62 (0,0)):=by rw [hF];exact (heap_set_ne (p:=⟨w.heap.size+1,0,none⟩) (by show w.heap.size≠w.heap.size+1;omega) _).trans (heap7 (heap7 HX1.out _ _ _ _ _ _ _) _ _ _ _ _ _ _)
   have hKF:F.heap[w.heap.size+1]? = some (.cells #[.bool true] 4 (0,0)):=by rw [hF];exact heap_set ((heap7_ne (by omega) _ _ _ _ _ _ _).trans ((heap7_ne (by omega) _ _ _ _ _ _ _).trans HK1.out)) _
   have hBF:Below w.heap.size w F:=by rw [hF];exact (below_set7 (below_set7 HB1.out (Nat.le_refl _) _ _ _ _ _ _ _) (Nat.le_refl _) _ _ _ _ _ _ _).setCell (p:=⟨w.heap.size+1,0,none⟩) (Nat.le_succ _) _
   have hOF:OvLo F w.heap.size o x1 x3 x4 x5:=HO.out.moves ⟨by rw [hF];simp [set7],fun b hb hlo=>⟨Nat.le_trans (by omega) hlo,by
    rw [hF]
    exact (heap_set_ne (p:=⟨w.heap.size+1,0,none⟩) (by show b≠w.heap.size+1;omega) _).trans ((heap7_ne (by omega) _ _ _ _ _ _ _).trans (heap7_ne (by omega) _ _ _ _ _ _ _))⟩⟩
   obtain ⟨c0,c1,c2,c3,c4,c5,c6,_⟩:=cells7 hXF
   have kF:F.cell? ⟨w.heap.size+1,0,none⟩=some (.bool true):=by rw [Lib.cell_of_heap hKF];rfl
   unfold set7 at hF;refine ⟨.tuple #[.agg #[.string o.name,.slice x1 o.uses.length y1,.int .i64 o.data,.slice x3 o.code.length y3,.slice x4 o.fixes.length y4,.slice x5 o.entries.length y5,.int .i64 o.main],.bool true],?_,?_⟩
   . rw [← hF]
     simp [results,Tryz.results95,go_sem,c0,c1,c2,c3,c4,c5,c6,kF]
   . rw [← hF]
     exact ⟨hBF,Or.inr ⟨o,_,HN.out,rfl,x1,y1,x3,y3,x4,y4,x5,y5,rfl,hOF,HCp.out⟩⟩
end Go.Proofs.YtndkhgakfodldaaGreatDoor

namespace Go.Proofs.YtndkhgakfodldaaGreatDoor
set_option maxRecDepth 100000
set_option maxHeartbeats 6400000
open Go.RowKit Go.Shelf
set_option linter.unusedSimpArgs false
set_option linter.unusedVariables false
def rdO (l:List UInt8):Option Ob:=match wOk l with
 | some o=>if oChk o=0 then some o else none
 | none=>none
def RdEnd (w:World) (l:List UInt8) (e:Ending) (w':World):Prop:=
 Below w.heap.size w w'/\((32768<l.length/\e = .returned (.tuple #[.agg #[.string ⟨#[]⟩,.slice none 0 0,.int .i64 0,.slice none 0 0,.slice none 0 0,.slice none 0 0,.int .i64 0],.int .i64 2]))\/(l.length<=32768/\rdO l=none/\e = .returned (.tuple #[.agg #[.string ⟨#[]⟩,.slice none 0 0,.int .i64 0,.slice none 0 0,.slice none 0 0,.slice none 0 0,.int .i64 0],.int .i64 1]))\/(l.length<=32768/\∃ o v,rdO l=some o/\e = .returned (.tuple #[v,.int .i64 0])/\isOb w.heap.size w' o v))
theorem objRead_any (l:List UInt8) (w:World) (hl:l.length<=9223372036854775807) :
 Calls Tryz.prog 37 #[.string (Fx.strOf l)] w fun e w'=>RdEnd w l e w':=by
 have hz:(Fx.strOf l).size=l.length:=Fx.strOf_size l
 obtain ⟨s,hs⟩:∃ s,s=Fx.strOf l:=⟨_,rfl⟩
 rw [← hs] at hz ⊢
 by_cases hc:32768<l.length
 . have HC:=hid hc
   clear hs;go_enter Tryz.func37,Tryz.ntmps37;go_wp2_with fail;refine bodyPost_ret (v:=.tuple #[.agg #[.string ⟨#[]⟩,.slice none 0 0,.int .i64 0,.slice none 0 0,.slice none 0 0,.slice none 0 0,.int .i64 0],.int .i64 2]) (by simp [results,Tryz.results37,go_sem]) rfl ⟨?_,Or.inl ⟨HC.out,rfl⟩⟩;exact al1 _ _
 . have HC:Hid (l.length<=32768):=by show _<=_;omega
   have HW:=hid (Whole_any l (w.alloc (.cells #[.string ⟨#[]⟩,.slice none 0 0,.int .i64 0,.slice none 0 0,.slice none 0 0,.slice none 0 0,.int .i64 0] 62)) (by omega));rw [← hs] at HW;have HP:Hid (rdO l=match wOk l with | some o=>if oChk o=0 then some o else none | none=>none):=rfl;clear hs;go_enter Tryz.func37,Tryz.ntmps37;go_wp2_with fail;refine HW.out.mono ?_;rintro e w1 ⟨hb1,⟨hn,rfl⟩ | ⟨o,v,hn,rfl,hv⟩⟩
   . have HN:Hid (rdO l=none):=by show _=_;rw [HP.out,hn]
     have HB1:=hid (thenB (al1 w _) hb1);have HX1:=hid (later_blk (heap_newP w (.cells #[.string ⟨#[]⟩,.slice none 0 0,.int .i64 0,.slice none 0 0,.slice none 0 0,.slice none 0 0,.int .i64 0] 62)) hb1);obtain ⟨q0,q1,q2,q3,q4,q5,q6,qz⟩:=cells7 HX1.out
     have qf:∀ j,w1.frozen? ⟨w.heap.size,j,none⟩=false:=fun j=>Lib.frozen_of_heap HX1.out j
     clear hb1 hn q0 q1 q2 q3 q4 q5 q6 qz qf;go_upto_region 4 with fail
     obtain ⟨W1,hW1⟩:∃ W1,W1=w1.alloc (.cells #[.string ⟨#[]⟩,.slice none 0 0,.int .i64 0,.slice none 0 0,.slice none 0 0,.slice none 0 0,.int .i64 0] 62):=⟨_,rfl⟩
     have hBW:Below w1.heap.size w1 W1:=by rw [hW1];exact al1 _ _
     have HBW:=hid (thenB HB1.out hBW);have HXW:=hid (later_blk HX1.out hBW)
     try rw [← hW1]
     clear hW1 hBW HX1 HB1;obtain ⟨q0,q1,q2,q3,q4,q5,q6,qz⟩:=cells7 HXW.out
     have qf:∀ j,W1.frozen? ⟨w.heap.size,j,none⟩=false:=fun j=>Lib.frozen_of_heap HXW.out j
     go_wp2_with fail;refine bodyPost_ret (v:=.tuple #[.agg #[.string ⟨#[]⟩,.slice none 0 0,.int .i64 0,.slice none 0 0,.slice none 0 0,.slice none 0 0,.int .i64 0],.int .i64 1]) (by simp [results,Tryz.results37,go_sem,q0,q1,q2,q3,q4,q5,q6,qz]) rfl ⟨?_,Or.inr (Or.inl ⟨HC.out,HN.out,rfl⟩)⟩;exact below_set7 HBW.out (Nat.le_refl _) _ _ _ _ _ _ _
   . obtain ⟨x1,y1,x3,y3,x4,y4,x5,y5,rfl,hO,hcp⟩:=hv
     have HB1:=hid (thenB (al1 w _) hb1);have HX1:=hid (later_blk (heap_newP w (.cells #[.string ⟨#[]⟩,.slice none 0 0,.int .i64 0,.slice none 0 0,.slice none 0 0,.slice none 0 0,.int .i64 0] 62)) hb1);have HO1:=hid hO;have HCp:=hid hcp
     have HPn:Hid (rdO l=if oChk o=0 then some o else none):=by show _=_;rw [HP.out,hn]
     clear hb1 hn hO hcp;go_upto_region 4 with fail
     obtain ⟨W1,hW1⟩:∃ W1,W1=w1.alloc (.cells #[.string o.name,.slice x1 o.uses.length y1,.int .i64 o.data,.slice x3 o.code.length y3,.slice x4 o.fixes.length y4,.slice x5 o.entries.length y5,.int .i64 o.main] 62):=⟨_,rfl⟩
     have hBW:Below w1.heap.size w1 W1:=by rw [hW1];exact al1 _ _
     have HYW:Hid (W1.heap[w1.heap.size]? = some (.cells #[.string o.name,.slice x1 o.uses.length y1,.int .i64 o.data,.slice x3 o.code.length y3,.slice x4 o.fixes.length y4,.slice x5 o.entries.length y5,.int .i64 o.main] 62 (0,0))):=by rw [hW1];exact heap_newP _ _
     have HBW:=hid (thenB HB1.out hBW);have HXW:=hid (later_blk HX1.out hBW);have HOW:=hid (HO1.out.moves (w':=W1) (lo':=w.heap.size+1) ⟨hBW.size,fun b hb hlo=>⟨by simpa using hlo,hBW.block b hb⟩⟩)
     have hne:w.heap.size≠w1.heap.size:=by have:=lt_of_heap HX1.out;omega
     try rw [← hW1]
     clear hW1 hBW HX1 HB1 HO1;have HCk:=hid (objCheck_any o x1 y1 x3 y3 x4 y4 x5 y5 W1 HOW.out.ov HCp.out);obtain ⟨u0,u1,u2,u3,u4,u5,u6,uz⟩:=cells7 HYW.out;go_wp2_with fail;refine HCk.out.mono ?_;rintro e w2 ⟨rfl,hb2⟩;have HB2:=hid (thenB HBW.out hb2);have HX2:=hid (later_blk HXW.out hb2);have HY2:=hid (later_blk HYW.out hb2);have HO2:=hid (HOW.out.moves (w':=w2) (lo':=w.heap.size+1) ⟨hb2.size,fun b hb hlo=>⟨hlo,hb2.block b hb⟩⟩);clear hb2 u0 u1 u2 u3 u4 u5 u6 uz HBW HXW HYW HOW HCk;obtain ⟨u0,u1,u2,u3,u4,u5,u6,uz⟩:=cells7 HY2.out;obtain ⟨q0,q1,q2,q3,q4,q5,q6,qz⟩:=cells7 HX2.out
     have qf:∀ j,w2.frozen? ⟨w.heap.size,j,none⟩=false:=fun j=>Lib.frozen_of_heap HX2.out j
     by_cases h0:oChk o=0
     . have HN:Hid (rdO l=some o):=by show _=_;rw [HPn.out,if_pos h0]
       rw [h0];clear h0;go_wp2_with fail;refine bodyPost_ret (v:=.tuple #[.agg #[.string o.name,.slice x1 o.uses.length y1,.int .i64 o.data,.slice x3 o.code.length y3,.slice x4 o.fixes.length y4,.slice x5 o.entries.length y5,.int .i64 o.main],.int .i64 0]) (by simp [results,Tryz.results37,go_sem,q0,q1,q2,q3,q4,q5,q6,qz,hne,hne.symm]) rfl ⟨below_set7 HB2.out (Nat.le_refl _) _ _ _ _ _ _ _,Or.inr (Or.inr ⟨HC.out,o,_,HN.out,rfl,x1,y1,x3,y3,x4,y4,x5,y5,rfl,?_,HCp.out⟩)⟩;exact HO2.out.moves ⟨by simp,fun b hb hlo=>⟨by omega,heap7_ne (by omega) (.string o.name) (.slice x1 o.uses.length y1) (.int .i64 o.data) (.slice x3 o.code.length y3) (.slice x4 o.fixes.length y4) (.slice x5 o.entries.length y5) (.int .i64 o.main)⟩⟩
     . have HN:Hid (rdO l=none):=by show _=_;rw [HPn.out,if_neg h0]
       have hb0:(oChk o != 0)=true:=by rw [bne_iff_ne];exact h0
       generalize oChk o=E at *;clear h0;go_wp2_with fail;refine bodyPost_ret (v:=.tuple #[.agg #[.string ⟨#[]⟩,.slice none 0 0,.int .i64 0,.slice none 0 0,.slice none 0 0,.slice none 0 0,.int .i64 0],.int .i64 1]) (by simp [results,Tryz.results37,go_sem,q0,q1,q2,q3,q4,q5,q6,qz]) rfl ⟨below_set7 HB2.out (Nat.le_refl _) _ _ _ _ _ _ _,Or.inr (Or.inl ⟨HC.out,HN.out,rfl⟩)⟩
end Go.Proofs.YtndkhgakfodldaaGreatDoor

namespace Go.Proofs.YtndkhgakfodldaaGreatDoor
set_option maxRecDepth 100000
set_option maxHeartbeats 12800000
open Go.RowKit Go.Maps Go.WideMaps
set_option linter.unusedSimpArgs false
set_option linter.unusedVariables false
theorem seven {W:World} {b:Nat} {v0 v1 v2 v3 v4 v5 v6:Value} {t:TypeId} (h:W.heap[b]? = some (.cells #[v0,v1,v2,v3,v4,v5,v6] t (0,0))):W.cell? ⟨b,0,none⟩=some v0/\W.cell? ⟨b,1,none⟩=some v1/\W.cell? ⟨b,2,none⟩=some v2/\W.cell? ⟨b,3,none⟩=some v3/\W.cell? ⟨b,4,none⟩=some v4/\W.cell? ⟨b,5,none⟩=some v5/\W.cell? ⟨b,6,none⟩=some v6:=
 have h:=cells7 h
 ⟨h.1,h.2.1,h.2.2.1,h.2.2.2.1,h.2.2.2.2.1,h.2.2.2.2.2.1,h.2.2.2.2.2.2.1⟩
def TwoObs (o p:Ob):Prop:=∀ w:World,Calls Tryz.prog 85 #[] w fun e w'=>∃ a,e = .returned (.slice (some a) 2 2)/\ObsAt w' (some a) [o,p]/\Below w.heap.size w w'
theorem obs_two {o p:Ob} (h:TwoObs o p) (w:World):Calls Tryz.prog 85 #[] w fun e w'=>∃ b off x1 y1 x3 y3 x4 y4 x5 y5 u1 v1 u3 v3 u4 v4 u5 v5,e = .returned (.slice (some ⟨b,off,none⟩) 2 2)/\(ObAt w' b off o x1 y1 x3 y3 x4 y4 x5 y5/\o.uses.length<=y1)/\(ObAt w' b (off+7) p u1 v1 u3 v3 u4 v4 u5 v5/\p.uses.length<=v1)/\Below w.heap.size w w':=
 (h w).mono fun e w' ⟨a,he,hO,hb⟩=>by
   obtain ⟨b,off,x1,y1,x3,y3,x4,y4,x5,y5,ha,h0,c0⟩:=hO.ob 0 (by simp);obtain ⟨b',off',u1,v1,u3,v3,u4,v4,u5,v5,ha',h1,c1⟩:=hO.ob 1 (by simp);obtain rfl:=Option.some.inj ha
   cases Option.some.inj ha'
   simp only [List.getElem_cons_zero,List.getElem_cons_succ,Nat.zero_mul,Nat.add_zero,Nat.one_mul] at h0 h1 c0 c1;exact ⟨b,off,x1,y1,x3,y3,x4,y4,x5,y5,u1,v1,u3,v3,u4,v4,u5,v5,he,⟨h0,c0⟩,⟨h1,c1⟩,hb⟩
theorem read_some {l:List UInt8} {o:Ob} (hr:rdO l=some o) (hl:l.length<=32768) (w:World):Calls Tryz.prog 37 #[.string (Fx.strOf l)] w fun e w'=>∃ x1 y1 x3 y3 x4 y4 x5 y5,e = .returned (.tuple #[.agg #[.string o.name,.slice x1 o.uses.length y1,.int .i64 o.data,.slice x3 o.code.length y3,.slice x4 o.fixes.length y4,.slice x5 o.entries.length y5,.int .i64 o.main],.int .i64 0])/\OvAt w' o x1 x3 x4 x5/\o.uses.length<=y1/\Below w.heap.size w w':=
 (objRead_any l w (by omega)).mono fun e w' ⟨hb,h⟩=>by
   rcases h with ⟨h,_⟩ | ⟨_,h,_⟩ | ⟨_,o',v,h,he,x1,y1,x3,y3,x4,y4,x5,y5,hv,hO,hc⟩
   . omega
   . rw [hr] at h;cases h
   . rw [hr] at h
     cases h;subst hv;exact ⟨x1,y1,x3,y3,x4,y4,x5,y5,he,hO.ov,hc,hb⟩
theorem read_none {l:List UInt8} (hr:rdO l=none) (hl:l.length<=32768) (w:World):Calls Tryz.prog 37 #[.string (Fx.strOf l)] w fun e w'=>e = .returned (.tuple #[.agg #[.string ⟨#[]⟩,.slice none 0 0,.int .i64 0,.slice none 0 0,.slice none 0 0,.slice none 0 0,.int .i64 0],.int .i64 1])/\Below w.heap.size w w':=
 (objRead_any l w (by omega)).mono fun e w' ⟨hb,h⟩=>by
   rcases h with ⟨h,_⟩ | ⟨_,h,he⟩ | ⟨_,o',v,h,_⟩
   . omega
   . exact ⟨he,hb⟩
   . rw [hr] at h;cases h
theorem objBegun_gen (o p:Ob) (l:List UInt8) (hT:TwoObs o p) (hp:oChk p=0) (hw:wrO o=(l,0)) (hr:rdO l=some o) (hx:rdO (l++[120])=none) (hl:l.length=519) (w:World) :
 Calls Tryz.prog 33 #[] w fun e w'=>e = .returned (.bool true)/\Below w.heap.size w w':=by
 have HT:=hid (fun W=>obs_two hT W);have HWr:=hid (fun (W:World) (x1:Option Addr) (y1:Nat) (x3:Option Addr) (y3:Nat) (x4:Option Addr) (y4:Nat) (x5:Option Addr) (y5:Nat) (h:OvAt W o x1 x3 x4 x5) (hc:o.uses.length<=y1)=>objWrite_any o x1 y1 x3 y3 x4 y4 x5 y5 W h hc);rw [hw] at HWr;have HCk:=hid (fun (W:World) (x1:Option Addr) (y1:Nat) (x3:Option Addr) (y3:Nat) (x4:Option Addr) (y4:Nat) (x5:Option Addr) (y5:Nat) (h:OvAt W p x1 x3 x4 x5) (hc:p.uses.length<=y1)=>objCheck_any p x1 y1 x3 y3 x4 y4 x5 y5 W h hc);rw [hp] at HCk;have HRd:=hid (fun (W:World)=>read_some hr (by omega) W);have HRx:=hid (fun (W:World)=>read_none hx (by rw [List.length_append];simp;omega) W);have e1:Fx.strOf (l++[120])=Fx.strOf l++⟨#[120]⟩:=(Fx.strOf_append l [120]).symm;rw [e1] at HRx
 have hz:(Fx.strOf l).size=519:=by rw [Fx.strOf_size,hl]
 have hln:¬ 9223372036854775807<(Fx.strOf l).size+(⟨#[120]⟩:ByteArray).size:=by rw [hz];decide
 simp only at HWr;clear hT hp hw hr hx hl e1;generalize Fx.strOf l=st at *;go_enter Tryz.func33,Tryz.ntmps33;go_wp2_with fail;refine (HT.out _).mono ?_;rintro e w1 ⟨b,off,g1,h1,g3,h3,g4,h4,g5,h5,_,_,_,_,_,_,_,_,rfl,⟨hO,hcp⟩,_,hb1⟩;have HB1:=hid hb1;have HW1:=hid (HWr.out w1 _ _ g3 h3 g4 h4 g5 h5 hO.ov hcp);obtain ⟨z,c0,c1,c2,c3,c4,c5,c6,_⟩:=hO;clear hb1 hcp;go_wp2_with fail;refine HW1.out.mono ?_;rintro e w2 ⟨rfl,hb2⟩;have HB2:=hid (thenB HB1.out hb2);clear hb2 HB1 HW1 z c0 c1 c2 c3 c4 c5 c6;go_wp2_with fail;refine (HRd.out _).mono ?_;rintro e w3 ⟨x1,y1,x3,y3,x4,y4,x5,y5,rfl,hO,hcp,hb3⟩;have hBa:=al1 w3 (.cells #[.string o.name,.slice x1 o.uses.length y1,.int .i64 o.data,.slice x3 o.code.length y3,.slice x4 o.fixes.length y4,.slice x5 o.entries.length y5,.int .i64 o.main] 62);have HB3:=hid (thenB HB2.out (thenB hb3 hBa))
 have HO3:=hid (hO.later hBa);have HX3:=hid (heap_newP w3 (.cells #[.string o.name,.slice x1 o.uses.length y1,.int .i64 o.data,.slice x3 o.code.length y3,.slice x4 o.fixes.length y4,.slice x5 o.entries.length y5,.int .i64 o.main] 62));clear hO hcp hb3 hBa HB2;go_wp2_with fail
 obtain ⟨W3,hW3⟩:∃ W3,W3=w3.alloc (.cells #[.string o.name,.slice x1 o.uses.length y1,.int .i64 o.data,.slice x3 o.code.length y3,.slice x4 o.fixes.length y4,.slice x5 o.entries.length y5,.int .i64 o.main] 62):=⟨_,rfl⟩
 rw [← hW3] at HB3 HO3 HX3 ⊢;clear hW3;refine (HRx.out _).mono ?_;rintro e w4 ⟨rfl,hb4⟩;have hBa:=thenB hb4 (al1 w4 (.cells #[.string ⟨#[]⟩,.slice none 0 0,.int .i64 0,.slice none 0 0,.slice none 0 0,.slice none 0 0,.int .i64 0] 62));have HB4:=hid (thenB HB3.out hBa);have HO4:=hid (HO3.out.later hBa);have HX4:=hid (later_blk HX3.out hBa);clear hb4 hBa HB3 HO3 HX3;go_upto_region 4 with fail
 obtain ⟨W4,hW4⟩:∃ W4,W4=w4.alloc (.cells #[.string ⟨#[]⟩,.slice none 0 0,.int .i64 0,.slice none 0 0,.slice none 0 0,.slice none 0 0,.int .i64 0] 62):=⟨_,rfl⟩
 rw [← hW4] at HB4 HO4 HX4
 try rw [← hW4]
 clear hW4
 have HX:Hid (∀ W,Below W4.heap.size W4 W->W.cell? ⟨w3.heap.size,0,none⟩=some (.string o.name)/\W.cell? ⟨w3.heap.size,1,none⟩=some (.slice x1 o.uses.length y1)/\W.cell? ⟨w3.heap.size,2,none⟩=some (.int .i64 o.data)/\W.cell? ⟨w3.heap.size,3,none⟩=some (.slice x3 o.code.length y3)/\W.cell? ⟨w3.heap.size,4,none⟩=some (.slice x4 o.fixes.length y4)/\W.cell? ⟨w3.heap.size,5,none⟩=some (.slice x5 o.entries.length y5)/\W.cell? ⟨w3.heap.size,6,none⟩=some (.int .i64 o.main)):=fun W hW=>seven (later_blk HX4.out hW)
 have FF:=hid (HX.out _ (bdrew W4));refine wp_region_held_drew (S:=(fun W=>W.cell? ⟨w3.heap.size,0,none⟩=some (.string o.name)/\W.cell? ⟨w3.heap.size,1,none⟩=some (.slice x1 o.uses.length y1)/\W.cell? ⟨w3.heap.size,2,none⟩=some (.int .i64 o.data)/\W.cell? ⟨w3.heap.size,3,none⟩=some (.slice x3 o.code.length y3)/\W.cell? ⟨w3.heap.size,4,none⟩=some (.slice x4 o.fixes.length y4)/\W.cell? ⟨w3.heap.size,5,none⟩=some (.slice x5 o.entries.length y5)/\W.cell? ⟨w3.heap.size,6,none⟩=some (.int .i64 o.main))) (by kernel_rfl) FF.out (fun hHeld=>?_);refine wpAnyH_ready (rs:=[0]) (by kernel_rfl) (by simp) ?_;refine AllReadyH.cons rfl (fun K hK=>?_) AllReadyH.nil;go_simp
 go_wp2_with (go_at_call 85;refine (HT.out _).mono ?_;rintro e w5 ⟨b5,off5,_,_,_,_,_,_,_,_,u1,v1,u3,v3,u4,v4,u5,v5,rfl,_,⟨hP5,hc5⟩,hb5⟩;have D5:=hid (thenB (bdrew W4) hb5);have HP5:=hid hP5.ov;have HC5:=hid hc5;obtain ⟨z5,p0,p1,p2,p3,p4,p5,p6,_⟩:=hP5;clear hb5 hc5 FF;have FF:=hid (HX.out _ D5.out))
 refine hK.out _ _ FF.out (fun hHeld=>?_);clear hK K;refine wpAnyH_take (i:=1) (oi:=⟨some 26,_,_,_,_,_⟩) (v:=.pointer (some ⟨b5,off5+7,none⟩)) rfl (by kernel_rfl) (by kernel_rfl) (by kernel_rfl) (fun _ _ _ h=>h) (Or.inl ⟨by kernel_rfl,fun W _=>by kernel_rfl⟩) (by assumption) ?_;refine wpAnyH_ready (rs:=[2]) (by kernel_rfl) (by simp) ?_;refine AllReadyH.cons rfl (fun K hK=>?_) AllReadyH.nil;go_simp
 go_wp2_with (fail)
 refine hK.out _ _ FF.out (fun hHeld=>?_);clear hK K;clear z5 p0 p1 p2 p3 p4 p5 p6;refine wpAnyH_ready (rs:=[3]) (by kernel_rfl) (by simp) ?_;refine AllReadyH.cons rfl (fun K hK=>?_) AllReadyH.nil;go_simp
 go_wp2_with (go_at_call 32;refine (HCk.out _ _ _ _ _ _ _ _ _ HP5.out HC5.out).mono ?_;rintro e w7 ⟨rfl,hb7⟩;have D7:=hid (thenB D5.out hb7);clear hb7 FF;have FF:=hid (HX.out _ D7.out))
 refine hK.out _ _ FF.out (fun hHeld=>?_);clear hK K;refine wpAnyH_take (i:=4) (oi:=⟨some 29,_,_,_,_,_⟩) (v:=.bool true) rfl (by kernel_rfl) (by kernel_rfl) (by kernel_rfl) (fun _ _ _ h=>h) (Or.inl ⟨by kernel_rfl,fun W _=>by kernel_rfl⟩) (by assumption) ?_;refine wpAnyH_take (i:=5) (oi:=⟨some 30,_,_,_,_,_⟩) (v:=.bool true) rfl (by kernel_rfl) (by kernel_rfl) (by kernel_rfl) (fun _ _ _ h=>h) (Or.inl ⟨by kernel_rfl,fun W _=>by kernel_rfl⟩) (by assumption) ?_;refine wpAnyH_take (i:=6) (oi:=⟨some 31,_,_,_,_,_⟩) (v:=.int .i64 0) rfl (by kernel_rfl) (by kernel_rfl) (by kernel_rfl) (fun _ _ _ h=>h) (Or.inl ⟨by kernel_rfl,fun W _=>by kernel_rfl⟩) (by assumption) ?_;refine wpAnyH_take (i:=7) (oi:=⟨some 32,_,_,_,_,_⟩) (v:=.bool true) rfl (by kernel_rfl) (by kernel_rfl) (by kernel_rfl) (fun _ _ _ h=>h) (Or.inl ⟨by kernel_rfl,fun W _=>by kernel_rfl⟩) (by assumption) ?_
 refine wpAnyH_take (i:=8) (oi:=⟨some 33,_,_,_,_,_⟩) (v:=.bool true) rfl (by kernel_rfl) (by kernel_rfl) (by kernel_rfl) (fun _ _ _ h=>h) (Or.inl ⟨by kernel_rfl,fun W _=>by kernel_rfl⟩) (by assumption) ?_;refine wpAnyH_take (i:=9) (oi:=⟨some 34,_,_,_,_,_⟩) (v:=.bool true) rfl (by kernel_rfl) (by kernel_rfl) (by kernel_rfl) (fun _ _ _ h=>h) (Or.inl ⟨by kernel_rfl,fun W _=>by kernel_rfl⟩) (by assumption) ?_;refine wpAnyH_take (i:=10) (oi:=⟨some 35,_,_,_,_,_⟩) (v:=.int .i64 0) rfl (by kernel_rfl) (by kernel_rfl) (by kernel_rfl) (fun _ _ _ h=>h) (Or.inl ⟨by kernel_rfl,fun W _=>by kernel_rfl⟩) (by assumption) ?_;refine wpAnyH_take (i:=11) (oi:=⟨some 36,_,_,_,_,_⟩) (v:=.bool true) rfl (by kernel_rfl) (by kernel_rfl) (by kernel_rfl) (fun _ _ _ h=>h) (Or.inl ⟨by kernel_rfl,fun W _=>by kernel_rfl⟩) (by assumption) ?_;refine wpAnyH_take (i:=12) (oi:=⟨some 37,_,_,_,_,_⟩) (v:=.bool true) rfl (by kernel_rfl) (by kernel_rfl) (by kernel_rfl) (fun _ _ _ h=>h) (Or.inl ⟨by kernel_rfl,fun W _=>by kernel_rfl⟩) (by assumption) ?_
 refine wpAnyH_take (i:=13) (oi:=⟨some 38,_,_,_,_,_⟩) (v:=.bool true) rfl (by kernel_rfl) (by kernel_rfl) (by kernel_rfl) (fun _ _ _ h=>h) (Or.inl ⟨by kernel_rfl,fun W _=>by kernel_rfl⟩) (by assumption) ?_;refine wpAnyH_take (i:=14) (oi:=⟨some 39,_,_,_,_,_⟩) (v:=.int .i64 1) rfl (by kernel_rfl) (by kernel_rfl) (by kernel_rfl) (fun _ _ _ h=>h) (Or.inl ⟨by kernel_rfl,fun W _=>by kernel_rfl⟩) (by assumption) ?_;refine wpAnyH_take (i:=15) (oi:=⟨some 40,_,_,_,_,_⟩) (v:=.bool true) rfl (by kernel_rfl) (by kernel_rfl) (by kernel_rfl) (fun _ _ _ h=>h) (Or.inl ⟨by kernel_rfl,fun W _=>by kernel_rfl⟩) (by assumption) ?_;refine wpAnyH_take (i:=16) (oi:=⟨some 41,_,_,_,_,_⟩) (v:=.bool true) rfl (by kernel_rfl) (by kernel_rfl) (by kernel_rfl) (fun _ _ _ h=>h) (Or.inl ⟨by kernel_rfl,fun W _=>by kernel_rfl⟩) (by assumption) ?_;refine wpAnyH_take (i:=17) (oi:=⟨some 42,_,_,_,_,_⟩) (v:=.bool true) rfl (by kernel_rfl) (by kernel_rfl) (by kernel_rfl) (fun _ _ _ h=>h) (Or.inl ⟨by kernel_rfl,fun W _=>by kernel_rfl⟩) (by assumption) ?_
 refine wpAnyH_take (i:=18) (oi:=⟨some 43,_,_,_,_,_⟩) (v:=.string st) rfl (by kernel_rfl) (by kernel_rfl) (by kernel_rfl) (fun _ _ _ h=>h) (Or.inl ⟨by kernel_rfl,fun W _=>by kernel_rfl⟩) (by assumption) ?_;refine wpAnyH_take (i:=19) (oi:=⟨some 44,_,_,_,_,_⟩) (v:=.int .i64 519) rfl (by kernel_rfl) (by kernel_rfl) (by kernel_rfl) (fun _ _ _ h=>h) (Or.inl ⟨by kernel_rfl,fun W _=>by go_simp⟩) (by assumption) ?_;refine wpAnyH_take (i:=20) (oi:=⟨some 45,_,_,_,_,_⟩) (v:=.bool true) rfl (by kernel_rfl) (by kernel_rfl) (by kernel_rfl) (fun _ _ _ h=>h) (Or.inl ⟨by kernel_rfl,fun W _=>by kernel_rfl⟩) (by assumption) ?_;refine wpAnyH_take (i:=21) (oi:=⟨some 46,_,_,_,_,_⟩) (v:=.bool true) rfl (by kernel_rfl) (by kernel_rfl) (by kernel_rfl) (fun _ _ _ h=>h) (Or.inl ⟨by kernel_rfl,fun W _=>by kernel_rfl⟩) (by assumption) ?_;refine wpAnyH_take (i:=22) (oi:=⟨some 47,_,_,_,_,_⟩) (v:=.bool true) rfl (by kernel_rfl) (by kernel_rfl) (by kernel_rfl) (fun _ _ _ h=>h) (Or.inl ⟨by kernel_rfl,fun W _=>by kernel_rfl⟩) (by assumption) ?_
 refine wpAnyH_take (i:=23) (oi:=⟨some 48,_,_,_,_,_⟩) (v:=.agg #[.string o.name,.slice x1 o.uses.length y1,.int .i64 o.data,.slice x3 o.code.length y3,.slice x4 o.fixes.length y4,.slice x5 o.entries.length y5,.int .i64 o.main]) rfl (by kernel_rfl) (by kernel_rfl) (by kernel_rfl) (fun _ _ _ h=>h) (Or.inl ⟨by kernel_rfl,fun W hSW=>by (obtain ⟨s0,s1,s2,s3,s4,s5,s6⟩:=hSW;go_simp)⟩) (by assumption) ?_;refine wpAnyH_ready (rs:=[24]) (by kernel_rfl) (by simp) ?_;refine AllReadyH.cons rfl (fun K hK=>?_) AllReadyH.nil;go_simp
 go_wp2_with (go_at_call 85;refine (HT.out _).mono ?_;rintro e w8 ⟨b8,off8,s1,t1,s3,t3,s4,t4,s5,t5,_,_,_,_,_,_,_,_,rfl,⟨hO8,_⟩,_,hb8⟩;have D8:=hid (thenB D7.out hb8);have HS8:=hid hO8.ov;obtain ⟨z8,f0,f1,f2,f3,f4,f5,f6,_⟩:=hO8;clear hb8 FF;have FF:=hid (HX.out _ D8.out))
 refine hK.out _ _ FF.out (fun hHeld=>?_);clear hK K;refine wpAnyH_take (i:=25) (oi:=⟨some 50,_,_,_,_,_⟩) (v:=.pointer (some ⟨b8,off8,none⟩)) rfl (by kernel_rfl) (by kernel_rfl) (by kernel_rfl) (fun _ _ _ h=>h) (Or.inl ⟨by kernel_rfl,fun W _=>by kernel_rfl⟩) (by assumption) ?_;refine wpAnyH_ready (rs:=[26]) (by kernel_rfl) (by simp) ?_;refine AllReadyH.cons rfl (fun K hK=>?_) AllReadyH.nil;go_simp
 go_wp2_with (fail)
 refine hK.out _ _ FF.out (fun hHeld=>?_);clear hK K;clear z8 f0 f1 f2 f3 f4 f5 f6;refine wpAnyH_ready (rs:=[27]) (by kernel_rfl) (by simp) ?_;refine AllReadyH.cons rfl (fun K hK=>?_) AllReadyH.nil;go_simp
 go_wp2_with (go_at_call 38;refine (SameObjects_same o x1 y1 x3 y3 x4 y4 x5 y5 _ _ _ _ _ _ _ _ _ (HO4.out.later D8.out) HS8.out).mono ?_;rintro e w9 ⟨rfl,hb9⟩;have D9:=hid (thenB D8.out hb9);clear hb9 FF;have FF:=hid (HX.out _ D9.out))
 refine hK.out _ _ FF.out (fun hHeld=>?_);clear hK K;refine wpAnyH_take (i:=28) (oi:=⟨some 53,_,_,_,_,_⟩) (v:=.bool true) rfl (by kernel_rfl) (by kernel_rfl) (by kernel_rfl) (fun _ _ _ h=>h) (Or.inl ⟨by kernel_rfl,fun W _=>by kernel_rfl⟩) (by assumption) ?_;refine wpAnyH_take (i:=29) (oi:=⟨some 0,_,_,_,_,_⟩) (v:=.bool true) rfl (by kernel_rfl) (by kernel_rfl) (by kernel_rfl) (fun _ _ _ h=>h) (Or.inl ⟨by kernel_rfl,fun W _=>by kernel_rfl⟩) (by assumption) ?_;refine wpAnyH_done (by kernel_rfl) ?_ _
 try simp only [Act.put,List.setIfInBounds_toArray,List.set_cons_zero,List.set_cons_succ]
 go_wp2_with fail;go_ret;exact ⟨rfl,thenB HB4.out D9.out⟩
def cntBy:List UInt8:=objB cntOb
theorem cnt_wr:wrO cntOb=(cntBy,0):=by kernel_rfl
theorem cnt_len:cntBy.length=519:=by kernel_rfl
theorem cnt_rd:rdO cntBy=some cntOb:=by kernel_rfl
theorem cnt_rx:rdO (cntBy++[120])=none:=by kernel_rfl
theorem top_chk:oChk topOb=0:=by kernel_rfl
theorem objBegun_any (w:World):Calls Tryz.prog 33 #[] w fun e w'=>e = .returned (.bool true)/\Below w.heap.size w w':=
 objBegun_gen cntOb topOb cntBy objects_any top_chk cnt_wr cnt_rd cnt_rx cnt_len w
end Go.Proofs.YtndkhgakfodldaaGreatDoor

namespace Go.Proofs.YtndkhgakfodldaaGreatDoor
set_option maxRecDepth 100000
set_option maxHeartbeats 6400000
open Go.RowKit Go.Maps Go.WideMaps
set_option linter.unusedSimpArgs false
set_option linter.unusedVariables false
theorem seen7 {w W:World} {b:Nat} {x0 x1 x2 x3 x4 x5 x6:Value} {t:TypeId} (h:w.heap[b]? = some (.cells #[x0,x1,x2,x3,x4,x5,x6] t (0,0))) (hb:Below w.heap.size w W):W.cell? ⟨b,0,none⟩=some x0/\W.cell? ⟨b,1,none⟩=some x1/\W.cell? ⟨b,2,none⟩=some x2/\W.cell? ⟨b,3,none⟩=some x3/\W.cell? ⟨b,4,none⟩=some x4/\W.cell? ⟨b,5,none⟩=some x5/\W.cell? ⟨b,6,none⟩=some x6/\b<W.heap.size:=cells7 (later_blk h hb)
theorem ObjChecks_any (o:Ob) (x1:Option Addr) (y1:Nat) (x3:Option Addr) (y3:Nat) (x4:Option Addr) (y4:Nat) (x5:Option Addr) (y5:Nat) (w:World) (hO:OvAt w o x1 x3 x4 x5) (hcp:o.uses.length<=y1) :
 Calls Tryz.prog 9 #[.agg #[.string o.name,.slice x1 o.uses.length y1,.int .i64 o.data,.slice x3 o.code.length y3,.slice x4 o.fixes.length y4,.slice x5 o.entries.length y5,.int .i64 o.main]] w fun e w'=>e = .returned (.bool true)/\Below w.heap.size w w':=by
 have hX:=heap_newP w (.cells #[.string o.name,.slice x1 o.uses.length y1,.int .i64 o.data,.slice x3 o.code.length y3,.slice x4 o.fixes.length y4,.slice x5 o.entries.length y5,.int .i64 o.main] 62);have hb0:=al1 w (.cells #[.string o.name,.slice x1 o.uses.length y1,.int .i64 o.data,.slice x3 o.code.length y3,.slice x4 o.fixes.length y4,.slice x5 o.entries.length y5,.int .i64 o.main] 62);generalize hW:w.alloc (.cells #[.string o.name,.slice x1 o.uses.length y1,.int .i64 o.data,.slice x3 o.code.length y3,.slice x4 o.fixes.length y4,.slice x5 o.entries.length y5,.int .i64 o.main] 62)=W0 at *;have HO:=hid (hO.later hb0);have HB0:=hid hb0;have HC:=hid (fun W (h:Below W0.heap.size W0 W)=>objCheck_any o x1 y1 x3 y3 x4 y4 x5 y5 W (HO.out.later h) hcp);have HR:=hid (fun W (h:Below W0.heap.size W0 W)=>CheckObject_any o x1 y1 x3 y3 x4 y4 x5 y5 W (HO.out.later h))
 have HX:=hid hX;clear hO hcp hX hb0;generalize oChk o=E at *;go_enter Tryz.func9,Tryz.ntmps9;go_wp2_with fail;clear hW;have HP:=hid ((Below.refl W0.heap.size W0).drew);obtain ⟨q0,q1,q2,q3,q4,q5,q6,qz⟩:=cells7 HX.out
 go_region_held (fun W=>W.cell? ⟨w.heap.size,0,none⟩=some (.string o.name)/\W.cell? ⟨w.heap.size,1,none⟩=some (.slice x1 o.uses.length y1)/\W.cell? ⟨w.heap.size,2,none⟩=some (.int .i64 o.data)/\W.cell? ⟨w.heap.size,3,none⟩=some (.slice x3 o.code.length y3)/\W.cell? ⟨w.heap.size,4,none⟩=some (.slice x4 o.fixes.length y4)/\W.cell? ⟨w.heap.size,5,none⟩=some (.slice x5 o.entries.length y5)/\W.cell? ⟨w.heap.size,6,none⟩=some (.int .i64 o.main)/\w.heap.size<W.heap.size) (first | (go_keep;done) | exact FF.out)
  (first
    | (go_at_call 33;refine (objBegun_any _).mono ?_;rintro e w1 ⟨rfl,hb⟩;have HP:=hid (HP.out.trans (hb.mono HP.out.size));have FF:=hid (seen7 HX.out HP.out);clear hb)
    | (go_at_call 32;refine (HC.out _ HP.out).mono ?_;rintro e w1 ⟨rfl,hb⟩;have HP:=hid (HP.out.trans (hb.mono HP.out.size));have FF:=hid (seen7 HX.out HP.out);clear hb)
    | (go_at_call 34;refine (HR.out _ HP.out).mono ?_;rintro e w1 ⟨rfl,hb⟩;have HP:=hid (HP.out.trans (hb.mono HP.out.size));have FF:=hid (seen7 HX.out HP.out);clear hb))
 all_goals
  go_wp2_with fail;go_ret;exact ⟨by first | rfl | simp,thenB HB0.out HP.out⟩
end Go.Proofs.YtndkhgakfodldaaGreatDoor
