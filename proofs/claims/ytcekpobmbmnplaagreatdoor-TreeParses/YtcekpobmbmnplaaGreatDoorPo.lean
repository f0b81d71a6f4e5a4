/-
  A list of tokens is read as a module, or is none: the reader's panic is recovered.
-/
import Derived.Test.YtcekpobmbmnplaaGreatDoorPn
import Derived.Test.YtcekpobmbmnplaaGreatDoorStep
import Derived.Test.YtcekpobmbmnplaaGreatDoorJoin
import Derived.Maps.OwnSet
namespace Go.Proofs.YtcekpobmbmnplaaGreatDoor
set_option maxRecDepth 100000
set_option maxHeartbeats 1600000
open Go.RowKit Go.Shelf
def znb (ts:List Tk):Option Mo:=match zc4 ts with
 | some (m,[])=>some m
 | _=>none
abbrev zhh:Value:=.agg #[.string ⟨#[]⟩,.slice none 0 0,.slice none 0 0,.slice none 0 0,.slice none 0 0]
structure Pw (w W:World) (cs:Array Value) (ok:Bool):Prop where
 below:Below w.heap.size w W
 mb:W.heap[w.heap.size]? = some (.cells cs 27 (0,0))
 ob:W.heap[w.heap.size+1]? = some (.cells #[.bool ok] 4 (0,0))
theorem Pw.ocell {w W:World} {cs:Array Value} {ok:Bool} (h:Pw w W cs ok):W.cell? ⟨w.heap.size+1,0,none⟩=some (.bool ok)/\W.frozen? ⟨w.heap.size+1,0,none⟩=false:=by
 refine ⟨by rw [Lib.cell_of_heap h.ob];rfl,?_⟩;unfold World.frozen?;simp only;rw [h.ob];simp
theorem Pw.put {w W:World} {x0 x1 x2 x3 x4:Value} {ok:Bool} (h:Pw w W #[x0,x1,x2,x3,x4] ok) (v0 v1 v2 v3 v4:Value):Pw w (set5 W w.heap.size v0 v1 v2 v3 v4) #[v0,v1,v2,v3,v4] ok:=by
 refine ⟨((((h.below.setCell (p:=⟨w.heap.size,0,none⟩) (Nat.le_refl _) _).setCell (p:=⟨w.heap.size,1,none⟩) (Nat.le_refl _) _).setCell (p:=⟨w.heap.size,2,none⟩) (Nat.le_refl _) _).setCell (p:=⟨w.heap.size,3,none⟩) (Nat.le_refl _) _).setCell (p:=⟨w.heap.size,4,none⟩) (Nat.le_refl _) _,?_,?_⟩
 . exact zan (zan (zan (zan (zan h.mb _) _) _) _) _
 . have e:w.heap.size+1≠w.heap.size:=by omega
   exact (zag (p:=⟨w.heap.size,4,none⟩) e _).trans ((zag (p:=⟨w.heap.size,3,none⟩) e _).trans ((zag (p:=⟨w.heap.size,2,none⟩) e _).trans ((zag (p:=⟨w.heap.size,1,none⟩) e _).trans ((zag (p:=⟨w.heap.size,0,none⟩) e _).trans h.ob))))
theorem Pw.ok {w W:World} {cs:Array Value} {b:Bool} (h:Pw w W cs b) (b':Bool):Pw w (W.setCell ⟨w.heap.size+1,0,none⟩ (.bool b')) cs b':=
 ⟨h.below.setCell (p:=⟨w.heap.size+1,0,none⟩) (Nat.le_succ _) _,(zag (by show w.heap.size≠w.heap.size+1;omega) _).trans h.mb,zan h.ob _⟩
theorem Pw.keeps {w W W':World} {cs:Array Value} {b:Bool} {R:Nat} (h:Pw w W cs b) (hk:Keeps R W W') (hR:w.heap.size+2<=R):Pw w W' cs b:=
 ⟨⟨hk.os.trans h.below.os,hk.tape.trans h.below.tape,hk.output.trans h.below.output,Nat.le_trans h.below.size hk.size,fun k hk1=>(hk.block k (Nat.lt_of_lt_of_le hk1 h.below.size) (by omega)).trans (h.below.block k hk1)⟩,(hk.block _ (zac h.mb) (by omega)).trans h.mb,(hk.block _ (zac h.ob) (by omega)).trans h.ob⟩
theorem Pw.resOf {w W:World} {x0 x1 x2 x3 x4:Value} {ok:Bool} (h:Pw w W #[x0,x1,x2,x3,x4] ok) (t:Array Value) (h2:t.getD 2 undef = .pointer (some ⟨w.heap.size,0,none⟩)) (h3:t.getD 3 undef = .pointer (some ⟨w.heap.size+1,0,none⟩)) :
 (results Tryz.f24 t).run Tryz.prog W = .ok (.tuple #[.agg #[x0,x1,x2,x3,x4],.bool ok]) W:=by
 obtain ⟨c0,c1,c2,c3,c4,_⟩:=zaf h.mb;obtain ⟨d0,_⟩:=h.ocell
 have h2':t[2]?.getD undef = .pointer (some ⟨w.heap.size,0,none⟩):=by simpa using h2
 have h3':t[3]?.getD undef = .pointer (some ⟨w.heap.size+1,0,none⟩):=by simpa using h3
 simp [results,Tryz.results24,go_sem,h2',h3',c0,c1,c2,c3,c4,d0]
theorem z1p (w W:World) (x0 x1 x2 x3 x4:Value) (ok:Bool) (u:TypeId) (pv:Value) (older:List PanicEntry) (h:Pw w W #[x0,x1,x2,x3,x4] ok) :
 CallsD Tryz.prog 46 #[.pointer (some ⟨w.heap.size,0,none⟩),.pointer (some ⟨w.heap.size+1,0,none⟩)] (.panicking ({ v:=.iface u pv,recovered:=false } :: older)) W fun e u' w'=>
  e = .returned (.tuple #[])/\u' = .panicking ({ v:=.iface u pv,recovered:=true } :: older)/\Pw w w' #[.string ⟨#[]⟩,.slice none 0 0,.slice none 0 0,.slice none 0 0,.slice none 0 0] false:=by
 have hfin:=(h.put (.string ⟨#[]⟩) (.slice none 0 0) (.slice none 0 0) (.slice none 0 0) (.slice none 0 0)).ok false;obtain ⟨c0,c1,c2,c3,c4,c5⟩:=zaf h.mb;obtain ⟨d0,d1⟩:=(h.put (.string ⟨#[]⟩) (.slice none 0 0) (.slice none 0 0) (.slice none 0 0) (.slice none 0 0)).ocell
 refine callsD_of_wpS Tryz.func46 rfl fun c₀ cs hu=>?_
 apply wpS_seq
 apply wpS_region
 simp [wpOpsS,go_sem,recoverD,hu,Tryz.ntmps46,Exit.thenS];refine wpS_cond (t:=true) (by simp [Act.eval,Array.replicate]) ?_;simp only [if_true]
 apply wpS_region
 simp [wpOpsS,go_sem,c0,c1,c2,c3,c4,c5,d0,d1,bodyPostS,results,Tryz.results46];exact hfin
theorem z25 (p q:Addr) (w:World) :
 CallsD Tryz.prog 46 #[.pointer (some p),.pointer (some q)] .returning w fun e u' w'=>e = .returned (.tuple #[])/\u' = .returning/\w'=w:=by
 refine callsD_of_wpS Tryz.func46 rfl fun c₀ cs hu=>?_
 apply wpS_seq
 apply wpS_region
 simp [wpOpsS,go_sem,recoverD,hu,Tryz.ntmps46,Exit.thenS];refine wpS_cond (t:=false) (by simp [Act.eval,Array.replicate]) ?_;simp only [Bool.false_eq_true,if_false];refine wpS_of_wp (wp_skip ?_)
 cases c₀
 simp_all [bodyPostS,results,Tryz.results46]
theorem Pw.caught {w W:World} {x0 x1 x2 x3 x4:Value} {ok:Bool} (h:Pw w W #[x0,x1,x2,x3,x4] ok) {R:Ending->World->Prop} (t:Array Value)
 (h2:t.getD 2 undef = .pointer (some ⟨w.heap.size,0,none⟩)) (h3:t.getD 3 undef = .pointer (some ⟨w.heap.size+1,0,none⟩))
 (hR:∀ W',Below w.heap.size w W'->R (.returned (.tuple #[zhh,.bool false])) W') :
 Leaves Tryz.prog Tryz.f24 t R [{ target:=Target.fn (Fn.func 46) #[Value.pointer (some ⟨w.heap.size,0,none⟩),Value.pointer (some ⟨w.heap.size+1,0,none⟩)],args:=#[] }] (.panicking zau) W:=by
 refine leaves_cons (f:=46) (args:=#[.pointer (some ⟨w.heap.size,0,none⟩),.pointer (some ⟨w.heap.size+1,0,none⟩)]) (by simp) (by simp [go_sem]) ?_;refine (z1p w W x0 x1 x2 x3 x4 ok 29 (.int .i64 1) [] h).mono ?_;rintro e u' w'' ⟨rfl,rfl,hp⟩;exact ⟨_,hp.resOf t h2 h3,hR w'' hp.below⟩
theorem zsv (ts:List Tk) (a:Option Addr) (cap:Nat) (w:World) (ht:zb9 w a ts) (hl:ts.length<=4096) :
 Calls Tryz.prog 24 #[.slice a ts.length cap] w fun e w'=>Below w.heap.size w w'/\((znb ts=none/\e = .returned (.tuple #[zhh,.bool false]))\/∃ m v,znb ts=some m/\e = .returned (.tuple #[v,.bool true])/\zgk (w.heap.size<=·) m w' v):=by
 have HT:=hid ht
 have hmf:∀ (fn:Fn) (first cap:Array Value) (w:World),(Instr.makeFunc fn first cap).run Tryz.prog w = .ok (.func fn first cap) w:=fun _ _ _ _=>rfl
 clear ht;go_enter_defers Tryz.func24,Tryz.ntmps24;go_wp2_with fail
 obtain ⟨W0,hW0⟩:∃ W0,W0=((w.alloc zcl).alloc (.cells #[.bool false] 4)).alloc (.cells #[.slice a ts.length cap,.int .i64 0] 88):=⟨_,rfl⟩
 have hz0:W0.heap.size=w.heap.size+1+1+1:=by rw [hW0];simp
 have HP0:Hid (Pw w W0 #[.string ⟨#[]⟩,.slice none 0 0,.slice none 0 0,.slice none 0 0,.slice none 0 0] false):=by
  rw [hW0];refine ⟨((((Below.refl _ _).alloc (Nat.le_refl _) _).alloc (by simp) _).alloc (by simp;omega) _),zai (zai (heap_newP _ _)),zai ?_⟩;have:=heap_newP (w.alloc zcl) (.cells #[.bool false] 4);simpa using this
 have HR0:Hid (Rd (w.heap.size+1+1) a cap ts W0 ts):=by
  refine ⟨⟨0,Nat.zero_le _,rfl,?_⟩,HT.out.later ?_,?_,hl⟩
  . rw [hW0]
    have:=heap_newP ((w.alloc zcl).alloc (.cells #[.bool false] 4)) (.cells #[.slice a ts.length cap,.int .i64 0] 88);simpa using this
  . exact HP0.out.below
  . rcases HT.out with h | ⟨b,off,rfl,h⟩
    . exact Or.inl h
    . refine Or.inr fun b' off' e=>?_
      cases e
      have:=h.lt;omega
 rw [← hW0];clear hW0;refine (zsu _ cap a ts ts W0 HR0.out).mono ?_;rintro e w1 ⟨KK,⟨hn,rfl⟩ | ⟨m,l1,v,hn,rfl,⟨a1,c1,a2,c2,a3,c3,a4,c4,rfl,hx0,hx1,hx2,hx3,hx4⟩,RD⟩⟩
 . have HN:Hid (znb ts=none):=by show _=_;unfold znb;rw [hn]
   exact Pw.caught (HP0.out.keeps KK (by omega)) _ rfl rfl (fun W' hB=>⟨hB,Or.inl ⟨HN.out,rfl⟩⟩)
 have HP1:=hid (HP0.out.keeps KK (by omega));have hz1:=KK.size;obtain ⟨k,hk,hlk,hRb⟩:=RD.idx
 have hRc0:w1.cell? ⟨w.heap.size+1+1,0,none⟩=some (.slice a ts.length cap):=by rw [Lib.cell_of_heap hRb];rfl
 have hRc1:w1.cell? ⟨w.heap.size+1+1,1,none⟩=some (.int .i64 k):=by rw [Lib.cell_of_heap hRb];rfl
 have HP2:=hid (HP1.out.put (.string m.name) (.slice a1 m.uses.length c1) (.slice a2 m.decls.length c2) (.slice a3 m.procs.length c3) (.slice a4 m.main.length c4));have HP3:=hid ((HP2.out.put (.string m.name) (.slice a1 m.uses.length c1) (.slice a2 m.decls.length c2) (.slice a3 m.procs.length c3) (.slice a4 m.main.length c4)).ok true)
 have HM3:Hid (zgk (w.heap.size<=·) m ((set5 (set5 w1 w.heap.size (.string m.name) (.slice a1 m.uses.length c1) (.slice a2 m.decls.length c2) (.slice a3 m.procs.length c3) (.slice a4 m.main.length c4)) w.heap.size (.string m.name) (.slice a1 m.uses.length c1) (.slice a2 m.decls.length c2) (.slice a3 m.procs.length c3) (.slice a4 m.main.length c4)).setCell ⟨w.heap.size+1,0,none⟩ (.bool true)) (.agg #[.string m.name,.slice a1 m.uses.length c1,.slice a2 m.decls.length c2,.slice a3 m.procs.length c3,.slice a4 m.main.length c4])):=by
  have hm:Moves w1 (W0.heap.size<=·) ((set5 (set5 w1 w.heap.size (.string m.name) (.slice a1 m.uses.length c1) (.slice a2 m.decls.length c2) (.slice a3 m.procs.length c3) (.slice a4 m.main.length c4)) w.heap.size (.string m.name) (.slice a1 m.uses.length c1) (.slice a2 m.decls.length c2) (.slice a3 m.procs.length c3) (.slice a4 m.main.length c4)).setCell ⟨w.heap.size+1,0,none⟩ (.bool true)) (w.heap.size<=·):=
   ((((Moves.refl w1 (W0.heap.size<=·)).set5 (b:=w.heap.size) (fun k _ hk=>by omega) (.string m.name) (.slice a1 m.uses.length c1) (.slice a2 m.decls.length c2) (.slice a3 m.procs.length c3) (.slice a4 m.main.length c4)).set5 (b:=w.heap.size) (fun k _ hk=>by omega) (.string m.name) (.slice a1 m.uses.length c1) (.slice a2 m.decls.length c2) (.slice a3 m.procs.length c3) (.slice a4 m.main.length c4)).set (p:=⟨w.heap.size+1,0,none⟩) (fun k _ hk=>by show k≠w.heap.size+1;omega) (.bool true)).trans ⟨Nat.le_refl _,fun k _ hk=>⟨by omega,rfl⟩⟩
  exact ⟨a1,c1,a2,c2,a3,c3,a4,c4,rfl,hx0,hx1.moves hm,hx2.moves hm,hx3.moves hm,hx4.moves hm⟩
 obtain ⟨h0,h1,h2,h3,h4,h5⟩:=zaf HP1.out.mb;obtain ⟨d0,d1⟩:=HP1.out.ocell
 have hlt1:w.heap.size<w1.heap.size:=by omega
 have hlt2:w.heap.size+1<w1.heap.size:=by omega
 have hlt3:w.heap.size+1+1<w1.heap.size:=by omega
 clear KK RD hx1 hx2 hx3 hx4 HP0 HR0 HT hRb
 by_cases hke:k<ts.length
 . have HN:Hid (znb ts=none):=by
    show _=_;unfold znb;rw [hn,hlk,List.drop_eq_getElem_cons hke]
   clear hn;go_wp2_with fail;exact Pw.caught HP2.out _ rfl rfl (fun W' hB=>⟨hB,Or.inl ⟨HN.out,rfl⟩⟩)
 . have HN:Hid (znb ts=some m):=by
    show _=_;unfold znb;rw [hn,hlk,List.drop_eq_nil_of_le (by omega)]
   have hkz:¬ ((k:Int)<(ts.length:Int)):=by omega
   clear hn;go_wp2_with fail;refine leaves_cons (f:=46) (args:=#[.pointer (some ⟨w.heap.size,0,none⟩),.pointer (some ⟨w.heap.size+1,0,none⟩)]) (by simp) (by simp [go_sem]) ?_;refine (z25 ⟨w.heap.size,0,none⟩ ⟨w.heap.size+1,0,none⟩ _).mono ?_;rintro e u' w'' ⟨rfl,rfl,rfl⟩;exact ⟨_,HP3.out.resOf _ rfl rfl,HP3.out.below,Or.inr ⟨m,_,HN.out,rfl,HM3.out⟩⟩
end Go.Proofs.YtcekpobmbmnplaaGreatDoor

namespace Go.Proofs.YtcekpobmbmnplaaGreatDoor
set_option maxRecDepth 100000
set_option maxHeartbeats 1600000
open Go.RowKit
theorem zwl (s:ByteArray):zjf s=((s.toList == [109,111,100,117,108,101])||((s.toList == [117,115,101])||((s.toList == [112,117,98])||((s.toList == [99,111,110,115,116])||((s.toList == [118,97,114])||((s.toList == [97,114,114,97,121])||((s.toList == [112,114,111,99])||((s.toList == [108,111,99,97,108])||((s.toList == [109,97,105,110]) ||
 ((s.toList == [105,102])||((s.toList == [101,108,115,101])||((s.toList == [119,104,105,108,101])||((s.toList == [114,101,116,117,114,110])||((s.toList == [111,117,116])||((s.toList == [105,110])||false))))))))))))))):=by
 unfold zjf kept;rw [Lib.toList_data];simp only [List.contains_cons,List.contains_nil]
theorem zli (s:ByteArray) (w:World) :
 Calls Tryz.prog 72 #[.string s] w fun e w'=>e = .returned (.bool (zjf s))/\w'=w:=by
 go_enter Tryz.func72,Tryz.ntmps72;go_wp2_with fail
 all_goals go_ret
 all_goals refine ⟨zaa ?_,rfl⟩
 all_goals rw [zwl]
 all_goals simp only [*,Bool.true_or,Bool.false_or,Bool.or_true]
 all_goals simp_all only [Bool.false_eq_true]
theorem zmj (w:World) (o:Obj):(w.alloc o).heap[w.heap.size]? = some o:=(MapKept.heap_alloc w o).1
theorem zsa (t:Tk) (hk:zd7 t=true):(checkN [t] == 0)=t.okB:=by
 unfold checkN;simp only [List.all_cons,List.all_nil,hk,Bool.and_true,if_true,List.length_cons,List.length_nil]
 cases t.okB<;>rfl
theorem zyy (t:Tk) (w:World) (hs:t.text.size<=maxLen):zb9 (w.alloc (.cells #[.int .i64 t.kind,.int .i64 t.n,.string t.text] 68)) (some ⟨w.heap.size,0,none⟩) [t]:=by
 have h:∀ j u,#[Value.int .i64 t.kind,.int .i64 t.n,.string t.text][j]? = some u->(w.alloc (.cells #[.int .i64 t.kind,.int .i64 t.n,.string t.text] 68)).cell? ⟨w.heap.size,j,none⟩=some u:=fun j u hj=>by
  rw [Lib.cell_of_heap (zmj w _)];exact hj
 refine Or.inr ⟨_,0,rfl,by simp,?_,?_,?_,?_⟩
 . intro i hi
   obtain rfl:i=0:=by simpa using hi
   exact h 0 _ rfl
 . intro i hi
   obtain rfl:i=0:=by simpa using hi
   exact h 1 _ rfl
 . intro i hi
   obtain rfl:i=0:=by simpa using hi
   exact h 2 _ rfl
 . intro i hi
   obtain rfl:i=0:=by simpa using hi
   exact hs
theorem znx (t:Tk) (w:World) (hs:t.text.size<=maxLen) (hk:zd7 t=true) :
 Calls Tryz.prog 73 #[t.val] w fun e w'=>e = .returned (.bool t.okB)/\Below w.heap.size w w':=by
 have HK:Hid ((checkN [t] == 0)=t.okB):=zsa t hk
 have HC:Hid (∀ (w1:World) (n:Nat),n=w1.heap.size->Calls Tryz.prog 31 #[.slice (some ⟨n,0,none⟩) 1 1] (w1.alloc (.cells #[.int .i64 t.kind,.int .i64 t.n,.string t.text] 68)) fun e w'=>e = .returned (.int .i64 (checkN [t]))/\Below w1.heap.size w1 w'):=
  fun w1 n hn=>by
   subst hn;refine (zkd _ 1 [t] _ (zyy t w1 hs) (by simp)).mono ?_;rintro e w' ⟨rfl,hb⟩;exact ⟨rfl,((Below.refl _ _).alloc (Nat.le_refl _) _).trans (hb.mono (by simp))⟩
 obtain ⟨K,N,S⟩:=t;simp only [Tk.val] at *;go_enter Tryz.func73,Tryz.ntmps73
 go_wp2_with (go_at_call 31;refine (HC.out _ _ (by simp)).mono ?_;rintro e w' ⟨rfl,hb⟩)
 go_ret;exact ⟨zaa HK.out,((Below.refl _ _).alloc (Nat.le_refl _) _).trans (hb.mono (by simp))⟩
theorem zwm (s:ByteArray):Tk.okB ⟨1,0,s⟩=Lx.nameB s.data.toList:=by simp [Tk.okB]
theorem zyz (n:Int):Tk.okB ⟨2,n,⟨#[]⟩⟩=ze8 n:=by simp [Tk.okB,ze8,Lib.toList_data]
theorem zei (s:ByteArray) (w:World) (hs:s.size<=maxLen) :
 Calls Tryz.prog 39 #[.string s] w fun e w'=>e = .returned (.bool (zae s))/\Below w.heap.size w w':=by
 have HC:Hid (∀ w1:World,Calls Tryz.prog 73 #[.agg #[.int .i64 1,.int .i64 0,.string s]] w1 fun e w'=>e = .returned (.bool (Lx.nameB s.data.toList))/\Below w1.heap.size w1 w'):=fun w1=>by
  rw [← zwm];exact znx ⟨1,0,s⟩ w1 hs rfl
 by_cases hk:zjf s=true
 . have HN:Hid (zae s=false):=by show _=_;simp [zae,hk]
   go_enter Tryz.func39,Tryz.ntmps39
   go_wp2_with (go_at_call 72;refine (zli s _).mono ?_;rintro e w' ⟨rfl,rfl⟩)
   go_ret;exact ⟨zaa (by rw [HN.out]),Below.refl _ _⟩
 . have hk':zjf s=false:=by simpa using hk
   clear hk
   have HN:Hid (zae s=Lx.nameB s.data.toList):=by show _=_;simp [zae,hk']
   go_enter Tryz.func39,Tryz.ntmps39
   go_wp2_with (first | (go_at_call 72;refine (zli s _).mono ?_;rintro e w' ⟨rfl,rfl⟩) | (go_at_call 73;refine (HC.out _).mono ?_;rintro e w' ⟨rfl,hb⟩))
   go_ret;exact ⟨zaa (by rw [HN.out]),hb⟩
theorem zjv (n:Int) (w:World) :
 Calls Tryz.prog 76 #[.int .i64 n] w fun e w'=>e = .returned (.bool (ze8 n))/\Below w.heap.size w w':=by
 have HC:Hid (∀ w1:World,Calls Tryz.prog 73 #[.agg #[.int .i64 2,.int .i64 n,.string ⟨#[]⟩]] w1 fun e w'=>e = .returned (.bool (ze8 n))/\Below w1.heap.size w1 w'):=fun w1=>by
  rw [← zyz];exact znx ⟨2,n,⟨#[]⟩⟩ w1 (Nat.zero_le _) rfl
 go_enter Tryz.func76,Tryz.ntmps76
 go_wp2_with (go_at_call 73;refine (HC.out _).mono ?_;rintro e w' ⟨rfl,hb⟩)
 go_ret;exact ⟨rfl,hb⟩
theorem zd8 (s:ByteArray):s.toList.isEmpty=decide (s.size=0):=by
 rw [Lib.toList_data];have h:=Lx.len_toList s
 cases hl:s.data.toList with
 | nil=>rw [hl] at h;have h':s.size=0:=h.symm;simp [h']
 | cons c r => rw [hl] at h;have h':s.size≠0:=by simp at h;omega
               simp [h']
theorem zi3 (h:Sh) (mod name:ByteArray) (w:World) (h1:mod.size<=maxLen) (h2:name.size<=maxLen) :
 Calls Tryz.prog 77 #[h.val,.string mod,.string name] w fun e w'=>e = .returned (.bool (zca h mod name))/\Below w.heap.size w w':=by
 obtain ⟨a,b,c,d,e,f⟩:=h;simp only [Sh.val]
 cases a with
 | false=>
   have HR:Hid (zca ⟨false,b,c,d,e,f⟩ mod name=(mod.toList.isEmpty&&name.toList.isEmpty)):=by show _=_;simp [zca,zd8]
   cases hm:mod.toList.isEmpty with
   | false=>
     go_enter Tryz.func77,Tryz.ntmps77;go_wp2_with fail;go_ret;exact ⟨zaa (by rw [HR.out,hm];rfl),(Below.refl _ _).alloc (Nat.le_refl _) _⟩
   | true=>
     go_enter Tryz.func77,Tryz.ntmps77;go_wp2_with fail;go_ret;exact ⟨zaa (by rw [HR.out,hm];rfl),(Below.refl _ _).alloc (Nat.le_refl _) _⟩
 | true=>
   have HR:Hid (zca ⟨true,b,c,d,e,f⟩ mod name=(zae name&&(mod.toList.isEmpty||zae mod))):=by show _=_;simp [zca,zd8]
   cases hn:zae name with
   | false=>
     go_enter Tryz.func77,Tryz.ntmps77
     go_wp2_with (go_at_call 39;refine (zei name _ h2).mono ?_;rw [hn];rintro e w' ⟨rfl,hb⟩)
     go_ret;exact ⟨zaa (by rw [HR.out,hn];rfl),((Below.refl _ _).alloc (Nat.le_refl _) _).trans (hb.mono (by simp))⟩
   | true=>
     cases hm:mod.toList.isEmpty with
     | true=>
       go_enter Tryz.func77,Tryz.ntmps77
       go_wp2_with (go_at_call 39;refine (zei name _ h2).mono ?_;rw [hn];rintro e w' ⟨rfl,hb⟩)
       go_ret;exact ⟨zaa (by rw [HR.out,hn,hm];rfl),((Below.refl _ _).alloc (Nat.le_refl _) _).trans (hb.mono (by simp))⟩
     | false=>
       go_enter Tryz.func77,Tryz.ntmps77;go_wp2_with fail;refine (zei name _ h2).mono ?_;rw [hn];rintro e w1 ⟨rfl,hb⟩;go_wp2_with fail;refine (zei mod _ h1).mono ?_;rintro e w2 ⟨rfl,hb2⟩;go_wp2_with fail;go_ret;exact ⟨zaa (by rw [HR.out,hn,hm];simp),(((Below.refl _ _).alloc (Nat.le_refl _) _).trans (hb.mono (by simp))).trans (hb2.mono (Nat.le_trans (by simp) hb.size))⟩
theorem zjw (h:Sh) (n:Int) (w:World) :
 Calls Tryz.prog 111 #[h.val,.int .i64 n] w fun e w'=>e = .returned (.bool (nOk h n))/\Below w.heap.size w w':=by
 obtain ⟨a,b,c,d,e,f⟩:=h;simp only [Sh.val]
 cases b with
 | false=>
   have HR:Hid (nOk ⟨a,false,c,d,e,f⟩ n=(n == 0)):=by show _=_;rw [Bool.eq_iff_iff];simp [nOk]
   go_enter Tryz.func111,Tryz.ntmps111;go_wp2_with fail;go_ret;exact ⟨zaa HR.out.symm,(Below.refl _ _).alloc (Nat.le_refl _) _⟩
 | true=>
   have HR:Hid (nOk ⟨a,true,c,d,e,f⟩ n=ze8 n):=by show _=_;simp [nOk]
   go_enter Tryz.func111,Tryz.ntmps111
   go_wp2_with (go_at_call 76;refine (zjv n _).mono ?_;rintro e w' ⟨rfl,hb⟩)
   go_ret;exact ⟨zaa HR.out.symm,((Below.refl _ _).alloc (Nat.le_refl _) _).trans (hb.mono (by simp))⟩
theorem zhf (h:Sh) (aa:Option Addr) (k cap:Nat) (w:World) :
 Calls Tryz.prog 78 #[h.val,.slice aa k cap] w fun e w'=>e = .returned (.bool (zas h k))/\Below w.heap.size w w':=by
 obtain ⟨a,b,c,d,e,f⟩:=h;simp only [Sh.val];have HR:Hid (zas ⟨a,b,c,d,e,f⟩ k=(decide (c<=(k:Int))&&decide ((k:Int)<=d))):=rfl
 by_cases h1:c<=(k:Int)
 . go_enter Tryz.func78,Tryz.ntmps78
   go_wp2_with fail
   all_goals go_ret
   all_goals exact ⟨zaa (by rw [HR.out];simp [*]<;>omega),(Below.refl _ _).alloc (Nat.le_refl _) _⟩
 . go_enter Tryz.func78,Tryz.ntmps78
   go_wp2_with fail
   all_goals go_ret
   all_goals exact ⟨zaa (by rw [HR.out];simp [*]<;>omega),(Below.refl _ _).alloc (Nat.le_refl _) _⟩
theorem zmk (x:De) (w:World) :
 Calls Tryz.prog 41 #[.agg #[.int .i64 x.kind,.string x.name,.bool x.pub,.int .i64 x.n]] w fun e w'=>e = .returned (.bool (zc7 x))/\Below w.heap.size w w':=by
 obtain ⟨K,S,B,N⟩:=x
 by_cases k1:K=1
 . have HR:Hid (zc7 ⟨K,S,B,N⟩=ze8 N):=if_pos k1
   subst k1;go_enter Tryz.func41,Tryz.ntmps41
   go_wp2_with (go_at_call 76;refine (zjv N _).mono ?_;rintro e w' ⟨rfl,hb⟩)
   go_ret;exact ⟨zaa HR.out.symm,((Below.refl _ _).alloc (Nat.le_refl _) _).trans (hb.mono (by simp))⟩
 . have b1:(K == 1)=false:=beq_eq_false_iff_ne.2 k1
   by_cases k3:K=3
   . have HR:Hid (zc7 ⟨K,S,B,N⟩=(decide (1<=N)&&decide (N<=32))):=(if_neg k1).trans (if_pos k3)
     subst k3;clear k1 b1
     by_cases n1:1<=N
     . go_enter Tryz.func41,Tryz.ntmps41
       go_wp2_with fail
       all_goals go_ret
       all_goals exact ⟨zaa (by rw [HR.out];simp [*]<;>omega),(Below.refl _ _).alloc (Nat.le_refl _) _⟩
     . go_enter Tryz.func41,Tryz.ntmps41
       go_wp2_with fail
       all_goals go_ret
       all_goals exact ⟨zaa (by rw [HR.out];simp [*]<;>omega),(Below.refl _ _).alloc (Nat.le_refl _) _⟩
   . have b3:(K == 3)=false:=beq_eq_false_iff_ne.2 k3
     have HR:Hid (zc7 ⟨K,S,B,N⟩=(N == 0)):=by
      show _=_
      rw [Bool.eq_iff_iff];simp [zc7,k1,k3]
     clear k1 k3;go_enter Tryz.func41,Tryz.ntmps41;go_wp2_with fail
     all_goals go_ret
     all_goals exact ⟨zaa (by rw [HR.out]),(Below.refl _ _).alloc (Nat.le_refl _) _⟩
end Go.Proofs.YtcekpobmbmnplaaGreatDoor

namespace Go.Proofs.YtcekpobmbmnplaaGreatDoor
set_option maxRecDepth 100000
set_option maxHeartbeats 1600000
open Go.RowKit Go.Maps
def zy1 (v:Value):Option (DataW Value × List MemPlace):=some (.held v,[])
theorem ztn:Keyed Tryz.prog 3:=int_keyed Tryz.underlying3
theorem zyd (w:World):(zeroValue 78).run Tryz.prog w = .ok sh0.val w:=by kernel_rfl
def zwr (D:DataW Value) (f:Int->Option Sh):Prop:=∀ a:Int,has D (.int .i64 a)=(f a).isSome/\D.atKey (.int .i64 a) (.held sh0.val) = .held ((f a).getD sh0).val
def upd (f:Int->Option Sh) (k:Int) (s:Sh):Int->Option Sh:=fun a=>if a=k then some s else f a
theorem zwr.put {D:DataW Value} {f:Int->Option Sh} (h:zwr D f) (hD:IsMap D) (k:Int) (s:Sh):zwr (D.put (.int .i64 k) (.held s.val)) (upd f k s):=by
 intro a
 by_cases e:a=k
 . subst e
   simp only [upd,if_true];exact ⟨has_put_same (k:=.int .i64 a) hD trivial _,atKey_put_same (k:=.int .i64 a) hD trivial _ _⟩
 . simp only [upd,if_neg e]
   have hne:Lit.int .i64 a≠.int .i64 k:=fun h=>e (by injection h)
   rw [has_put_other hne,atKey_put_other hne];exact h a
def zd1 (w:World) (b n:Nat) (f:Int->Option Sh):Prop:=∃ D,w.ownsMap Tryz.prog 3 zy1 b n D/\zwr D f
theorem zd1.later {w w':World} {b n:Nat} {f:Int->Option Sh} (h:zd1 w b n f) (hb:Below w.heap.size w w'):zd1 w' b n f:=by
 obtain ⟨D,h1,h2⟩:=h;have hlt:=h1.lt;obtain ⟨es,clock,hb',r⟩:=h1;exact ⟨D,⟨es,clock,(hb.block b hlt).trans hb',r⟩,h2⟩
theorem zd1.lt {w:World} {b n:Nat} {f:Int->Option Sh} (h:zd1 w b n f):b<w.heap.size:=by obtain ⟨D,h1,_⟩:=h;exact h1.lt
theorem zd1.made (w:World):zd1 (w.alloc (.map #[] 0)) w.heap.size 0 (fun _=>none):=
 ⟨.map [],World.ownsMap_made w _ _ _,fun _=>⟨rfl,rfl⟩⟩
theorem zd1.look {w:World} {b n:Nat} {f:Int->Option Sh} (h:zd1 w b n f) {k:Int} (hk:(Lit.int .i64 k).wf=true) :
 (Instr.lookup 48 (.map (some b)) (.int .i64 k) false).run Tryz.prog w = .ok ((f k).getD sh0).val w:=by
 obtain ⟨D,h1,h2⟩:=h;obtain ⟨v,ps,hrun,hv⟩:=h1.lookup ztn Tryz.underlying48 (zyd w) (zd:=.held sh0.val) (zp:=[]) rfl (keyOf_int_mk Tryz.underlying3 hk);rw [(h2 k).2] at hv;simp only [zy1,Option.some.injEq,Prod.mk.injEq,DataW.held.injEq] at hv;rw [hrun,hv.1]
theorem zd1.look_ok {w:World} {b n:Nat} {f:Int->Option Sh} (h:zd1 w b n f) {k:Int} (hk:(Lit.int .i64 k).wf=true) :
 (Instr.lookup 48 (.map (some b)) (.int .i64 k) true).run Tryz.prog w = .ok (.tuple #[((f k).getD sh0).val,.bool (f k).isSome]) w:=by
 obtain ⟨D,h1,h2⟩:=h;obtain ⟨v,ps,hrun,hv⟩:=h1.look_ok ztn Tryz.underlying48 (zyd w) (zd:=.held sh0.val) (zp:=[]) rfl (keyOf_int_mk Tryz.underlying3 hk);rw [(h2 k).2] at hv;simp only [zy1,Option.some.injEq,Prod.mk.injEq,DataW.held.injEq] at hv;rw [hrun,hv.1,(h2 k).1]
theorem zd1.put {w:World} {b n:Nat} {f:Int->Option Sh} (h:zd1 w b n f) (hn:n<maxLen) {k:Int} (hk:(Lit.int .i64 k).wf=true) (s:Sh) :
 ∃ w',(Instr.mapUpdate 48 (.map (some b)) (.int .i64 k) s.val).run Tryz.prog w = .ok () w'/\zd1 w' b (n+1) (upd f k s)/\w.grownBy w' (some b):=by
 obtain ⟨D,h1,h2⟩:=h;obtain ⟨w',r1,r2,r3⟩:=h1.update ztn Tryz.underlying48 hn (keyOf_int_mk Tryz.underlying3 hk) (val:=s.val) (d:=.held s.val) (ps:=[]) rfl;exact ⟨w',r1,⟨_,r2,h2.put h1.isMap k s⟩,r3⟩
theorem zn0 {ops:Array Oper} {rest:List Oper} {o:Oper} {a:Act} {w:World} {Q:Exit->Act->World->Prop} (hg:o.guard=none) (m x v:Operand) (hop:o.op=Op.insert 48 m x v) {b n:Nat} {f:Int->Option Sh} (hS:zd1 w b n f)
 (hm:a.eval m = .map (some b)) (k:Int) (hx:a.eval x = .int .i64 k) (x1 x2:Bool) (x3 x4:Int) (x5 x6:Bool) (hv:a.eval v = .agg #[.bool x1,.bool x2,.int .i64 x3,.int .i64 x4,.bool x5,.bool x6]) (hk:(Lit.int .i64 k).wf=true) (hn:n<maxLen)
 (hK:∀ w',zd1 w' b (n+1) (upd f k ⟨x1,x2,x3,x4,x5,x6⟩)->w.grownBy w' (some b)->wpList Tryz.prog ops Q rest (a.put o.dst undef) w'):wpList Tryz.prog ops Q (o :: rest) a w:=by
 refine wpList_plain hg fun K' hK'=>?_
 obtain ⟨w',hrun,r1,r2⟩:=hS.put hn hk ⟨x1,x2,x3,x4,x5,x6⟩;simp only [Sh.val] at hrun;unfold Oper.wp;simp [execOp,hop,hm,hx,hv,hrun,Result.andThen];exact hK' _ _ (hK w' r1 r2)
theorem zto {ops:Array Oper} {rest:List Oper} {o:Oper} {a:Act} {w:World} {Q:Exit->Act->World->Prop} (hg:o.guard=none) (m x v:Operand) (hop:o.op=Op.mapUpdate 48 m x v) {b n:Nat} {f:Int->Option Sh} (hS:zd1 w b n f)
 (hm:a.eval m = .map (some b)) (k:Int) (hx:a.eval x = .int .i64 k) (x1 x2:Bool) (x3 x4:Int) (x5 x6:Bool) (hv:a.eval v = .agg #[.bool x1,.bool x2,.int .i64 x3,.int .i64 x4,.bool x5,.bool x6]) (hk:(Lit.int .i64 k).wf=true) (hn:n<maxLen)
 (hK:∀ w',zd1 w' b (n+1) (upd f k ⟨x1,x2,x3,x4,x5,x6⟩)->w.grownBy w' (some b)->wpList Tryz.prog ops Q rest (a.put o.dst undef) w'):wpList Tryz.prog ops Q (o :: rest) a w:=by
 refine wpList_plain hg fun K' hK'=>?_
 obtain ⟨w',hrun,r1,r2⟩:=hS.put hn hk ⟨x1,x2,x3,x4,x5,x6⟩;simp only [Sh.val] at hrun;unfold Oper.wp;simp [execOp,hop,hm,hx,hv,hrun,Result.andThen];exact hK' _ _ (hK w' r1 r2)
def stF:Int->Option Sh:=upd (upd (upd (upd (upd (upd (upd (fun _=>none) 1 ⟨true,false,1,1,false,false⟩) 2 ⟨true,false,2,2,false,false⟩) 3 ⟨true,false,0,3,false,false⟩) 4 ⟨false,false,1,1,true,true⟩) 5 ⟨false,false,1,1,true,false⟩) 6 ⟨false,false,1,1,false,false⟩) 7 ⟨false,false,1,1,false,false⟩
theorem z0v:stF=zje:=by
 funext a
 unfold stF upd zje
 repeat' split
 all_goals first | rfl | omega
def z2v:Int->Option Sh:=upd (upd (upd (upd (upd (upd (fun _=>none) 1 ⟨false,true,0,0,false,false⟩) 2 ⟨false,false,0,0,false,false⟩) 3 ⟨true,false,0,0,false,false⟩) 4 ⟨true,false,1,1,false,false⟩) 5 ⟨true,false,0,3,false,false⟩) 6 ⟨false,false,1,1,false,false⟩
def exF (k:Nat):Int->Option Sh:=fun a=>if 7<=a/\a<7+(k:Int) then some ⟨false,false,2,2,false,false⟩ else z2v a
theorem zws:z2v=exF 0:=by
 funext a
 unfold exF;rw [if_neg (by omega)]
theorem zwt (k:Nat):upd (exF k) (7+(k:Int)) ⟨false,false,2,2,false,false⟩=exF (k+1):=by
 funext a
 simp only [upd,exF]
 by_cases e:a=7+(k:Int)
 . rw [if_pos e,if_pos (by omega)]
 . rw [if_neg e]
   by_cases h:7<=a/\a<7+(k:Int)
   . rw [if_pos h,if_pos (by omega)]
   . rw [if_neg h,if_neg (by omega)]
theorem zy2:exF 9=zhd:=by
 funext a
 unfold exF z2v upd zhd
 repeat' split
 all_goals first | rfl | omega
theorem zk5 (w:World) :
 Calls Tryz.prog 19 #[] w fun e w'=>∃ b,e = .returned (.map (some b))/\zd1 w' b 7 zje/\Below w.heap.size w w':=by
 have hmm:=@run_makeMap Tryz.prog;have hS:=zd1.made w;have hB:Below w.heap.size w (w.alloc (.map #[] 0)):=(Below.refl _ _).alloc (Nat.le_refl _) _;go_enter Tryz.func19,Tryz.ntmps19
 go_wp2_with (refine zn0 rfl _ _ _ rfl hS rfl _ rfl _ _ _ _ _ _ rfl (by decide) (by decide) ?_;clear hS;intro w1 hS hG;replace hB:=hB.grown hG hB.size (fun j hj=>by cases hj;exact Nat.le_refl _);clear hG)
 go_ret;refine ⟨_,rfl,?_,hB⟩;rw [← z0v];exact hS
theorem zk6 (w:World) :
 Calls Tryz.prog 18 #[] w fun e w'=>∃ b,e = .returned (.map (some b))/\zd1 w' b 15 zhd/\Below w.heap.size w w':=by
 have hmm:=@run_makeMap Tryz.prog;have hS:=zd1.made w;have hB:Below w.heap.size w (w.alloc (.map #[] 0)):=(Below.refl _ _).alloc (Nat.le_refl _) _;go_enter Tryz.func18,Tryz.ntmps18
 go_wp2_with (refine zn0 rfl _ _ _ rfl hS rfl _ rfl _ _ _ _ _ _ rfl (by decide) (by decide) ?_;clear hS;intro w1 hS hG;replace hB:=hB.grown hG hB.size (fun j hj=>by cases hj;exact Nat.le_refl _);clear hG)
 have hS0:zd1 w1 w.heap.size 6 (exF 0):=by rw [← zws];exact hS
 clear hS
 go_loopw [2] (fun i wr=>∃ k:Nat,k<=9/\i = .int .i64 (7+(k:Int))/\zd1 wr w.heap.size (6+k) (exF k)/\Below w.heap.size w wr) (fun i _=>16 - (intOf i).toNat)
 case atStart=>exact ⟨0,by omega,rfl,hS0,hB⟩
 case round=>
  clear hS0 hB;obtain ⟨k,hk,rfl,hS,hB⟩:=hrel
  by_cases hlt:k<9
  . go_wp2_with (refine zto rfl _ _ _ rfl hS rfl _ rfl _ _ _ _ _ _ rfl (WalkArith.wf_i64 (by omega)) (by unfold maxLen;omega) ?_;clear hS;intro w2 hS hG;replace hB:=hB.grown hG hB.size (fun j hj=>by cases hj;exact Nat.le_refl _);clear hG)
    rw [zwt] at hS;go_roundw
    case rel=>exact ⟨k+1,by omega,by go_num,hS,hB⟩
    case measure=>simp [intOf];omega
  . obtain rfl:k=9:=by omega
    go_wp2_with fail;go_ret;refine ⟨_,rfl,?_,hB⟩;rw [← zy2];exact hS
end Go.Proofs.YtcekpobmbmnplaaGreatDoor
