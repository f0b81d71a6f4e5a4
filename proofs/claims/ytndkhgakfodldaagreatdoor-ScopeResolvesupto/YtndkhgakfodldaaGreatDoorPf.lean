import Derived.Test.YtndkhgakfodldaaGreatDoorPa
namespace Go.Proofs.YtndkhgakfodldaaGreatDoor
set_option maxRecDepth 100000
set_option maxHeartbeats 3200000
open Go.RowKit
abbrev zcp:Obj:=.cells #[.int .i64 0,.int .i64 0,.string ⟨#[]⟩,.string ⟨#[]⟩,.slice none 0 0] 174 (0,0)
theorem zln {R cap:Nat} {a:OA} {ts l l':List Tk} {w w1:World} {r:Option (Ex × List Tk)} {x:Ex} {a1:OA} {c1:Nat} (h0:Rd R a cap ts w l) (hr:r=some (x,l')) (hk:Keeps R w w1) (hrd:Rd R a cap ts w1 l')
 (hx1:x.mod.size<=maxLen) (hx2:x.name.size<=maxLen) {lo:Nat} (hx:EAt w1 (lo<=·) a1 x.args.length (za9 x.args)) (hlo:w.heap.size<lo) :
 zdy R a cap ts w r (zf5 (w.heap.size<=·)) (.returned (.agg #[.int .i64 x.op,.int .i64 x.n,.string x.mod,.string x.name,.slice a1 x.args.length c1])) (set5 w1 w.heap.size (.int .i64 x.op) (.int .i64 x.n) (.string x.mod) (.string x.name) (.slice a1 x.args.length c1)):=by
 refine ⟨hk.set5 (vaa _) _ _ _ _ _,Or.inr ⟨x,l',_,hr,rfl,⟨a1,c1,rfl,hx1,hx2,?_⟩,hrd.set5 h0 (vaa _) _ _ _ _ _⟩⟩;exact hx.moves (((zae.refl w1 (lo<=·)).set5 (by intro b _ hb;omega) _ _ _ _ _).to (by omega))
theorem zz0 {R cap:Nat} {a:OA} {ts l l':List Tk} {w w1:World} {r:Option (Ex × List Tk)} {op n:Int} {mod name:ByteArray} {y:Ex} {a1:OA} {c1:Nat} (h0:Rd R a cap ts w l) (hr:r=some (.mk op n mod name [y],l')) (hk:Keeps R w w1) (hrd:Rd R a cap ts w1 l')
 (hx1:mod.size<=maxLen) (hx2:name.size<=maxLen) {lo:Nat} (hy1:y.mod.size<=maxLen) (hy2:y.name.size<=maxLen) (hy:EAt w1 (lo<=·) a1 y.args.length (za9 y.args)) (hlo:w.heap.size<lo) (hlo1:lo<=w1.heap.size) :
 zdy R a cap ts w r (zf5 (w.heap.size<=·)) (.returned (.agg #[.int .i64 op,.int .i64 n,.string mod,.string name,.slice (some ⟨w1.heap.size,0,none⟩) 1 1])) ((set5 w1 w.heap.size (.int .i64 op) (.int .i64 n) (.string mod) (.string name) (.slice (some ⟨w1.heap.size,0,none⟩) 1 1)).alloc (.cells #[.int .i64 y.op,.int .i64 y.n,.string y.mod,.string y.name,.slice a1 y.args.length c1] 174)):=by
 refine ⟨(hk.set5 (vaa _) _ _ _ _ _).alloc _,Or.inr ⟨.mk op n mod name [y],l',_,hr,rfl,⟨_,_,rfl,hx1,hx2,?_⟩,(hrd.set5 h0 (vaa _) _ _ _ _ _).alloc _⟩⟩;refine zjp (t:=174) (cap:=c1) hy1 hy2 hy ((((zae.refl w1 (lo<=·)).set5 (b:=w.heap.size) (by intro b _ hb;omega) _ _ _ _ _).alloc _).to (by omega)) ?_ (by omega);have e:=heap_newP (set5 w1 w.heap.size (.int .i64 op) (.int .i64 n) (.string mod) (.string name) (.slice (some ⟨w1.heap.size,0,none⟩) 1 1)) (.cells #[.int .i64 y.op,.int .i64 y.n,.string y.mod,.string y.name,.slice a1 y.args.length c1] 174);simp only [vam] at e;exact e
theorem zvf (R cap:Nat) (a:OA) (ts:List Tk) (f:Nat) (IH:ExC R cap a ts f) (l:List Tk) (w:World) (h:Rd R a cap ts w l) (hf:3*l.length+1<=f+1) :
 Calls Tryz.prog 283 #[.pointer (some ⟨R,0,none⟩)] w (zdy R a cap ts w (zbu (f+1) l) (zf5 (w.heap.size<=·))):=by
 have HI:Hid (ExC R cap a ts f):=IH;have HR:Hid (Rd R a cap ts w l):=h;have hRw:=h.lt;have hf0:=zy1 (hd l).kind (hd l).n (hd l).text;clear IH h;go_enter Tryz.func283,Tryz.ntmps283;go_wp2_with fail;refine (zn6 R cap a ts l _ (HR.out.alloc _)).mono ?_;rintro e w1 ⟨rfl,hb1⟩;have HR1:Hid (Rd R a cap ts w1 l):=(HR.out.alloc _).later hb1;have HK1:Hid (Keeps R w w1):=((Keeps.refl R w).alloc _).later hb1;have HB1:Hid (w1.heap[w.heap.size]? = some zcp):=(hb1.block w.heap.size (by simp)).trans (heap_newP _ _);have hz1:=hb1.size;simp at hz1;clear hb1
 by_cases hk:(hd l).kind=2
 . have HP:Hid (zbu (f+1) l=some (.mk 1 (hd l).n ⟨#[]⟩ ⟨#[]⟩ [],l.tail)):=by show zbu (f+1) l=_;unfold zbu;rw [if_pos hk]
   have HQ:Hid (zkm l=some ((hd l).n,l.tail)):=by show zkm l=_;unfold zkm;rw [if_pos hk]
   have hf0':=zy1 2 (hd l).n (hd l).text;go_wp2_with fail;refine (zgh R cap a ts l w1 HR1.out).mono ?_;rintro e w2 ⟨HK2,⟨hn,rfl⟩ | ⟨n,l2,v,hn,rfl,rfl,HR2⟩⟩
   . rw [HQ.out] at hn;cases hn
   rw [HQ.out] at hn;obtain ⟨rfl,rfl⟩:=vak (vac hn);have HB2:Hid (w2.heap[w.heap.size]? = some zcp):=(HK2.block w.heap.size (by omega) (by omega)).trans HB1.out;obtain ⟨h0,h1,h2,h3,h4,h5⟩:=zac HB2.out;have hz2:=HK2.size
   have hq0:w.heap.size<w2.heap.size:=by omega
   have HF:Hid (zdy R a cap ts w (zbu (f+1) l) (zf5 (w.heap.size<=·)) (.returned (.agg #[.int .i64 1,.int .i64 (hd l).n,.string ⟨#[]⟩,.string ⟨#[]⟩,.slice none 0 0])) (set5 w2 w.heap.size (.int .i64 1) (.int .i64 (hd l).n) (.string ⟨#[]⟩) (.string ⟨#[]⟩) (.slice none 0 0))):=
    zln (x:=.mk 1 (hd l).n ⟨#[]⟩ ⟨#[]⟩ []) HR.out HP.out (HK1.out.trans HK2) HR2 (vad _) (vad _) (lo:=w2.heap.size) (Or.inl rfl) hq0
   clear hn HR2 HK2;go_wp2_with fail;refine bodyPost_ret (v:=.agg #[.int .i64 1,.int .i64 (hd l).n,.string ⟨#[]⟩,.string ⟨#[]⟩,.slice none 0 0]) (by simp [results,Tryz.results283,go_sem,h0,h1,h2,h3,h4]) rfl HF.out
 go_wp2_with fail
 by_cases hs2:skB l tIn=true
 . refine (zbr R cap a ts l tIn w1 (by decide) HR1.out hs2).mono ?_
   rintro e w2 ⟨rfl,HR2,HK2⟩;have HB2:Hid (w2.heap[w.heap.size]? = some zcp):=(HK2.block w.heap.size (by omega) (by omega)).trans HB1.out;obtain ⟨h0,h1,h2,h3,h4,h5⟩:=zac HB2.out;have hz2:=HK2.size
   have hq0:w.heap.size<w2.heap.size:=by omega
   have HF:Hid (zdy R a cap ts w (zbu (f+1) l) (zf5 (w.heap.size<=·)) (.returned (.agg #[.int .i64 2,.int .i64 0,.string ⟨#[]⟩,.string ⟨#[]⟩,.slice none 0 0])) (set5 w2 w.heap.size (.int .i64 2) (.int .i64 0) (.string ⟨#[]⟩) (.string ⟨#[]⟩) (.slice none 0 0))):=
    zln (x:=.mk 2 0 ⟨#[]⟩ ⟨#[]⟩ []) HR.out (by unfold zbu;rw [if_neg hk,if_pos hs2]) (HK1.out.trans HK2) HR2 (vad _) (vad _) (lo:=w2.heap.size) (Or.inl rfl) hq0
   clear HR2 HK2;go_wp2_with fail;refine bodyPost_ret (v:=.agg #[.int .i64 2,.int .i64 0,.string ⟨#[]⟩,.string ⟨#[]⟩,.slice none 0 0]) (by simp [results,Tryz.results283,go_sem,h0,h1,h2,h3,h4]) rfl HF.out
 refine (zb8 R cap a ts l tIn w1 HR1.out (by simpa using hs2)).mono ?_;rintro e w2 ⟨rfl,HR2,HK2⟩;have HR2':Hid (Rd R a cap ts w2 l):=HR2;have HK2':Hid (Keeps R w w2):=HK1.out.trans HK2;have HB2:Hid (w2.heap[w.heap.size]? = some zcp):=(HK2.block w.heap.size (by omega) (by omega)).trans HB1.out;have hz2:=HK2.size;clear HR2 HK2 HR1 HK1 HB1;go_wp2_with fail
 by_cases hs3:skB l z0x=true
 . have hl3:=zam (by decide) hs3
   refine (zbr R cap a ts l z0x w2 (by decide) HR2'.out hs3).mono ?_;rintro e w3 ⟨rfl,HR3,HK3⟩;have hz3:=HK3.size;have HB3:Hid (w3.heap[w.heap.size]? = some zcp):=(HK3.block w.heap.size (by omega) (by omega)).trans HB2.out;go_wp2_with fail;refine (HI.out.expr l.tail w3 HR3 (by omega)).mono ?_;rintro e w4 ⟨HK4,⟨hn,rfl⟩ | ⟨y,l4,v,hn,rfl,⟨a4,c4,rfl,hy1,hy2,hy3⟩,HR4⟩⟩
   . exact ⟨rfl,(HK2'.out.trans HK3).trans HK4,Or.inl ⟨by unfold zbu;rw [if_neg hk,if_neg hs2,if_pos hs3,hn],rfl⟩⟩
   have HB4:Hid (w4.heap[w.heap.size]? = some zcp):=(HK4.block w.heap.size (by omega) (by omega)).trans HB3.out;obtain ⟨h0,h1,h2,h3,h4,h5⟩:=zac HB4.out;have hz4:=HK4.size
   have hq0:w.heap.size<w4.heap.size:=by omega
   have HF:Hid (zdy R a cap ts w (zbu (f+1) l) (zf5 (w.heap.size<=·)) (.returned (.agg #[.int .i64 6,.int .i64 0,.string ⟨#[]⟩,.string ⟨#[]⟩,.slice (some ⟨w4.heap.size,0,none⟩) 1 1])) ((set5 w4 w.heap.size (.int .i64 6) (.int .i64 0) (.string ⟨#[]⟩) (.string ⟨#[]⟩) (.slice (some ⟨w4.heap.size,0,none⟩) 1 1)).alloc (.cells #[.int .i64 y.op,.int .i64 y.n,.string y.mod,.string y.name,.slice a4 y.args.length c4] 174))):=
    zz0 HR.out (by unfold zbu;rw [if_neg hk,if_neg hs2,if_pos hs3,hn]) ((HK2'.out.trans HK3).trans HK4) HR4 (vad _) (vad _) hy1 hy2 hy3 (by omega) hz4
   clear hn HR3 HR4 HK3 HK4 hy1 hy2 hy3;go_wp2_with fail;refine bodyPost_ret (v:=.agg #[.int .i64 6,.int .i64 0,.string ⟨#[]⟩,.string ⟨#[]⟩,.slice (some ⟨w4.heap.size,0,none⟩) 1 1]) (by simp [results,Tryz.results283,go_sem,h0,h1,h2,h3,h4,hq0]) rfl HF.out
 refine (zb8 R cap a ts l z0x w2 HR2'.out (by simpa using hs3)).mono ?_;rintro e w3 ⟨rfl,HR3,HK3⟩;have HR3':Hid (Rd R a cap ts w3 l):=HR3;have HK3':Hid (Keeps R w w3):=HK2'.out.trans HK3;have HB3:Hid (w3.heap[w.heap.size]? = some zcp):=(HK3.block w.heap.size (by omega) (by omega)).trans HB2.out;have hz3:=HK3.size;clear HR3 HK3 HR2' HK2' HB2;go_wp2_with fail
 by_cases hs4:skB l tLp=true
 . have hl4:=zam (by decide) hs4
   refine (zbr R cap a ts l tLp w3 (by decide) HR3'.out hs4).mono ?_;rintro e w4 ⟨rfl,HR4,HK4⟩;have hz4:=HK4.size;have HB4:Hid (w4.heap[w.heap.size]? = some zcp):=(HK4.block w.heap.size (by omega) (by omega)).trans HB3.out;go_wp2_with fail;refine (HI.out.pair l.tail w4 HR4 (by omega)).mono ?_;rintro e w5 ⟨HK5,⟨hn,rfl⟩ | ⟨y,l5,v,hn,rfl,⟨a5,c5,rfl,hy1,hy2,hy3⟩,HR5⟩⟩
   . exact ⟨rfl,(HK3'.out.trans HK4).trans HK5,Or.inl ⟨by unfold zbu;rw [if_neg hk,if_neg hs2,if_neg hs3,if_pos hs4,hn],rfl⟩⟩
   have HB5:Hid (w5.heap[w.heap.size]? = some zcp):=(HK5.block w.heap.size (by omega) (by omega)).trans HB4.out;obtain ⟨h0,h1,h2,h3,h4,h5⟩:=zac HB5.out;have hz5:=HK5.size
   have HF:Hid (zdy R a cap ts w (zbu (f+1) l) (zf5 (w.heap.size<=·)) (.returned (.agg #[.int .i64 y.op,.int .i64 y.n,.string y.mod,.string y.name,.slice a5 y.args.length c5])) (set5 w5 w.heap.size (.int .i64 y.op) (.int .i64 y.n) (.string y.mod) (.string y.name) (.slice a5 y.args.length c5))):=
    zln (x:=y) HR.out (by unfold zbu;rw [if_neg hk,if_neg hs2,if_neg hs3,if_pos hs4,hn]) ((HK3'.out.trans HK4).trans HK5) HR5 hy1 hy2 (lo:=w4.heap.size) hy3 (by omega)
   clear hn HR4 HR5 HK4 HK5 hy1 hy2 hy3;go_wp2_with fail;refine bodyPost_ret (v:=.agg #[.int .i64 y.op,.int .i64 y.n,.string y.mod,.string y.name,.slice a5 y.args.length c5]) (by simp [results,Tryz.results283,go_sem,h0,h1,h2,h3,h4]) rfl HF.out
 refine (zb8 R cap a ts l tLp w3 HR3'.out (by simpa using hs4)).mono ?_;rintro e w4 ⟨rfl,HR4,HK4⟩;have HR4':Hid (Rd R a cap ts w4 l):=HR4;have HK4':Hid (Keeps R w w4):=HK3'.out.trans HK4;have HB4:Hid (w4.heap[w.heap.size]? = some zcp):=(HK4.block w.heap.size (by omega) (by omega)).trans HB3.out;have hz4:=HK4.size
 have HPX:Hid (zbu (f+1) l=match ztn l with
  | none=>none
  | some ((m,n),l1)=>
    if skB l1 tLs then (match zbu f l1.tail with | none=>none | some (x,l2)=>if skB l2 tRs then some (.mk 4 0 m n [x],l2.tail) else none)
    else if skB l1 tLp then (match zeb f l1.tail with | none=>none | some (xs,l2)=>some (.mk 5 0 m n xs,l2))
    else some (.mk 3 0 m n [],l1)):=by
  show zbu (f+1) l=_
  conv=>lhs;unfold zbu
  rw [if_neg hk,if_neg hs2,if_neg hs3,if_neg hs4]
  rfl
 clear HR4 HK4 HR3' HK3' HB3 hk hs2 hs3 hs4;go_wp2_with fail;refine (zu9 R cap a ts l _ (HR4'.out.alloc _)).mono ?_;rintro e w5 ⟨HK5,⟨hn,rfl⟩ | ⟨⟨m,n⟩,l5,v,hn,rfl,⟨rfl,hm,hnn⟩,HR5⟩⟩
 . exact ⟨rfl,(HK4'.out.alloc _).trans HK5,Or.inl ⟨by rw [HPX.out,hn],rfl⟩⟩
 have hl5:=zo4 hn
 have HPY:Hid (zbu (f+1) l=if skB l5 tLs then (match zbu f l5.tail with | none=>none | some (x,l2)=>if skB l2 tRs then some (.mk 4 0 m n [x],l2.tail) else none)
  else if skB l5 tLp then (match zeb f l5.tail with | none=>none | some (xs,l2)=>some (.mk 5 0 m n xs,l2))
  else some (.mk 3 0 m n [],l5)):=by
  show zbu (f+1) l=_;rw [HPX.out,hn]
 have HR5':Hid (Rd R a cap ts w5 l5):=HR5;have HK5':Hid (Keeps R w w5):=(HK4'.out.alloc _).trans HK5;have HB5:Hid (w5.heap[w.heap.size]? = some zcp):=(HK5.block w.heap.size (by simp;omega) (by omega)).trans (zad HB4.out);have HC5:Hid (w5.heap[w4.heap.size]? = some (.cells #[.int .i64 3,.int .i64 0,.string ⟨#[]⟩,.string ⟨#[]⟩,.slice none 0 0] 174 (0,0))):=(HK5.block w4.heap.size (by simp) (by omega)).trans (heap_newP _ _);have hz5:=HK5.size;simp at hz5;obtain ⟨h0,h1,h2,h3,h4,h5⟩:=zac HC5.out;clear hn HR5 HK5 HPX HR4' HB4 HK4';have HR6:Hid (Rd R a cap ts ((w5.setCell ⟨w4.heap.size,2,none⟩ (.string m)).setCell ⟨w4.heap.size,3,none⟩ (.string n)) l5):=(HR5'.out.setAbove HR.out (by show _<=w4.heap.size;omega) _).setAbove HR.out (by show _<=w4.heap.size;omega) _;have HK6:Hid (Keeps R w ((w5.setCell ⟨w4.heap.size,2,none⟩ (.string m)).setCell ⟨w4.heap.size,3,none⟩ (.string n))):=(HK5'.out.set (by show _<=w4.heap.size;omega) _).set (by show _<=w4.heap.size;omega) _
 have HB6:Hid (((w5.setCell ⟨w4.heap.size,2,none⟩ (.string m)).setCell ⟨w4.heap.size,3,none⟩ (.string n)).heap[w.heap.size]? = some zcp):=(heap_set_ne (by show w.heap.size≠w4.heap.size;omega) _).trans ((heap_set_ne (by show w.heap.size≠w4.heap.size;omega) _).trans HB5.out);have HC6:Hid (((w5.setCell ⟨w4.heap.size,2,none⟩ (.string m)).setCell ⟨w4.heap.size,3,none⟩ (.string n)).heap[w4.heap.size]? = some (.cells #[.int .i64 3,.int .i64 0,.string m,.string n,.slice none 0 0] 174 (0,0))):=zaf (zaf HC5.out _) _
 have hz6:((w5.setCell ⟨w4.heap.size,2,none⟩ (.string m)).setCell ⟨w4.heap.size,3,none⟩ (.string n)).heap.size=w5.heap.size:=by simp only [vam]
 clear HR5' HK5' HB5;go_wp2_with fail;generalize (w5.setCell ⟨w4.heap.size,2,none⟩ (.string m)).setCell ⟨w4.heap.size,3,none⟩ (.string n)=w6 at *;clear h0 h1 h2 h3 h4 h5 HC5
 by_cases hs7:skB l5 tLs=true
 . have hl7:=zam (by decide) hs7
   refine (zbr R cap a ts l5 tLs w6 (by decide) HR6.out hs7).mono ?_;rintro e w7 ⟨rfl,HR7,HK7⟩;have hz7:=HK7.size;have HB7:Hid (w7.heap[w.heap.size]? = some zcp):=(HK7.block w.heap.size (by omega) (by omega)).trans HB6.out;have HC7:Hid (w7.heap[w4.heap.size]? = some (.cells #[.int .i64 3,.int .i64 0,.string m,.string n,.slice none 0 0] 174 (0,0))):=(HK7.block w4.heap.size (by omega) (by omega)).trans HC6.out;obtain ⟨h0,h1,h2,h3,h4,h5⟩:=zac HC7.out;have HR8:Hid (Rd R a cap ts (w7.setCell ⟨w4.heap.size,0,none⟩ (.int .i64 4)) l5.tail):=HR7.setAbove HR.out (by show _<=w4.heap.size;omega) _;have HK8:Hid (Keeps R w (w7.setCell ⟨w4.heap.size,0,none⟩ (.int .i64 4))):=(HK6.out.trans HK7).set (by show _<=w4.heap.size;omega) _;have HB8:Hid ((w7.setCell ⟨w4.heap.size,0,none⟩ (.int .i64 4)).heap[w.heap.size]? = some zcp):=(heap_set_ne (by show w.heap.size≠w4.heap.size;omega) _).trans HB7.out
   have HC8:Hid ((w7.setCell ⟨w4.heap.size,0,none⟩ (.int .i64 4)).heap[w4.heap.size]? = some (.cells #[.int .i64 4,.int .i64 0,.string m,.string n,.slice none 0 0] 174 (0,0))):=zaf HC7.out _
   have hz8:(w7.setCell ⟨w4.heap.size,0,none⟩ (.int .i64 4)).heap.size=w7.heap.size:=by simp only [vam]
   clear HR7 HK7 HB7 HR6 HK6 HB6 HC6;go_wp2_with fail;generalize w7.setCell ⟨w4.heap.size,0,none⟩ (.int .i64 4)=w8 at *;clear h0 h1 h2 h3 h4 h5 HC7;refine (HI.out.expr l5.tail w8 HR8.out (by omega)).mono ?_;rintro e w9 ⟨HK9,⟨hn,rfl⟩ | ⟨y,l9,v,hn,rfl,⟨a9,c9,rfl,hy1,hy2,hy3⟩,HR9⟩⟩
   . exact ⟨rfl,HK8.out.trans HK9,Or.inl ⟨by rw [HPY.out,if_pos hs7,hn],rfl⟩⟩
   have hz9:=HK9.size;have HB9:Hid (w9.heap[w.heap.size]? = some zcp):=(HK9.block w.heap.size (by omega) (by omega)).trans HB8.out;have HC9:Hid (w9.heap[w4.heap.size]? = some (.cells #[.int .i64 4,.int .i64 0,.string m,.string n,.slice none 0 0] 174 (0,0))):=(HK9.block w4.heap.size (by omega) (by omega)).trans HC8.out;obtain ⟨h0,h1,h2,h3,h4,h5⟩:=zac HC9.out
   have hq4:w4.heap.size<w9.heap.size:=by omega
   have HN9:Hid (zbu f l5.tail=some (y,l9)):=hn
   have HY9:Hid (y.mod.size<=maxLen/\y.name.size<=maxLen/\EAt w9 (w8.heap.size<=·) a9 y.args.length (za9 y.args)):=⟨hy1,hy2,hy3⟩
   have HR9':Hid (Rd R a cap ts w9 l9):=HR9;have HK9':Hid (Keeps R w w9):=HK8.out.trans HK9;clear hn HR9 HK9 hy1 hy2 hy3 HB8 HC8 HR8 HK8;go_wp2_with fail;refine (ze3 R cap _ a ts l9 tRs _ (by simp) ((HR9'.out.setAbove HR.out (by show _<=w4.heap.size;omega) _).alloc _) (by decide)).mono ?_;rintro e w10 ⟨HK10,⟨hs5,rfl⟩ | ⟨hs5,rfl,HR10⟩⟩
   . exact ⟨rfl,((HK9'.out.set (by show _<=w4.heap.size;omega) _).alloc _).trans HK10,Or.inl ⟨by rw [HPY.out,if_pos hs7,HN9.out];simp [hs5],rfl⟩⟩
   have HP:Hid (zbu (f+1) l=some (.mk 4 0 m n [y],l9.tail)):=by show zbu (f+1) l=_;rw [HPY.out,if_pos hs7,HN9.out];simp [hs5]
   have hz10:=HK10.size;simp at hz10;have HB10:Hid (w10.heap[w.heap.size]? = some zcp):=(HK10.block w.heap.size (by simp;omega) (by omega)).trans (zad ((heap_set_ne (by show w.heap.size≠w4.heap.size;omega) _).trans HB9.out));have HC10:Hid (w10.heap[w4.heap.size]? = some (.cells #[.int .i64 4,.int .i64 0,.string m,.string n,.slice (some ⟨w9.heap.size,0,none⟩) 1 1] 174 (0,0))):=(HK10.block w4.heap.size (by simp;omega) (by omega)).trans (zad (zaf HC9.out _))
   have HD10:Hid (w10.heap[w9.heap.size]? = some (.cells #[.int .i64 y.op,.int .i64 y.n,.string y.mod,.string y.name,.slice a9 y.args.length c9] 174 (0,0))):=(HK10.block w9.heap.size (by simp) (by omega)).trans (by
    have e:=heap_newP (w9.setCell ⟨w4.heap.size,4,none⟩ (.slice (some ⟨w9.heap.size,0,none⟩) 1 1)) (.cells #[.int .i64 y.op,.int .i64 y.n,.string y.mod,.string y.name,.slice a9 y.args.length c9] 174);simp only [vam] at e
    exact e)
   have HM10:zae w9 (w8.heap.size<=·) w10 (w8.heap.size<=·):=(((zae.refl w9 _).set (by intro b _ hb;show b≠w4.heap.size;omega) _).alloc _).keeps HK10 (by intro b _ hb;omega)
   have HF:Hid (zdy R a cap ts w (zbu (f+1) l) (zf5 (w.heap.size<=·)) (.returned (.agg #[.int .i64 4,.int .i64 0,.string m,.string n,.slice (some ⟨w9.heap.size,0,none⟩) 1 1])) (set5 w10 w.heap.size (.int .i64 4) (.int .i64 0) (.string m) (.string n) (.slice (some ⟨w9.heap.size,0,none⟩) 1 1))):=
    zln (x:=.mk 4 0 m n [y]) HR.out HP.out (((HK9'.out.set (by show _<=w4.heap.size;omega) _).alloc _).trans HK10) HR10 hm hnn (lo:=w8.heap.size) (zjp HY9.out.1 HY9.out.2.1 HY9.out.2.2 HM10 HD10.out (by omega)) (by omega)
   obtain ⟨h0,h1,h2,h3,h4,h5⟩:=zac HB10.out;obtain ⟨g0,g1,g2,g3,g4,g5⟩:=zac HC10.out;clear HK10 HR10 HM10;go_wp2_with fail;refine bodyPost_ret (v:=.agg #[.int .i64 4,.int .i64 0,.string m,.string n,.slice (some ⟨w9.heap.size,0,none⟩) 1 1]) (by simp [results,Tryz.results283,go_sem,h0,h1,h2,h3,h4]) rfl HF.out
 refine (zb8 R cap a ts l5 tLs w6 HR6.out (by simpa using hs7)).mono ?_;rintro e w7 ⟨rfl,HR7,HK7⟩;have hz7:=HK7.size;have HR7':Hid (Rd R a cap ts w7 l5):=HR7;have HK7':Hid (Keeps R w w7):=HK6.out.trans HK7;have HB7:Hid (w7.heap[w.heap.size]? = some zcp):=(HK7.block w.heap.size (by omega) (by omega)).trans HB6.out;have HC7:Hid (w7.heap[w4.heap.size]? = some (.cells #[.int .i64 3,.int .i64 0,.string m,.string n,.slice none 0 0] 174 (0,0))):=(HK7.block w4.heap.size (by omega) (by omega)).trans HC6.out;clear HR7 HK7 HR6 HK6 HB6 HC6;go_wp2_with fail
 by_cases hs8:skB l5 tLp=true
 . have hl8:=zam (by decide) hs8
   refine (zbr R cap a ts l5 tLp w7 (by decide) HR7'.out hs8).mono ?_;rintro e w8 ⟨rfl,HR8,HK8⟩;have hz8:=HK8.size;have HB8:Hid (w8.heap[w.heap.size]? = some zcp):=(HK8.block w.heap.size (by omega) (by omega)).trans HB7.out;have HC8:Hid (w8.heap[w4.heap.size]? = some (.cells #[.int .i64 3,.int .i64 0,.string m,.string n,.slice none 0 0] 174 (0,0))):=(HK8.block w4.heap.size (by omega) (by omega)).trans HC7.out;obtain ⟨h0,h1,h2,h3,h4,h5⟩:=zac HC8.out;have HR9:Hid (Rd R a cap ts (w8.setCell ⟨w4.heap.size,0,none⟩ (.int .i64 5)) l5.tail):=HR8.setAbove HR.out (by show _<=w4.heap.size;omega) _;have HK9:Hid (Keeps R w (w8.setCell ⟨w4.heap.size,0,none⟩ (.int .i64 5))):=(HK7'.out.trans HK8).set (by show _<=w4.heap.size;omega) _;have HB9:Hid ((w8.setCell ⟨w4.heap.size,0,none⟩ (.int .i64 5)).heap[w.heap.size]? = some zcp):=(heap_set_ne (by show w.heap.size≠w4.heap.size;omega) _).trans HB8.out
   have HC9:Hid ((w8.setCell ⟨w4.heap.size,0,none⟩ (.int .i64 5)).heap[w4.heap.size]? = some (.cells #[.int .i64 5,.int .i64 0,.string m,.string n,.slice none 0 0] 174 (0,0))):=zaf HC8.out _
   have hz9:(w8.setCell ⟨w4.heap.size,0,none⟩ (.int .i64 5)).heap.size=w8.heap.size:=by simp only [vam]
   clear HR8 HK8 HB8 HR7' HK7' HB7 HC7;go_wp2_with fail;generalize w8.setCell ⟨w4.heap.size,0,none⟩ (.int .i64 5)=w9 at *;clear h0 h1 h2 h3 h4 h5 HC8;refine (HI.out.args l5.tail w9 HR9.out (by omega)).mono ?_;rintro e w10 ⟨HK10,⟨hn,rfl⟩ | ⟨xs,l10,v,hn,rfl,⟨a10,c10,rfl,hx10⟩,HR10⟩⟩
   . exact ⟨rfl,HK9.out.trans HK10,Or.inl ⟨by rw [HPY.out,if_neg hs7,if_pos hs8,hn],rfl⟩⟩
   have hz10:=HK10.size
   have HP:Hid (zbu (f+1) l=some (.mk 5 0 m n xs,l10)):=by show zbu (f+1) l=_;rw [HPY.out,if_neg hs7,if_pos hs8,hn]
   have HB10:Hid (w10.heap[w.heap.size]? = some zcp):=(HK10.block w.heap.size (by omega) (by omega)).trans HB9.out;have HC10:Hid (w10.heap[w4.heap.size]? = some (.cells #[.int .i64 5,.int .i64 0,.string m,.string n,.slice none 0 0] 174 (0,0))):=(HK10.block w4.heap.size (by omega) (by omega)).trans HC9.out
   have HF:Hid (zdy R a cap ts w (zbu (f+1) l) (zf5 (w.heap.size<=·)) (.returned (.agg #[.int .i64 5,.int .i64 0,.string m,.string n,.slice a10 xs.length c10])) (set5 (w10.setCell ⟨w4.heap.size,4,none⟩ (.slice a10 xs.length c10)) w.heap.size (.int .i64 5) (.int .i64 0) (.string m) (.string n) (.slice a10 xs.length c10))):=
    zln (x:=.mk 5 0 m n xs) HR.out HP.out ((HK9.out.trans HK10).set (by show _<=w4.heap.size;omega) _) (HR10.setAbove HR.out (by show _<=w4.heap.size;omega) _) hm hnn (lo:=w9.heap.size) (hx10.moves ((zae.refl w10 _).set (by intro b _ hb;show b≠w4.heap.size;omega) _)) (by omega)
   obtain ⟨h0,h1,h2,h3,h4,h5⟩:=zac HB10.out;obtain ⟨g0,g1,g2,g3,g4,g5⟩:=zac HC10.out
   have hne:w.heap.size≠w4.heap.size:=by omega
   clear HK10 HR10 hn;go_wp2_with fail;refine bodyPost_ret (v:=.agg #[.int .i64 5,.int .i64 0,.string m,.string n,.slice a10 xs.length c10]) (by simp [results,Tryz.results283,go_sem,h0,h1,h2,h3,h4]) rfl HF.out
 refine (zb8 R cap a ts l5 tLp w7 HR7'.out (by simpa using hs8)).mono ?_;rintro e w8 ⟨rfl,HR8,HK8⟩;have hz8:=HK8.size;have HB8:Hid (w8.heap[w.heap.size]? = some zcp):=(HK8.block w.heap.size (by omega) (by omega)).trans HB7.out;have HC8:Hid (w8.heap[w4.heap.size]? = some (.cells #[.int .i64 3,.int .i64 0,.string m,.string n,.slice none 0 0] 174 (0,0))):=(HK8.block w4.heap.size (by omega) (by omega)).trans HC7.out
 have HF:Hid (zdy R a cap ts w (zbu (f+1) l) (zf5 (w.heap.size<=·)) (.returned (.agg #[.int .i64 3,.int .i64 0,.string m,.string n,.slice none 0 0])) (set5 w8 w.heap.size (.int .i64 3) (.int .i64 0) (.string m) (.string n) (.slice none 0 0))):=
  zln (x:=.mk 3 0 m n []) HR.out (by rw [HPY.out,if_neg hs7,if_neg hs8]) (HK7'.out.trans HK8) HR8 hm hnn (lo:=w8.heap.size) (Or.inl rfl) (by omega)
 obtain ⟨h0,h1,h2,h3,h4,h5⟩:=zac HB8.out;obtain ⟨g0,g1,g2,g3,g4,g5⟩:=zac HC8.out;clear HK8 HR8;go_wp2_with fail;refine bodyPost_ret (v:=.agg #[.int .i64 3,.int .i64 0,.string m,.string n,.slice none 0 0]) (by simp [results,Tryz.results283,go_sem,h0,h1,h2,h3,h4]) rfl HF.out
theorem zy2 (R cap:Nat) (a:OA) (ts:List Tk):∀ f,ExC R cap a ts f:=by
 intro f
 induction f using Nat.strongRecOn with
 | ind f ih=>
   cases f with
   | zero=>exact ⟨fun _ _ _ h=>by omega,fun _ _ _ h=>by omega,fun _ _ _ h=>by omega⟩
   | succ f=>
     exact ⟨fun l w h hf=>zvf R cap a ts f (ih f (by omega)) l w h hf,fun l w h hf=>zvd R cap a ts f (ih f (by omega)) l w h hf,fun l w h hf=>zve R cap a ts f (fun g hg=>ih g (by omega)) l w h hf⟩
theorem zeg (R cap:Nat) (a:OA) (ts l:List Tk) (w:World) (h:Rd R a cap ts w l) :
 Calls Tryz.prog 283 #[.pointer (some ⟨R,0,none⟩)] w (zdy R a cap ts w (pX l) (zf5 (w.heap.size<=·))):=(zy2 R cap a ts _).expr l w h (by omega)
theorem zxm (R cap:Nat) (a:OA) (ts l:List Tk) (w:World) (h:Rd R a cap ts w l) :
 Calls Tryz.prog 295 #[.pointer (some ⟨R,0,none⟩)] w (zdy R a cap ts w (pAs l) (z2e (w.heap.size<=·))):=(zy2 R cap a ts _).args l w h (by omega)
end Go.Proofs.YtndkhgakfodldaaGreatDoor

namespace Go.Proofs.YtndkhgakfodldaaGreatDoor
set_option maxRecDepth 100000
set_option maxHeartbeats 3200000
open Go.RowKit Go.Shelf
section
variable {P:Program} {ops:Array Oper} {o:Oper} {a:Act} {w:World} {K:Act->World->Prop} {Q:Exit->Act->World->Prop} {E:Prop}
theorem zlo (f:FuncId) (x:Operand) (ty:TypeId) (ho:o.op = .call { callee:=.value (.func f),args:=#[x],argTypes:=#[ty] })
 (hen:Enters P f) (v:Value) (hx:a.eval x=v):(execOp a.eval o).run P w = .ok (.enter f #[v]) w:=by
 have h:=hen #[v] w;have hf:a.eval (.func f) = .func (.func f) #[] #[]:=rfl;simp [execOp,ho,resolve,invoke,hx,hf,h,Deferred.ofValue]
theorem zdl (hgd:o.guard=none) (f:FuncId) (x:Operand) (ty:TypeId) (ho:o.op = .call { callee:=.value (.func f),args:=#[x],argTypes:=#[ty] })
 (hen:Enters P f) (v:Value) (hx:a.eval x=v) {R:Value->World->Prop} (hC:Calls P f #[v] w fun e w'=>∃ u,e = .returned u/\R u w')
 (h:∀ u w',R u w'->K (a.put o.dst u) w'):if Region.wanted o (yielded ops a.tmps)=true then Oper.wp P o a w K Q else E:=by
 have hw:Region.wanted o (yielded ops a.tmps)=true:=by simp [Region.wanted,hgd]
 rw [if_pos hw];unfold Oper.wp;rw [zlo f x ty ho hen v hx,vdk];refine hC.mono ?_;rintro e w' ⟨u,rfl,hR⟩;exact h u w' hR
theorem zbi (hgd:o.guard=none) (f:FuncId) (x:Operand) (ty:TypeId) (ho:o.op = .call { callee:=.value (.func f),args:=#[x],argTypes:=#[ty] })
 (hen:Enters P f) (v:Value) (hx:a.eval x=v) (c:List PanicEntry) {R:World->Prop} (hC:Calls P f #[v] w fun e w'=>e = .panicked c/\R w')
 (h:∀ w',R w'->Q (.panic c) a w'):if Region.wanted o (yielded ops a.tmps)=true then Oper.wp P o a w K Q else E:=by
 have hw:Region.wanted o (yielded ops a.tmps)=true:=by simp [Region.wanted,hgd]
 rw [if_pos hw];unfold Oper.wp;rw [zlo f x ty ho hen v hx,vdk];refine hC.mono ?_;rintro e w' ⟨rfl,hR⟩;exact h w' hR
end
def zfj (A:Nat->Prop) (s:St) (w:World) (v:Value):Prop:=∃ a1 c1 a2 c2 a3 c3,v = .agg #[.int .i64 s.op,.string s.mod,.string s.name,.slice a1 s.args.length c1,.slice a2 s.body.length c2,.slice a3 s.other.length c3]/\s.mod.size<=maxLen/\s.name.size<=maxLen/\
 EAt w A a1 s.args.length (za9 s.args)/\EAt w A a2 s.body.length (za2 s.body)/\EAt w A a3 s.other.length (za2 s.other)
def z2f (A:Nat->Prop) (xs:List St) (w:World) (v:Value):Prop:=∃ a cap,v = .slice a xs.length cap/\EAt w A a xs.length (za2 xs)
def zvg (s:St) (a1:OA) (c1:Nat) (a2:OA) (c2:Nat) (a3:OA) (c3:Nat):List Value:=[.int .i64 s.op,.string s.mod,.string s.name,.slice a1 s.args.length c1,.slice a2 s.body.length c2,.slice a3 s.other.length c3]
theorem zxn {A:Nat->Prop} {s:St} {w:World} {a1 a2 a3:OA} {c1 c2 c3:Nat} (h1:s.mod.size<=maxLen) (h2:s.name.size<=maxLen) (h3:EAt w A a1 s.args.length (za9 s.args)) (h4:EAt w A a2 s.body.length (za2 s.body)) (h5:EAt w A a3 s.other.length (za2 s.other)):zap w A s.ds (zvg s a1 c1 a2 c2 a3 c3):=by
 cases s
 unfold St.ds;exact .cons zni (.cons (zs5 h1) (.cons (zs5 h2) (.cons h3.val (.cons h4.val (.cons h5.val .nil)))))
abbrev za4:Obj:=.cells #[.int .i64 0,.string ⟨#[]⟩,.string ⟨#[]⟩,.slice none 0 0,.slice none 0 0,.slice none 0 0] 176 (0,0)
theorem st_end {R cap:Nat} {a:OA} {ts l l':List Tk} {w w1:World} {r:Option (St × List Tk)} {s:St} {a1 a2 a3:OA} {c1 c2 c3:Nat} (h0:Rd R a cap ts w l) (hr:r=some (s,l')) (hk:Keeps R w w1) (hrd:Rd R a cap ts w1 l')
 (hx1:s.mod.size<=maxLen) (hx2:s.name.size<=maxLen) {lo:Nat} (h1:EAt w1 (lo<=·) a1 s.args.length (za9 s.args)) (h2:EAt w1 (lo<=·) a2 s.body.length (za2 s.body)) (h3:EAt w1 (lo<=·) a3 s.other.length (za2 s.other)) (hlo:w.heap.size<lo) :
 zdy R a cap ts w r (zfj (w.heap.size<=·)) (.returned (.agg #[.int .i64 s.op,.string s.mod,.string s.name,.slice a1 s.args.length c1,.slice a2 s.body.length c2,.slice a3 s.other.length c3])) (set6 w1 w.heap.size (.int .i64 s.op) (.string s.mod) (.string s.name) (.slice a1 s.args.length c1) (.slice a2 s.body.length c2) (.slice a3 s.other.length c3)):=by
 have hm:zae w1 (lo<=·) (set6 w1 w.heap.size (.int .i64 s.op) (.string s.mod) (.string s.name) (.slice a1 s.args.length c1) (.slice a2 s.body.length c2) (.slice a3 s.other.length c3)) (w.heap.size<=·):=((zae.refl w1 (lo<=·)).set6 (by intro b _ hb;omega) _ _ _ _ _ _).to (by omega);exact ⟨hk.set6 (vaa _) _ _ _ _ _ _,Or.inr ⟨s,l',_,hr,rfl,⟨a1,c1,a2,c2,a3,c3,rfl,hx1,hx2,h1.moves hm,h2.moves hm,h3.moves hm⟩,hrd.set6 h0 (vaa _) _ _ _ _ _ _⟩⟩
theorem zjq (R cap:Nat) (a:OA) (ts l:List Tk) (w:World) (h:Rd R a cap ts w l) (op:Int) (mod name:ByteArray) (a1 a2 a3:OA) (n1 n2 n3 c1 c2 c3:Nat) :
 Calls Tryz.prog 284 #[.pointer (some ⟨R,0,none⟩),.agg #[.int .i64 op,.string mod,.string name,.slice a1 n1 c1,.slice a2 n2 c2,.slice a3 n3 c3]] w fun e w'=>Keeps R w w'/\
  ((skB l zgy=false/\e = .panicked zak)\/(skB l zgy=true/\e = .returned (.agg #[.int .i64 op,.string mod,.string name,.slice a1 n1 c1,.slice a2 n2 c2,.slice a3 n3 c3])/\Rd R a cap ts w' l.tail)):=by
 have HR:Hid (Rd R a cap ts w l):=h;have hRw:=h.lt;clear h;go_enter Tryz.func284,Tryz.ntmps284;go_wp2_with fail;refine (ze3 R cap _ a ts l zgy _ (by simp) ((HR.out.alloc _).alloc _) (by decide)).mono ?_;rintro e w1 ⟨HK1,⟨hs,rfl⟩ | ⟨hs,rfl,HR1⟩⟩
 . exact ⟨rfl,(((Keeps.refl R w).alloc _).alloc _).trans HK1,Or.inl ⟨hs,rfl⟩⟩
 have hz1:=HK1.size;simp at hz1;have HB1:Hid (w1.heap[w.heap.size]? = some (.cells #[.int .i64 op,.string mod,.string name,.slice a1 n1 c1,.slice a2 n2 c2,.slice a3 n3 c3] 176 (0,0))):=(HK1.block w.heap.size (by simp;omega) (by omega)).trans (zad (heap_newP _ _));have HC1:Hid (w1.heap[w.heap.size+1]? = some za4):=(HK1.block (w.heap.size+1) (by simp) (by omega)).trans (by have e:=heap_newP (w.alloc (.cells #[.int .i64 op,.string mod,.string name,.slice a1 n1 c1,.slice a2 n2 c2,.slice a3 n3 c3] 176)) za4;simpa using e);have HK1':Hid (Keeps R w w1):=(((Keeps.refl R w).alloc _).alloc _).trans HK1;have HR1':Hid (Rd R a cap ts w1 l.tail):=HR1;obtain ⟨f0,f1,f2,f3,f4,f5,f6⟩:=zao HB1.out;obtain ⟨g0,g1,g2,g3,g4,g5,g6⟩:=zao HC1.out;clear HK1 HR1;go_wp2_with fail;refine bodyPost_ret (v:=.agg #[.int .i64 op,.string mod,.string name,.slice a1 n1 c1,.slice a2 n2 c2,.slice a3 n3 c3]) (by simp [results,Tryz.results284,go_sem,g0,g1,g2,g3,g4,g5]) rfl ⟨HK1'.out.set6 (by omega) _ _ _ _ _ _,Or.inr ⟨hs,rfl,HR1'.out.set6 HR.out (by omega) _ _ _ _ _ _⟩⟩
theorem zlp {R cap:Nat} {a:OA} {ts l':List Tk} {w w':World} {r:Option (St × List Tk)} {s:St} {a1 a2 a3:OA} {c1 c2 c3:Nat} (hr:r=some (s,l')) (hk:Keeps R w w') (hrd:Rd R a cap ts w' l')
 (hx1:s.mod.size<=maxLen) (hx2:s.name.size<=maxLen) (h1:EAt w' (w.heap.size<=·) a1 s.args.length (za9 s.args)) (h2:EAt w' (w.heap.size<=·) a2 s.body.length (za2 s.body)) (h3:EAt w' (w.heap.size<=·) a3 s.other.length (za2 s.other)) :
 zdy R a cap ts w r (zfj (w.heap.size<=·)) (.returned (.agg #[.int .i64 s.op,.string s.mod,.string s.name,.slice a1 s.args.length c1,.slice a2 s.body.length c2,.slice a3 s.other.length c3])) w':=
 ⟨hk,Or.inr ⟨s,l',_,hr,rfl,⟨a1,c1,a2,c2,a3,c3,rfl,hx1,hx2,h1,h2,h3⟩,hrd⟩⟩
theorem z1c (l:List Tk) (t u v:ByteArray):zio l [t,u,v]=if skB l t then some t else if skB l u then some u else if skB l v then some v else none:=by
 unfold zio;rw [vcm,vcm,vcm];cases skB l t<;>cases skB l u<;>cases skB l v<;>rfl
theorem z1d (R cap n:Nat) (a:OA) (ts l:List Tk) (t u v:ByteArray) (w:World) (hn:n=w.heap.size) (h:Rd R a cap ts w l) (ht:0<t.size) (hu:0<u.size) (hv:0<v.size) :
 Calls Tryz.prog 195 #[.pointer (some ⟨R,0,none⟩),.slice (some ⟨n,0,none⟩) 3 3] (w.alloc (.cells #[.string t,.string u,.string v] 9)) fun e w'=>Keeps R w w'/\((skB l t=false/\skB l u=false/\skB l v=false/\e = .panicked zak)\/(skB l t=true/\e = .returned (.string t)/\Rd R a cap ts w' l.tail)\/(skB l t=false/\skB l u=true/\e = .returned (.string u)/\Rd R a cap ts w' l.tail)\/(skB l t=false/\skB l u=false/\skB l v=true/\e = .returned (.string v)/\Rd R a cap ts w' l.tail)):=by
 have hlt:=h.lt;subst hn;refine (zi0 R cap w.heap.size 3 a ts l [t,u,v] _ (h.alloc _) (by simp) (by omega) (by simp) (fun i hi=>?_) (fun i hi=>?_)).mono ?_
 . obtain rfl | rfl | rfl:i=0\/i=1\/i=2:=by simp at hi;omega
   all_goals simp
 . obtain rfl | rfl | rfl:i=0\/i=1\/i=2:=by simp at hi;omega
   . exact ht
   . exact hu
   . exact hv
 . rintro e w' ⟨hk,hr⟩
   refine ⟨((Keeps.refl R w).alloc _).trans hk,?_⟩;rw [z1c] at hr
   have key:∀ x:ByteArray,((some x).map fun t=>(t,l.tail))=some (x,l.tail):=fun _=>rfl
   cases hs:skB l t<;>cases hs2:skB l u<;>cases hs3:skB l v<;>rw [hs,hs2,hs3] at hr<;>simp only [vcs,if_false,if_true,Option.map_none,Option.map_some] at hr
   . rcases hr with ⟨_,rfl⟩ | ⟨x,l',y,hr,_⟩
     . exact Or.inl ⟨rfl,rfl,rfl,rfl⟩
     . cases hr
   all_goals
    rcases hr with ⟨hr,_⟩ | ⟨x,l',y,hr,rfl,rfl,hR⟩
    . cases hr
    . obtain ⟨rfl,rfl⟩:=vak (vac hr)
      simp [hR]
theorem zz1 {R cap:Nat} {a:OA} {ts l l8:List Tk} {w w8 w9:World} {r:Option (St × List Tk)} {x y:Ex} {m n:ByteArray} {g9 c9:Nat} (h0:Rd R a cap ts w l) (hr:r=some (.mk 2 m n [x,y] [] [],l8)) (HK8:Keeps R w w8) (HR8:Rd R a cap ts w8 l8)
 (hm:m.size<=maxLen) (hnn:n.size<=maxLen) (HB9:Below (w.heap.size+2) w8 w9) (HO9:Row (w.heap.size+2) 174 5 w9 (.slice (some ⟨g9,0,none⟩) 2 c9) 2 (x.ds++y.ds)) :
 zdy R a cap ts w r (zfj (w.heap.size<=·)) (.returned (.agg #[.int .i64 2,.string m,.string n,.slice (some ⟨g9,0,none⟩) 2 c9,.slice none 0 0,.slice none 0 0])) (set6 (w9.setCell ⟨w.heap.size+1,3,none⟩ (.slice (some ⟨g9,0,none⟩) 2 c9)) w.heap.size (.int .i64 2) (.string m) (.string n) (.slice (some ⟨g9,0,none⟩) 2 c9) (.slice none 0 0) (.slice none 0 0)):=by
 have hw9:Below w.heap.size w8 w9:=HB9.mono (by omega)
 have hd:za9 [x,y]=x.ds++y.ds:=by simp [za9]
 obtain ⟨a',c',hv,hat⟩:=HO9.slice
 injection hv with hv1 hv2 hv3
 rw [← hv1,← hd] at hat;have hat':=hat.moves ((((zae.refl w9 (w.heap.size+2<=·)).set (p:=⟨w.heap.size+1,3,none⟩) (by intro b _ hb;show b≠w.heap.size+1;omega) (.slice (some ⟨g9,0,none⟩) 2 c9)).set6 (b:=w.heap.size) (by intro b _ hb;omega) (.int .i64 2) (.string m) (.string n) (.slice (some ⟨g9,0,none⟩) 2 c9) (.slice none 0 0) (.slice none 0 0)).to (lo':=w.heap.size) (by omega))
 have hk9:=(((HK8.belowOf hw9).set (p:=⟨w.heap.size+1,3,none⟩) (by show w.heap.size<=w.heap.size+1;omega) (.slice (some ⟨g9,0,none⟩) 2 c9)).set6 (b:=w.heap.size) (vaa _) (.int .i64 2) (.string m) (.string n) (.slice (some ⟨g9,0,none⟩) 2 c9) (.slice none 0 0) (.slice none 0 0))
 have hr9:=((HR8.belowOf h0 hw9).setAbove h0 (p:=⟨w.heap.size+1,3,none⟩) (by show w.heap.size<=w.heap.size+1;omega) (.slice (some ⟨g9,0,none⟩) 2 c9)).set6 h0 (b:=w.heap.size) (vaa _) (.int .i64 2) (.string m) (.string n) (.slice (some ⟨g9,0,none⟩) 2 c9) (.slice none 0 0) (.slice none 0 0);exact zlp (s:=.mk 2 m n [x,y] [] []) hr hk9 hr9 hm hnn hat' (Or.inl rfl) (Or.inl rfl)
theorem zz2:Enters Tryz.prog 283:=enters_of Tryz.func283 (by kernel_rfl) rfl
theorem zvh (R cap:Nat) (a:OA) (ts l:List Tk) (w:World) (h:Rd R a cap ts w l) :
 Calls Tryz.prog 285 #[.pointer (some ⟨R,0,none⟩)] w (zdy R a cap ts w (zbx l) (zfj (w.heap.size<=·))):=by
 have HR:Hid (Rd R a cap ts w l):=h;have hRw:=h.lt;clear h;go_enter Tryz.func285,Tryz.ntmps285;go_wp2_with fail;refine (zu9 R cap a ts l _ ((HR.out.alloc _).alloc _)).mono ?_;rintro e w1 ⟨HK1,⟨hn,rfl⟩ | ⟨⟨m,n⟩,l1,v,hn,rfl,⟨rfl,hm,hnn⟩,HR1⟩⟩
 . exact ⟨rfl,(((Keeps.refl R w).alloc _).alloc _).trans HK1,Or.inl ⟨by unfold zbx;rw [hn],rfl⟩⟩
 have hz1:=HK1.size;simp at hz1
 have HP1:Hid (zbx l=if skB l1 tEq then (match pX l1.tail with | none=>none | some (x,l2)=>some (.mk 1 m n [x] [] [],l2))
  else if skB l1 tLs then (match pX l1.tail with
   | none=>none
   | some (x,l2)=>if skB l2 tRs then (if skB l2.tail tEq then (match pX l2.tail.tail with | none=>none | some (y,l3)=>some (.mk 2 m n [x,y] [] [],l3)) else none) else none)
  else if skB l1 tLp then (match pAs l1.tail with | none=>none | some (xs,l2)=>some (.mk 3 m n xs [] [],l2))
  else none):=by show zbx l=_;unfold zbx;rw [hn];rfl
 have HK1':Hid (Keeps R w w1):=(((Keeps.refl R w).alloc _).alloc _).trans HK1;have HB1:Hid (w1.heap[w.heap.size]? = some za4):=(HK1.block w.heap.size (by simp;omega) (by omega)).trans (zad (heap_newP _ _));have HC1:Hid (w1.heap[w.heap.size+1]? = some za4):=(HK1.block (w.heap.size+1) (by simp) (by omega)).trans (by have e:=heap_newP (w.alloc za4) za4;simpa using e);obtain ⟨h0,h1,h2,h3,h4,h5,h6⟩:=zao HC1.out;have HR2:Hid (Rd R a cap ts ((w1.setCell ⟨w.heap.size+1,1,none⟩ (.string m)).setCell ⟨w.heap.size+1,2,none⟩ (.string n)) l1):=(HR1.setAbove HR.out (by show _<=w.heap.size+1;omega) _).setAbove HR.out (by show _<=w.heap.size+1;omega) _;have HK2:Hid (Keeps R w ((w1.setCell ⟨w.heap.size+1,1,none⟩ (.string m)).setCell ⟨w.heap.size+1,2,none⟩ (.string n))):=(HK1'.out.set (by show _<=w.heap.size+1;omega) _).set (by show _<=w.heap.size+1;omega) _
 have HB2:Hid (((w1.setCell ⟨w.heap.size+1,1,none⟩ (.string m)).setCell ⟨w.heap.size+1,2,none⟩ (.string n)).heap[w.heap.size]? = some za4):=(heap_set_ne (by show w.heap.size≠w.heap.size+1;omega) _).trans ((heap_set_ne (by show w.heap.size≠w.heap.size+1;omega) _).trans HB1.out);have HC2:Hid (((w1.setCell ⟨w.heap.size+1,1,none⟩ (.string m)).setCell ⟨w.heap.size+1,2,none⟩ (.string n)).heap[w.heap.size+1]? = some (.cells #[.int .i64 0,.string m,.string n,.slice none 0 0,.slice none 0 0,.slice none 0 0] 176 (0,0))):=zaf (zaf HC1.out _) _
 have hz2:((w1.setCell ⟨w.heap.size+1,1,none⟩ (.string m)).setCell ⟨w.heap.size+1,2,none⟩ (.string n)).heap.size=w1.heap.size:=by simp only [vam]
 have hq1:w.heap.size+1<w1.heap.size:=by omega
 clear hn HR1 HK1 HB1 HK1';go_wp2_with fail;generalize (w1.setCell ⟨w.heap.size+1,1,none⟩ (.string m)).setCell ⟨w.heap.size+1,2,none⟩ (.string n)=w2 at *;clear h0 h1 h2 h3 h4 h5 h6 HC1;refine (z1d R cap _ a ts l1 tEq tLs tLp w2 (by omega) HR2.out (by decide) (by decide) (by decide)).mono ?_;rintro e w3 ⟨HK3,⟨s1,s2,s3,rfl⟩ | ⟨s1,rfl,HR3⟩ | ⟨s1,s2,rfl,HR3⟩ | ⟨s1,s2,s3,rfl,HR3⟩⟩
 . exact ⟨rfl,HK2.out.trans HK3,Or.inl ⟨by rw [HP1.out,s1,s2,s3];rfl,rfl⟩⟩
 . have hz3:=HK3.size
   have HB3:Hid (w3.heap[w.heap.size]? = some za4):=(HK3.block w.heap.size (by omega) (by omega)).trans HB2.out;have HC3:Hid (w3.heap[w.heap.size+1]? = some (.cells #[.int .i64 0,.string m,.string n,.slice none 0 0,.slice none 0 0,.slice none 0 0] 176 (0,0))):=(HK3.block (w.heap.size+1) (by omega) (by omega)).trans HC2.out;obtain ⟨h0,h1,h2,h3,h4,h5,h6⟩:=zao HC3.out;have HR4:Hid (Rd R a cap ts (w3.setCell ⟨w.heap.size+1,0,none⟩ (.int .i64 1)) l1.tail):=HR3.setAbove HR.out (by show _<=w.heap.size+1;omega) _;have HK4:Hid (Keeps R w (w3.setCell ⟨w.heap.size+1,0,none⟩ (.int .i64 1))):=(HK2.out.trans HK3).set (by show _<=w.heap.size+1;omega) _;have HB4:Hid ((w3.setCell ⟨w.heap.size+1,0,none⟩ (.int .i64 1)).heap[w.heap.size]? = some za4):=(heap_set_ne (by show w.heap.size≠w.heap.size+1;omega) _).trans HB3.out;have HC4:Hid ((w3.setCell ⟨w.heap.size+1,0,none⟩ (.int .i64 1)).heap[w.heap.size+1]? = some (.cells #[.int .i64 1,.string m,.string n,.slice none 0 0,.slice none 0 0,.slice none 0 0] 176 (0,0))):=zaf HC3.out _
   have hz4:(w3.setCell ⟨w.heap.size+1,0,none⟩ (.int .i64 1)).heap.size=w3.heap.size:=by simp only [vam]
   clear HR3 HK3 HB3 HR2 HK2 HB2 HC2;go_wp2_with fail;generalize w3.setCell ⟨w.heap.size+1,0,none⟩ (.int .i64 1)=w4 at *;clear h0 h1 h2 h3 h4 h5 h6 HC3;refine (zeg R cap a ts l1.tail w4 HR4.out).mono ?_;rintro e w5 ⟨HK5,⟨hn,rfl⟩ | ⟨x,l5,v,hn,rfl,⟨a5,c5,rfl,hx1,hx2,hx3⟩,HR5⟩⟩
   . exact ⟨rfl,HK4.out.trans HK5,Or.inl ⟨by rw [HP1.out,if_pos s1,hn],rfl⟩⟩
   have hz5:=HK5.size
   have HP:Hid (zbx l=some (.mk 1 m n [x] [] [],l5)):=by show zbx l=_;rw [HP1.out,if_pos s1,hn]
   have HB5:Hid (w5.heap[w.heap.size]? = some za4):=(HK5.block w.heap.size (by omega) (by omega)).trans HB4.out;have HC5:Hid (w5.heap[w.heap.size+1]? = some (.cells #[.int .i64 1,.string m,.string n,.slice none 0 0,.slice none 0 0,.slice none 0 0] 176 (0,0))):=(HK5.block (w.heap.size+1) (by omega) (by omega)).trans HC4.out
   have HF:Hid (zdy R a cap ts w (zbx l) (zfj (w.heap.size<=·)) (.returned (.agg #[.int .i64 1,.string m,.string n,.slice (some ⟨w5.heap.size,0,none⟩) 1 1,.slice none 0 0,.slice none 0 0])) ((set6 (w5.setCell ⟨w.heap.size+1,3,none⟩ (.slice (some ⟨w5.heap.size,0,none⟩) 1 1)) w.heap.size (.int .i64 1) (.string m) (.string n) (.slice (some ⟨w5.heap.size,0,none⟩) 1 1) (.slice none 0 0) (.slice none 0 0)).alloc (.cells #[.int .i64 x.op,.int .i64 x.n,.string x.mod,.string x.name,.slice a5 x.args.length c5] 174))):=by
    refine zlp (s:=.mk 1 m n [x] [] []) HP.out ((((HK4.out.trans HK5).set (by show _<=w.heap.size+1;omega) _).set6 (vaa _) _ _ _ _ _ _).alloc _) (((HR5.setAbove HR.out (by show _<=w.heap.size+1;omega) _).set6 HR.out (vaa _) _ _ _ _ _ _).alloc _) hm hnn ?_ (Or.inl rfl) (Or.inl rfl);refine zjp (t:=174) (cap:=c5) hx1 hx2 hx3 (((((zae.refl w5 _).set (by intro b _ hb;show b≠w.heap.size+1;omega) _).set6 (b:=w.heap.size) (by intro b _ hb;omega) _ _ _ _ _ _).alloc _).to (by omega)) ?_ (by show w.heap.size<=w5.heap.size;omega);have e:=heap_newP (set6 (w5.setCell ⟨w.heap.size+1,3,none⟩ (.slice (some ⟨w5.heap.size,0,none⟩) 1 1)) w.heap.size (.int .i64 1) (.string m) (.string n) (.slice (some ⟨w5.heap.size,0,none⟩) 1 1) (.slice none 0 0) (.slice none 0 0)) (.cells #[.int .i64 x.op,.int .i64 x.n,.string x.mod,.string x.name,.slice a5 x.args.length c5] 174)
    simp only [vam] at e;exact e
   obtain ⟨h0,h1,h2,h3,h4,h5,h6⟩:=zao HB5.out;obtain ⟨g0,g1,g2,g3,g4,g5,g6⟩:=zao HC5.out
   have hq5:w.heap.size+1<w5.heap.size:=by omega
   have hq6:w.heap.size<w5.heap.size:=by omega
   clear hn HK5 HR5 hx1 hx2 hx3 HB4 HC4 HR4 HK4;go_wp2_with fail;refine bodyPost_ret (v:=.agg #[.int .i64 1,.string m,.string n,.slice (some ⟨w5.heap.size,0,none⟩) 1 1,.slice none 0 0,.slice none 0 0]) (by simp [results,Tryz.results285,go_sem,h0,h1,h2,h3,h4,h5,hq6]) rfl HF.out
 . have hz3:=HK3.size
   have HB3:Hid (w3.heap[w.heap.size]? = some za4):=(HK3.block w.heap.size (by omega) (by omega)).trans HB2.out;have HC3:Hid (w3.heap[w.heap.size+1]? = some (.cells #[.int .i64 0,.string m,.string n,.slice none 0 0,.slice none 0 0,.slice none 0 0] 176 (0,0))):=(HK3.block (w.heap.size+1) (by omega) (by omega)).trans HC2.out;obtain ⟨h0,h1,h2,h3,h4,h5,h6⟩:=zao HC3.out;have HR4:Hid (Rd R a cap ts (w3.setCell ⟨w.heap.size+1,0,none⟩ (.int .i64 2)) l1.tail):=HR3.setAbove HR.out (by show _<=w.heap.size+1;omega) _;have HK4:Hid (Keeps R w (w3.setCell ⟨w.heap.size+1,0,none⟩ (.int .i64 2))):=(HK2.out.trans HK3).set (by show _<=w.heap.size+1;omega) _;have HB4:Hid ((w3.setCell ⟨w.heap.size+1,0,none⟩ (.int .i64 2)).heap[w.heap.size]? = some za4):=(heap_set_ne (by show w.heap.size≠w.heap.size+1;omega) _).trans HB3.out;have HC4:Hid ((w3.setCell ⟨w.heap.size+1,0,none⟩ (.int .i64 2)).heap[w.heap.size+1]? = some (.cells #[.int .i64 2,.string m,.string n,.slice none 0 0,.slice none 0 0,.slice none 0 0] 176 (0,0))):=zaf HC3.out _
   have hz4:(w3.setCell ⟨w.heap.size+1,0,none⟩ (.int .i64 2)).heap.size=w3.heap.size:=by simp only [vam]
   clear HR3 HK3 HB3 HR2 HK2 HB2 HC2;go_wp2_with fail;generalize w3.setCell ⟨w.heap.size+1,0,none⟩ (.int .i64 2)=w4 at *;clear h0 h1 h2 h3 h4 h5 h6 HC3;refine (zeg R cap a ts l1.tail w4 HR4.out).mono ?_;rintro e w5 ⟨HK5,⟨hn,rfl⟩ | ⟨x,l5,v,hn,rfl,⟨a5,c5,rfl,hx1,hx2,hx3⟩,HR5⟩⟩
   . exact ⟨rfl,HK4.out.trans HK5,Or.inl ⟨by rw [HP1.out,if_neg (by simp [s1]),if_pos s2,hn],rfl⟩⟩
   have hz5:=HK5.size
   have HP5:Hid (zbx l=if skB l5 tRs then (if skB l5.tail tEq then (match pX l5.tail.tail with | none=>none | some (y,l3)=>some (.mk 2 m n [x,y] [] [],l3)) else none) else none):=by show zbx l=_;rw [HP1.out,if_neg (by simp [s1]),if_pos s2,hn]
   have HB5:Hid (w5.heap[w.heap.size]? = some za4):=(HK5.block w.heap.size (by omega) (by omega)).trans HB4.out;have HC5:Hid (w5.heap[w.heap.size+1]? = some (.cells #[.int .i64 2,.string m,.string n,.slice none 0 0,.slice none 0 0,.slice none 0 0] 176 (0,0))):=(HK5.block (w.heap.size+1) (by omega) (by omega)).trans HC4.out;have HK5':Hid (Keeps R w w5):=HK4.out.trans HK5;have HR5':Hid (Rd R a cap ts w5 l5):=HR5;have HX5:Hid (zap w5 (w4.heap.size<=·) x.ds (ze4 x a5 c5)):=ze5 hx1 hx2 hx3;obtain ⟨h0,h1,h2,h3,h4,h5,h6⟩:=zao HC5.out
   have hq5:w.heap.size+1<w5.heap.size:=by omega
   clear hn HK5 HR5 hx1 hx2 hx3 HB4 HC4 HR4 HK4 HP1;go_wp2_with fail;refine (ze3 R cap _ a ts l5 tRs _ (by simp) ((HR5'.out.setAbove HR.out (by show _<=w.heap.size+1;omega) _).alloc _) (by decide)).mono ?_;rintro e w6 ⟨HK6,⟨t6,rfl⟩ | ⟨t6,rfl,HR6⟩⟩
   . exact ⟨rfl,((HK5'.out.set (by show _<=w.heap.size+1;omega) _).alloc _).trans HK6,Or.inl ⟨by rw [HP5.out,t6];rfl,rfl⟩⟩
   have hz6:=HK6.size;simp at hz6
   have HO6:Hid (Row (w.heap.size+2) 174 5 w6 (.slice (some ⟨w5.heap.size,0,none⟩) 1 1) 1 x.ds):=by
    have e:=Row.first (base:=w.heap.size+2) (e:=174) (size:=5) (w:=w5.setCell ⟨w.heap.size+1,3,none⟩ (.slice (some ⟨w5.heap.size,0,none⟩) 1 1)) (A:=(w4.heap.size<=·)) (ds:=x.ds) (cs:=#[.int .i64 x.op,.int .i64 x.n,.string x.mod,.string x.name,.slice a5 x.args.length c5])
     (HX5.out.moves ((zae.refl w5 _).set (by intro b _ hb;show b≠w.heap.size+1;omega) _)) (fun b _ hb=>by omega) (by simp;omega) rfl
    simp only [vam] at e;exact Row.keeps e HK6 (by omega)
   have HB6:Hid (w6.heap[w.heap.size]? = some za4):=(HK6.block w.heap.size (by simp;omega) (by omega)).trans (zad ((heap_set_ne (by show w.heap.size≠w.heap.size+1;omega) _).trans HB5.out));have HC6:Hid (w6.heap[w.heap.size+1]? = some (.cells #[.int .i64 2,.string m,.string n,.slice (some ⟨w5.heap.size,0,none⟩) 1 1,.slice none 0 0,.slice none 0 0] 176 (0,0))):=(HK6.block (w.heap.size+1) (by simp;omega) (by omega)).trans (zad (zaf HC5.out _));have HK6':Hid (Keeps R w w6):=((HK5'.out.set (by show _<=w.heap.size+1;omega) _).alloc _).trans HK6;have HR6':Hid (Rd R a cap ts w6 l5.tail):=HR6;clear HR6 HK6 HR5' HK5' HX5 HB5 HC5 h0 h1 h2 h3 h4 h5 h6;go_wp2_with fail;refine (ze3 R cap _ a ts l5.tail tEq _ (by simp) HR6'.out (by decide)).mono ?_;rintro e w7 ⟨HK7,⟨t7,rfl⟩ | ⟨t7,rfl,HR7⟩⟩
   . exact ⟨rfl,HK6'.out.trans HK7,Or.inl ⟨by rw [HP5.out,t6,t7];rfl,rfl⟩⟩
   have hz7:=HK7.size;have HO7:Hid (Row (w.heap.size+2) 174 5 w7 (.slice (some ⟨w5.heap.size,0,none⟩) 1 1) 1 x.ds):=HO6.out.keeps HK7 (by omega);have HB7:Hid (w7.heap[w.heap.size]? = some za4):=(HK7.block w.heap.size (by omega) (by omega)).trans HB6.out;have HC7:Hid (w7.heap[w.heap.size+1]? = some (.cells #[.int .i64 2,.string m,.string n,.slice (some ⟨w5.heap.size,0,none⟩) 1 1,.slice none 0 0,.slice none 0 0] 176 (0,0))):=(HK7.block (w.heap.size+1) (by omega) (by omega)).trans HC6.out;have HK7':Hid (Keeps R w w7):=HK6'.out.trans HK7;have HR7':Hid (Rd R a cap ts w7 l5.tail.tail):=HR7
   have HP7:Hid (zbx l=match pX l5.tail.tail with | none=>none | some (y,l3)=>some (.mk 2 m n [x,y] [] [],l3)):=by show zbx l=_;rw [HP5.out,t6,t7];rfl
   obtain ⟨h0,h1,h2,h3,h4,h5,h6⟩:=zao HC7.out;clear HR7 HK7 HR6' HK6' HB6 HC6 HO6 HP5 t6 t7
   cases hx:pX l5.tail.tail with
   | none=>
     have HE:Hid (∀ w',Rd R a cap ts w' l5.tail.tail->Calls Tryz.prog 283 #[.pointer (some ⟨R,0,none⟩)] w' fun e w''=>e = .panicked zak/\Keeps R w' w''):=fun w' h'=>by
      refine (zeg R cap a ts _ w' h').mono ?_;rintro e w'' ⟨hk,⟨_,rfl⟩ | ⟨_,_,_,h,_⟩⟩
      . exact ⟨rfl,hk⟩
      . rw [hx] at h;cases h
     have HP:Hid (zbx l=none):=by show zbx l=_;rw [HP7.out,hx]
     clear hx HP7;go_wp2_with fail;refine wp_region_any (by kernel_rfl) ?_
     change wpAny _ _ _ _ _ _ _ (World.drew _)
     refine wpAny_take (i:=2) (v:=.pointer (some ⟨R,0,none⟩)) rfl (by kernel_rfl) (by kernel_rfl) (by kernel_rfl) (fun c a w h=>h) (Or.inl ⟨by rfl,fun w=>by go_simp⟩) ?_;refine wpAny_take (i:=0) (v:=.pointer (some ⟨w.heap.size+1,3,none⟩)) rfl (by kernel_rfl) (by kernel_rfl) (by kernel_rfl) (fun c a w h=>h) (Or.inl ⟨by rfl,fun w=>by go_simp⟩) ?_;refine wpAny_ready (rs:=[1,3]) (by kernel_rfl) (by simp) ?_;refine vec rfl (fun K hK=>?_) (vec rfl (fun K hK=>?_) vef)
     . go_simp
       refine hK _ _ ?_;clear hK K;refine wpAny_ready (rs:=[3]) (by kernel_rfl) (by simp) ?_;refine vec rfl (fun K hK=>?_) vef;refine zbi (by rfl) 283 _ _ (by rfl) zz2 _ (by rfl) zak (HE.out _ HR7'.out.drew) ?_;intro w8 hk8;exact ⟨rfl,HK7'.out.drew.trans hk8,Or.inl ⟨HP.out,rfl⟩⟩
     . refine zbi (by rfl) 283 _ _ (by rfl) zz2 _ (by rfl) zak (HE.out _ HR7'.out.drew) ?_
       intro w8 hk8;exact ⟨rfl,HK7'.out.drew.trans hk8,Or.inl ⟨HP.out,rfl⟩⟩
   | some r=>
     obtain ⟨y,l8⟩:=r
     have HE:Hid (∀ w',Rd R a cap ts w' l5.tail.tail->Calls Tryz.prog 283 #[.pointer (some ⟨R,0,none⟩)] w' fun e w''=>∃ u,e = .returned u/\(Keeps R w' w''/\zf5 (w'.heap.size<=·) y w'' u/\Rd R a cap ts w'' l8)):=fun w' h'=>by
      refine (zeg R cap a ts _ w' h').mono ?_;rintro e w'' ⟨hk,⟨h,_⟩ | ⟨y',l',u,h,rfl,hr,hd⟩⟩
      . rw [hx] at h;cases h
      . rw [hx] at h
        obtain ⟨rfl,rfl⟩:=vak (vac h);exact ⟨u,rfl,hk,hr,hd⟩
     have HP:Hid (zbx l=some (.mk 2 m n [x,y] [] [],l8)):=by show zbx l=_;rw [HP7.out,hx]
     clear hx HP7;go_wp2_with fail
     go_region_law (first
      | (refine zdl (by rfl) 283 _ _ (by rfl) zz2 _ (by rfl) (HE.out _ HR7'.out.drew) ?_
         rintro u8 w8 ⟨HK8,⟨a8,c8,rfl,hy1,hy2,hy3⟩,HR8⟩;have hz8:w7.heap.size<=w8.heap.size:=HK8.size
         have hq8:w.heap.size+1<w8.heap.size:=by omega
         have HC8:Hid (w8.heap[w.heap.size+1]? = some (.cells #[.int .i64 2,.string m,.string n,.slice (some ⟨w5.heap.size,0,none⟩) 1 1,.slice none 0 0,.slice none 0 0] 176 (0,0))):=(HK8.block (w.heap.size+1) (show w.heap.size+1<w7.heap.size by omega) (by omega)).trans HC7.out;have HB8:Hid (w8.heap[w.heap.size]? = some za4):=(HK8.block w.heap.size (show w.heap.size<w7.heap.size by omega) (by omega)).trans HB7.out;have hc8:w8.cell? ⟨w.heap.size+1,3,none⟩=some (.slice (some ⟨w5.heap.size,0,none⟩) 1 1):=(HK8.cell (show w.heap.size+1<w7.heap.size by omega) (by omega)).trans h3
         have HO8:Hid (Row (w.heap.size+2) 174 5 w8 (.slice (some ⟨w5.heap.size,0,none⟩) 1 1) 1 x.ds):=(HO7.out.keeps (Keeps.refl R w7).drew (by omega)).keeps HK8 (by omega))
      | (refine zbn (by rfl) _ _ 172 (by rfl) (w.heap.size+2) 174 _ 5 72 Tryz.underlying172 Tryz.infoP80 rfl (by decide) w8 _ 1 x.ds y.ds (by rfl) HO8.out _ _ rfl (by rfl) rfl (w7.heap.size<=·) (ze5 hy1 hy2 hy3) (fun b _ hb=>⟨by omega,fun h=>by have h':w5.heap.size=b:=vac h;omega⟩) (by omega) (by decide) (by omega) ?_
         intro g9 c9 w9 HO9 HB9 hz9;have HC9:Hid (w9.heap[w.heap.size+1]? = some (.cells #[.int .i64 2,.string m,.string n,.slice (some ⟨w5.heap.size,0,none⟩) 1 1,.slice none 0 0,.slice none 0 0] 176 (0,0))):=(HB9.block (w.heap.size+1) (by omega)).trans HC8.out;have HD9:Hid (w9.heap[w.heap.size]? = some za4):=(HB9.block w.heap.size (by omega)).trans HB8.out;obtain ⟨k0,k1,k2,k3,k4,k5,k6⟩:=zao HC9.out;obtain ⟨m0,m1,m2,m3,m4,m5,m6⟩:=zao HD9.out
         have hne9:w.heap.size≠w.heap.size+1:=by omega
         have HF:Hid (zdy R a cap ts w (zbx l) (zfj (w.heap.size<=·)) (.returned (.agg #[.int .i64 2,.string m,.string n,.slice (some ⟨g9,0,none⟩) 2 c9,.slice none 0 0,.slice none 0 0])) (set6 (w9.setCell ⟨w.heap.size+1,3,none⟩ (.slice (some ⟨g9,0,none⟩) 2 c9)) w.heap.size (.int .i64 2) (.string m) (.string n) (.slice (some ⟨g9,0,none⟩) 2 c9) (.slice none 0 0) (.slice none 0 0))):=zz1 HR.out HP.out (HK7'.out.drew.trans HK8) HR8 hm hnn HB9 HO9))
     all_goals
      go_wp2_with fail;refine bodyPost_ret (v:=.agg #[.int .i64 2,.string m,.string n,.slice (some ⟨g9,0,none⟩) 2 c9,.slice none 0 0,.slice none 0 0]) (by simp [results,Tryz.results285,go_sem,m0,m1,m2,m3,m4,m5]) rfl HF.out
 . have hz3:=HK3.size
   have HB3:Hid (w3.heap[w.heap.size]? = some za4):=(HK3.block w.heap.size (by omega) (by omega)).trans HB2.out;have HC3:Hid (w3.heap[w.heap.size+1]? = some (.cells #[.int .i64 0,.string m,.string n,.slice none 0 0,.slice none 0 0,.slice none 0 0] 176 (0,0))):=(HK3.block (w.heap.size+1) (by omega) (by omega)).trans HC2.out;obtain ⟨h0,h1,h2,h3,h4,h5,h6⟩:=zao HC3.out;have HR4:Hid (Rd R a cap ts (w3.setCell ⟨w.heap.size+1,0,none⟩ (.int .i64 3)) l1.tail):=HR3.setAbove HR.out (by show _<=w.heap.size+1;omega) _;have HK4:Hid (Keeps R w (w3.setCell ⟨w.heap.size+1,0,none⟩ (.int .i64 3))):=(HK2.out.trans HK3).set (by show _<=w.heap.size+1;omega) _;have HB4:Hid ((w3.setCell ⟨w.heap.size+1,0,none⟩ (.int .i64 3)).heap[w.heap.size]? = some za4):=(heap_set_ne (by show w.heap.size≠w.heap.size+1;omega) _).trans HB3.out;have HC4:Hid ((w3.setCell ⟨w.heap.size+1,0,none⟩ (.int .i64 3)).heap[w.heap.size+1]? = some (.cells #[.int .i64 3,.string m,.string n,.slice none 0 0,.slice none 0 0,.slice none 0 0] 176 (0,0))):=zaf HC3.out _
   have hz4:(w3.setCell ⟨w.heap.size+1,0,none⟩ (.int .i64 3)).heap.size=w3.heap.size:=by simp only [vam]
   clear HR3 HK3 HB3 HR2 HK2 HB2 HC2;go_wp2_with fail;generalize w3.setCell ⟨w.heap.size+1,0,none⟩ (.int .i64 3)=w4 at *;clear h0 h1 h2 h3 h4 h5 h6 HC3;refine (zxm R cap a ts l1.tail w4 HR4.out).mono ?_;rintro e w5 ⟨HK5,⟨hn,rfl⟩ | ⟨xs,l5,v,hn,rfl,⟨a5,c5,rfl,hx3⟩,HR5⟩⟩
   . exact ⟨rfl,HK4.out.trans HK5,Or.inl ⟨by rw [HP1.out,if_neg (by simp [s1]),if_neg (by simp [s2]),if_pos s3,hn],rfl⟩⟩
   have hz5:=HK5.size
   have HP:Hid (zbx l=some (.mk 3 m n xs [] [],l5)):=by show zbx l=_;rw [HP1.out,if_neg (by simp [s1]),if_neg (by simp [s2]),if_pos s3,hn]
   have HB5:Hid (w5.heap[w.heap.size]? = some za4):=(HK5.block w.heap.size (by omega) (by omega)).trans HB4.out;have HC5:Hid (w5.heap[w.heap.size+1]? = some (.cells #[.int .i64 3,.string m,.string n,.slice none 0 0,.slice none 0 0,.slice none 0 0] 176 (0,0))):=(HK5.block (w.heap.size+1) (by omega) (by omega)).trans HC4.out
   have HF:Hid (zdy R a cap ts w (zbx l) (zfj (w.heap.size<=·)) (.returned (.agg #[.int .i64 3,.string m,.string n,.slice a5 xs.length c5,.slice none 0 0,.slice none 0 0])) (set6 (w5.setCell ⟨w.heap.size+1,3,none⟩ (.slice a5 xs.length c5)) w.heap.size (.int .i64 3) (.string m) (.string n) (.slice a5 xs.length c5) (.slice none 0 0) (.slice none 0 0))):=by
    refine zlp (s:=.mk 3 m n xs [] []) HP.out (((HK4.out.trans HK5).set (by show _<=w.heap.size+1;omega) _).set6 (vaa _) _ _ _ _ _ _) ((HR5.setAbove HR.out (by show _<=w.heap.size+1;omega) _).set6 HR.out (vaa _) _ _ _ _ _ _) hm hnn ?_ (Or.inl rfl) (Or.inl rfl);exact hx3.moves ((((zae.refl w5 _).set (by intro b _ hb;show b≠w.heap.size+1;omega) _).set6 (b:=w.heap.size) (by intro b _ hb;omega) _ _ _ _ _ _).to (by omega))
   obtain ⟨h0,h1,h2,h3,h4,h5,h6⟩:=zao HB5.out;obtain ⟨g0,g1,g2,g3,g4,g5,g6⟩:=zao HC5.out;clear hn HK5 HR5 hx3 HB4 HC4 HR4 HK4;go_wp2_with fail;refine bodyPost_ret (v:=.agg #[.int .i64 3,.string m,.string n,.slice a5 xs.length c5,.slice none 0 0,.slice none 0 0]) (by simp [results,Tryz.results285,go_sem,h0,h1,h2,h3,h4,h5]) rfl HF.out
set_option maxHeartbeats 1600000
theorem zvi {l l':List Tk} {s:St} (h:zbx l=some (s,l')):l'.length<l.length:=by
 unfold zbx at h
 split at h
 . cases h
 rename_i m n l1 h1
 have:=zo4 h1
 split at h
 . rename_i hs
   have:=zam (by decide) hs
   split at h
   . cases h
   rename_i x l2 h2
   have:=zmb h2;obtain ⟨_,rfl⟩:=vak (vac h);omega
 split at h
 . rename_i hs
   have:=zam (by decide) hs
   split at h
   . cases h
   rename_i x l2 h2
   have:=zmb h2
   split at h
   . rename_i hs2
     have:=zam (by decide) hs2
     split at h
     . rename_i hs3
       have:=zam (by decide) hs3
       split at h
       . cases h
       rename_i y l3 h3
       have:=zmb h3;obtain ⟨_,rfl⟩:=vak (vac h);omega
     . cases h
   . cases h
 split at h
 . rename_i hs
   have:=zam (by decide) hs
   split at h
   . cases h
   rename_i x l2 h2
   have:=z0y h2;obtain ⟨_,rfl⟩:=vak (vac h);omega
 . cases h
theorem zjr {r:Option (St × List Tk)} {l':List Tk} {s:St} {n:Nat} (h:zdq r=some (s,l')) (hr:∀ s l,r=some (s,l)->l.length<n):l'.length<n:=by
 unfold zdq at h
 split at h
 . cases h
 . rename_i s1 l1
   have:=hr s1 l1 rfl
   split at h
   . rename_i hs
     have:=zam (by decide) hs;obtain ⟨_,rfl⟩:=vak (vac h);omega
   . cases h
def zcw (f:Nat) (l:List Tk):Option (St × List Tk):=
 match pX l with
 | none=>none
 | some (x,l1)=>match zb0 f l1 with
   | none=>none
   | some (b,l2)=>if skB l2 zo3 then (match zb0 f l2.tail with | none=>none | some (o,l3)=>if o.length=0 then none else some (.mk 4 ⟨#[]⟩ ⟨#[]⟩ [x] b o,l3))
     else some (.mk 4 ⟨#[]⟩ ⟨#[]⟩ [x] b [],l2)
theorem zq3 {f:Nat} {l:List Tk} (h:skB l tIf=true):zco (f+1) l=zcw f l.tail:=by
 unfold zco;rw [if_pos h];rfl
theorem zgi {f:Nat} {l:List Tk} (h:skB l tIf=false) (h1:skB l zga=true):zco (f+1) l=(match pX l.tail with
 | none=>none
 | some (x,l1)=>match zb0 f l1 with | none=>none | some (b,l2)=>some (.mk 5 ⟨#[]⟩ ⟨#[]⟩ [x] b [],l2)):=by
 unfold zco;rw [if_neg (by simp [h]),if_pos h1];rfl
theorem zfk {f:Nat} {l:List Tk} (h:skB l tIf=false) (h1:skB l zga=false) (h2:skB l ze1=true):zco (f+1) l=zdq (match pX l.tail with | none=>none | some (x,l1)=>some (.mk 6 ⟨#[]⟩ ⟨#[]⟩ [x] [] [],l1)):=by
 unfold zco;rw [if_neg (by simp [h]),if_neg (by simp [h1]),if_pos h2];rfl
theorem zjs {f:Nat} {l:List Tk} (h:skB l tIf=false) (h1:skB l zga=false) (h2:skB l ze1=false) (h3:skB l zyv=true):zco (f+1) l=zdq (match pX l.tail with | none=>none | some (x,l1)=>some (.mk 7 ⟨#[]⟩ ⟨#[]⟩ [x] [] [],l1)):=by
 unfold zco;rw [if_neg (by simp [h]),if_neg (by simp [h1]),if_neg (by simp [h2]),if_pos h3];rfl
theorem zgj {f:Nat} {l:List Tk} (h:skB l tIf=false) (h1:skB l zga=false) (h2:skB l ze1=false) (h3:skB l zyv=false):zco (f+1) l=zdq (zbx l):=by
 unfold zco;rw [if_neg (by simp [h]),if_neg (by simp [h1]),if_neg (by simp [h2]),if_neg (by simp [h3])]
mutual
theorem zmq:∀ (f:Nat) (l l':List Tk) (s:St),zco f l=some (s,l')->l'.length<l.length
 | 0,_,_,_,h=>by simp [zco] at h
 | f + 1,l,l',s,h=>by
   unfold zco at h
   split at h
   . rename_i hs
     have:=zam (by decide) hs
     split at h
     . cases h
     rename_i x l1 h1
     have:=zmb h1
     split at h
     . cases h
     rename_i b l2 h2
     have:=zfl f _ _ _ h2
     split at h
     . rename_i hs2
       have:=zam (by decide) hs2
       split at h
       . cases h
       rename_i o l3 h3
       have:=zfl f _ _ _ h3
       split at h
       . cases h
       . obtain ⟨_,rfl⟩:=vak (vac h)
         omega
     . obtain ⟨_,rfl⟩:=vak (vac h)
       omega
   split at h
   . rename_i hs
     have:=zam (by decide) hs
     split at h
     . cases h
     rename_i x l1 h1
     have:=zmb h1
     split at h
     . cases h
     rename_i b l2 h2
     have:=zfl f _ _ _ h2;obtain ⟨_,rfl⟩:=vak (vac h);omega
   split at h
   . rename_i hs
     have:=zam (by decide) hs;refine zjr h ?_;intro s l2 h2
     split at h2
     . cases h2
     rename_i x l1 h1
     have:=zmb h1;obtain ⟨_,rfl⟩:=vak (vac h2);omega
   split at h
   . rename_i hs
     have:=zam (by decide) hs;refine zjr h ?_;intro s l2 h2
     split at h2
     . cases h2
     rename_i x l1 h1
     have:=zmb h1;obtain ⟨_,rfl⟩:=vak (vac h2);omega
   . exact zjr h fun s l2 h2=>zvi h2
theorem zfl:∀ (f:Nat) (l l':List Tk) (b:List St),zb0 f l=some (b,l')->l'.length<l.length
 | 0,_,_,_,h=>by simp [zb0] at h
 | f + 1,l,l',s,h=>by
   unfold zb0 at h
   split at h
   . rename_i hs
     have:=zam (by decide) hs;have:=zn7 f _ _ _ _ h;omega
   . cases h
theorem zn7:∀ (f:Nat) (acc:List St) (l l':List Tk) (b:List St),zec f acc l=some (b,l')->l'.length<l.length
 | 0,_,_,_,_,h=>by simp [zec] at h
 | f + 1,acc,l,l',b,h=>by
   unfold zec at h
   split at h
   . rename_i hs
     obtain ⟨_,rfl⟩:=vak (vac h);exact zam (by decide) hs
   split at h
   . cases h
   . rename_i s l1 h1
     have:=zmq f _ _ _ h1;have:=zn7 f _ _ _ _ h;omega
end
structure StC (R cap:Nat) (a:OA) (ts:List Tk) (f:Nat):Prop where
 stmt:∀ (l:List Tk) (w:World),Rd R a cap ts w l->3*l.length+1<=f->Calls Tryz.prog 254 #[.pointer (some ⟨R,0,none⟩)] w (zdy R a cap ts w (zco f l) (zfj (w.heap.size<=·)))
 block:∀ (l:List Tk) (w:World),Rd R a cap ts w l->3*l.length+1<=f->Calls Tryz.prog 201 #[.pointer (some ⟨R,0,none⟩)] w (zdy R a cap ts w (zb0 f l) (z2f (w.heap.size<=·)))
theorem zsl (R cap:Nat) (a:OA) (ts:List Tk) (f:Nat) (IH:∀ g,g<=f->StC R cap a ts g) (l:List Tk) (w:World) (h:Rd R a cap ts w l) (hf:3*l.length+1<=f+1) :
 Calls Tryz.prog 201 #[.pointer (some ⟨R,0,none⟩)] w (zdy R a cap ts w (zb0 (f+1) l) (z2f (w.heap.size<=·))):=by
 have HI:Hid (∀ g,g<=f->StC R cap a ts g):=IH;have HR:Hid (Rd R a cap ts w l):=h;have hRw:=h.lt
 have hlts:l.length<=4096:=by
  obtain ⟨k,_,rfl,_⟩:=h.idx;have:=h.len
  rw [vbp];omega
 clear IH h;go_enter Tryz.func201,Tryz.ntmps201;go_wp2_with fail;refine (ze3 R cap _ a ts l tLb _ rfl HR.out (by decide)).mono ?_;rintro e w1 ⟨HK1,⟨hs,rfl⟩ | ⟨hs,rfl,HR1⟩⟩
 . exact ⟨rfl,HK1,Or.inl ⟨by unfold zb0;rw [if_neg (by simp [hs])],rfl⟩⟩
 have hl1:=zam (by decide) hs
 have HP:Hid (zb0 (f+1) l=zec f [] l.tail):=by show zb0 (f+1) l=_;unfold zb0;rw [if_pos hs]
 have HR1':Hid (Rd R a cap ts w1 l.tail):=HR1;have HK1':Hid (Keeps R w w1):=HK1;have hz1:=HK1.size;clear HR1 HK1 hs;go_wp2_with fail
 go_loopw [3] (fun v wr=>∃ (g:Nat) (acc:List St) (l':List Tk),g<=f/\zb0 (f+1) l=zec g acc l'/\3*l'.length+2<=g/\acc.length+l'.length<=l.length/\Row w.heap.size 176 6 wr v acc.length (za2 acc)/\Rd R a cap ts wr l'/\Keeps R w wr) (fun _ wr=>zg9 R ts.length wr)
 case atStart=>exact ⟨f,[],l.tail,vaa _,HP.out,by omega,by simp,Row.nil _ _ _ _,HR1'.out,HK1'.out⟩
 case round=>
  obtain ⟨g,acc,l',hg,hpm,hlen,hacc,hrow,hrd,hke⟩:=hrel;have HG:Hid (zb0 (f+1) l=zec g acc l'):=hpm;have HO:Hid (Row w.heap.size 176 6 wr u3 acc.length (za2 acc)):=hrow;have HD:Hid (Rd R a cap ts wr l'):=hrd;have HE:Hid (Keeps R w wr):=hke;have hzr:=hke.size
  obtain ⟨g,rfl⟩:∃ g',g=g'+1:=⟨g - 1,by omega⟩
  clear hpm hrow hrd hke HP;go_wp2_with fail
  by_cases hs:skB l' tRb=true
  . have HP:Hid (zb0 (f+1) l=some (acc,l'.tail)):=by show zb0 (f+1) l=_;rw [HG.out];unfold zec;rw [if_pos hs]
    refine (zbr R cap a ts l' tRb wr (by decide) HD.out hs).mono ?_;rintro e w3 ⟨rfl,HR3,HK3⟩;have HO3:Hid (Row w.heap.size 176 6 w3 u3 acc.length (za2 acc)):=HO.out.keeps HK3 hRw;go_wp2_with fail;go_ret;exact ⟨HE.out.trans HK3,Or.inr ⟨acc,l'.tail,_,HP.out,rfl,HO3.out.slice,HR3⟩⟩
  refine (zb8 R cap a ts l' tRb wr HD.out (by simpa using hs)).mono ?_;rintro e w3 ⟨rfl,HR3,HK3⟩;have hz3:=HK3.size;go_wp2_with fail;refine ((HI.out g (by omega)).stmt l' w3 HR3 (by omega)).mono ?_;rintro e w4 ⟨HK4,⟨hn,rfl⟩ | ⟨y,l4,v,hn,rfl,⟨a1,c1,a2,c2,a3,c3,rfl,hx1,hx2,hx3,hx4,hx5⟩,HR4⟩⟩
  . exact ⟨rfl,(HE.out.trans HK3).trans HK4,Or.inl ⟨by rw [HG.out];unfold zec;rw [if_neg hs,hn],rfl⟩⟩
  have hl4:=zmq _ _ _ _ hn
  have HP:Hid (zb0 (f+1) l=zec g (acc++[y]) l4):=by show zb0 (f+1) l=_;rw [HG.out];unfold zec;rw [if_neg hs,hn];cases g<;>rfl
  have HX4:Hid (zap w4 (w3.heap.size<=·) y.ds (zvg y a1 c1 a2 c2 a3 c3)):=zxn hx1 hx2 hx3 hx4 hx5;have HR4':Hid (Rd R a cap ts w4 l4):=HR4;have HK4':Hid (Keeps R w w4):=(HE.out.trans HK3).trans HK4;have HO4:Hid (Row w.heap.size 176 6 w4 u3 acc.length (za2 acc)):=(HO.out.keeps HK3 hRw).keeps HK4 hRw;have hz4:=HK4.size
  have HL:Hid (∀ k,u3.ownBlock=some k->k<w3.heap.size):=fun k hk=>((HO.out.keeps HK3 hRw).lt k hk).2
  have hle:=HD.out.left;clear hn HR3 HR4 HK3 HK4 hx1 hx2 hx3 hx4 hx5 hs
  go_wp2_with (at_builtin;refine zbm rfl (.tmp 10) (.tmp 13) 25 rfl w.heap.size 176 _ 6 112 Tryz.underlying25 Tryz.infoP48 rfl (by decide) w4 u3 acc.length (za2 acc) y.ds rfl HO4.out _ _ rfl rfl rfl (w3.heap.size<=·) HX4.out ?_ (by omega) (by decide) (by omega) ?_)
  . intro b _ hb
    exact ⟨by omega,fun h=>by have:=HL.out b h;omega⟩
  . intro g5 c5 w5 HO5 HB5 hz5
    have HO5':Hid (Row w.heap.size 176 6 w5 (.slice (some ⟨g5,0,none⟩) (acc.length+1) c5) (acc.length+1) (za2 acc++y.ds)):=HO5;have HR5:Hid (Rd R a cap ts w5 l4):=HR4'.out.belowOf HR.out HB5;have HK5:Hid (Keeps R w w5):=HK4'.out.belowOf HB5;have hl5:=HR5.out.left;clear HO5 HB5 HO4 HR4' HK4' HX4;go_wp2_with fail;go_roundw
    case rel=>exact ⟨g,acc++[y],l4,by omega,HP.out,by omega,by simp;omega,by rw [zgq,zrh,vao];exact HO5'.out,HR5.out,HK5.out⟩
    case measure=>rw [hl5,hle];omega
end Go.Proofs.YtndkhgakfodldaaGreatDoor
