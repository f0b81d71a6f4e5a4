import Derived.Test.YtndkhgakfodldaaGreatDoorPa
namespace Go.Proofs.YtndkhgakfodldaaGreatDoor
set_option maxRecDepth 100000
set_option maxHeartbeats 3200000
open Go.RowKit
abbrev zcx:Obj:=.cells #[.int .i64 0,.int .i64 0,.string ⟨#[]⟩,.string ⟨#[]⟩,.slice none 0 0] 174 (0,0)
theorem zov {R cap:Nat} {a:OA} {ts l l':List Tk} {w w1:World} {r:Option (Ex × List Tk)} {x:Ex} {a1:OA} {c1:Nat} (h0:Rd R a cap ts w l) (hr:r=some (x,l')) (hk:Keeps R w w1) (hrd:Rd R a cap ts w1 l')
 (hx1:x.mod.size<=maxLen) (hx2:x.name.size<=maxLen) {lo:Nat} (hx:EAt w1 (lo<=·) a1 x.args.length (zbz x.args)) (hlo:w.heap.size<lo) :
 zey R a cap ts w r (zh0 (w.heap.size<=·)) (.returned (.agg #[.int .i64 x.op,.int .i64 x.n,.string x.mod,.string x.name,.slice a1 x.args.length c1])) (set5 w1 w.heap.size (.int .i64 x.op) (.int .i64 x.n) (.string x.mod) (.string x.name) (.slice a1 x.args.length c1)):=by
 refine ⟨hk.set5 (vaa _) _ _ _ _ _,Or.inr ⟨x,l',_,hr,rfl,⟨a1,c1,rfl,hx1,hx2,?_⟩,hrd.set5 h0 (vaa _) _ _ _ _ _⟩⟩;exact hx.moves (((zai.refl w1 (lo<=·)).set5 (by intro b _ hb;omega) _ _ _ _ _).to (by omega))
theorem z6m {R cap:Nat} {a:OA} {ts l l':List Tk} {w w1:World} {r:Option (Ex × List Tk)} {op n:Int} {mod name:ByteArray} {y:Ex} {a1:OA} {c1:Nat} (h0:Rd R a cap ts w l) (hr:r=some (.mk op n mod name [y],l')) (hk:Keeps R w w1) (hrd:Rd R a cap ts w1 l')
 (hx1:mod.size<=maxLen) (hx2:name.size<=maxLen) {lo:Nat} (hy1:y.mod.size<=maxLen) (hy2:y.name.size<=maxLen) (hy:EAt w1 (lo<=·) a1 y.args.length (zbz y.args)) (hlo:w.heap.size<lo) (hlo1:lo<=w1.heap.size) :
 zey R a cap ts w r (zh0 (w.heap.size<=·)) (.returned (.agg #[.int .i64 op,.int .i64 n,.string mod,.string name,.slice (some ⟨w1.heap.size,0,none⟩) 1 1])) ((set5 w1 w.heap.size (.int .i64 op) (.int .i64 n) (.string mod) (.string name) (.slice (some ⟨w1.heap.size,0,none⟩) 1 1)).alloc (.cells #[.int .i64 y.op,.int .i64 y.n,.string y.mod,.string y.name,.slice a1 y.args.length c1] 174)):=by
 refine ⟨(hk.set5 (vaa _) _ _ _ _ _).alloc _,Or.inr ⟨.mk op n mod name [y],l',_,hr,rfl,⟨_,_,rfl,hx1,hx2,?_⟩,(hrd.set5 h0 (vaa _) _ _ _ _ _).alloc _⟩⟩;refine zmg (t:=174) (cap:=c1) hy1 hy2 hy ((((zai.refl w1 (lo<=·)).set5 (b:=w.heap.size) (by intro b _ hb;omega) _ _ _ _ _).alloc _).to (by omega)) ?_ (by omega);have e:=heap_newP (set5 w1 w.heap.size (.int .i64 op) (.int .i64 n) (.string mod) (.string name) (.slice (some ⟨w1.heap.size,0,none⟩) 1 1)) (.cells #[.int .i64 y.op,.int .i64 y.n,.string y.mod,.string y.name,.slice a1 y.args.length c1] 174);simp only [var] at e;exact e
theorem z0j (R cap:Nat) (a:OA) (ts:List Tk) (f:Nat) (IH:ExC R cap a ts f) (l:List Tk) (w:World) (h:Rd R a cap ts w l) (hf:3*l.length+1<=f+1) :
 Calls Tryz.prog 283 #[.pointer (some ⟨R,0,none⟩)] w (zey R a cap ts w (zbw (f+1) l) (zh0 (w.heap.size<=·))):=by
 have HI:Hid (ExC R cap a ts f):=IH;have HR:Hid (Rd R a cap ts w l):=h;have hRw:=h.lt;have hf0:=z5g (hd l).kind (hd l).n (hd l).text;clear IH h;go_enter Tryz.func283,Tryz.ntmps283;go_wp2_with fail;refine (zsl R cap a ts l _ (HR.out.alloc _)).mono ?_;rintro e w1 ⟨rfl,hb1⟩;have HR1:Hid (Rd R a cap ts w1 l):=(HR.out.alloc _).later hb1;have HK1:Hid (Keeps R w w1):=((Keeps.refl R w).alloc _).later hb1;have HB1:Hid (w1.heap[w.heap.size]? = some zcx):=(hb1.block w.heap.size (by simp)).trans (heap_newP _ _);have hz1:=hb1.size;simp at hz1;clear hb1
 by_cases hk:(hd l).kind=2
 . have HP:Hid (zbw (f+1) l=some (.mk 1 (hd l).n ⟨#[]⟩ ⟨#[]⟩ [],l.tail)):=by show zbw (f+1) l=_;unfold zbw;rw [if_pos hk]
   have HQ:Hid (pNum l=some ((hd l).n,l.tail)):=by show pNum l=_;unfold pNum;rw [if_pos hk]
   have hf0':=z5g 2 (hd l).n (hd l).text;go_wp2_with fail;refine (zih R cap a ts l w1 HR1.out).mono ?_;rintro e w2 ⟨HK2,⟨hn,rfl⟩ | ⟨n,l2,v,hn,rfl,rfl,HR2⟩⟩
   . rw [HQ.out] at hn;cases hn
   rw [HQ.out] at hn;obtain ⟨rfl,rfl⟩:=vak (vac hn);have HB2:Hid (w2.heap[w.heap.size]? = some zcx):=(HK2.block w.heap.size (by omega) (by omega)).trans HB1.out;obtain ⟨h0,h1,h2,h3,h4,h5⟩:=zad HB2.out;have hz2:=HK2.size
   have hq0:w.heap.size<w2.heap.size:=by omega
   have HF:Hid (zey R a cap ts w (zbw (f+1) l) (zh0 (w.heap.size<=·)) (.returned (.agg #[.int .i64 1,.int .i64 (hd l).n,.string ⟨#[]⟩,.string ⟨#[]⟩,.slice none 0 0])) (set5 w2 w.heap.size (.int .i64 1) (.int .i64 (hd l).n) (.string ⟨#[]⟩) (.string ⟨#[]⟩) (.slice none 0 0))):=
    zov (x:=.mk 1 (hd l).n ⟨#[]⟩ ⟨#[]⟩ []) HR.out HP.out (HK1.out.trans HK2) HR2 (vae _) (vae _) (lo:=w2.heap.size) (Or.inl rfl) hq0
   clear hn HR2 HK2;go_wp2_with fail;refine bodyPost_ret (v:=.agg #[.int .i64 1,.int .i64 (hd l).n,.string ⟨#[]⟩,.string ⟨#[]⟩,.slice none 0 0]) (by simp [results,Tryz.results283,go_sem,h0,h1,h2,h3,h4]) rfl HF.out
 go_wp2_with fail
 by_cases hs2:skB l tIn=true
 . refine (zbu R cap a ts l tIn w1 (by decide) HR1.out hs2).mono ?_
   rintro e w2 ⟨rfl,HR2,HK2⟩;have HB2:Hid (w2.heap[w.heap.size]? = some zcx):=(HK2.block w.heap.size (by omega) (by omega)).trans HB1.out;obtain ⟨h0,h1,h2,h3,h4,h5⟩:=zad HB2.out;have hz2:=HK2.size
   have hq0:w.heap.size<w2.heap.size:=by omega
   have HF:Hid (zey R a cap ts w (zbw (f+1) l) (zh0 (w.heap.size<=·)) (.returned (.agg #[.int .i64 2,.int .i64 0,.string ⟨#[]⟩,.string ⟨#[]⟩,.slice none 0 0])) (set5 w2 w.heap.size (.int .i64 2) (.int .i64 0) (.string ⟨#[]⟩) (.string ⟨#[]⟩) (.slice none 0 0))):=
    zov (x:=.mk 2 0 ⟨#[]⟩ ⟨#[]⟩ []) HR.out (by unfold zbw;rw [if_neg hk,if_pos hs2]) (HK1.out.trans HK2) HR2 (vae _) (vae _) (lo:=w2.heap.size) (Or.inl rfl) hq0
   clear HR2 HK2;go_wp2_with fail;refine bodyPost_ret (v:=.agg #[.int .i64 2,.int .i64 0,.string ⟨#[]⟩,.string ⟨#[]⟩,.slice none 0 0]) (by simp [results,Tryz.results283,go_sem,h0,h1,h2,h3,h4]) rfl HF.out
 refine (zcg R cap a ts l tIn w1 HR1.out (by simpa using hs2)).mono ?_;rintro e w2 ⟨rfl,HR2,HK2⟩;have HR2':Hid (Rd R a cap ts w2 l):=HR2;have HK2':Hid (Keeps R w w2):=HK1.out.trans HK2;have HB2:Hid (w2.heap[w.heap.size]? = some zcx):=(HK2.block w.heap.size (by omega) (by omega)).trans HB1.out;have hz2:=HK2.size;clear HR2 HK2 HR1 HK1 HB1;go_wp2_with fail
 by_cases hs3:skB l z70=true
 . have hl3:=zar (by decide) hs3
   refine (zbu R cap a ts l z70 w2 (by decide) HR2'.out hs3).mono ?_;rintro e w3 ⟨rfl,HR3,HK3⟩;have hz3:=HK3.size;have HB3:Hid (w3.heap[w.heap.size]? = some zcx):=(HK3.block w.heap.size (by omega) (by omega)).trans HB2.out;go_wp2_with fail;refine (HI.out.expr l.tail w3 HR3 (by omega)).mono ?_;rintro e w4 ⟨HK4,⟨hn,rfl⟩ | ⟨y,l4,v,hn,rfl,⟨a4,c4,rfl,hy1,hy2,hy3⟩,HR4⟩⟩
   . exact ⟨rfl,(HK2'.out.trans HK3).trans HK4,Or.inl ⟨by unfold zbw;rw [if_neg hk,if_neg hs2,if_pos hs3,hn],rfl⟩⟩
   have HB4:Hid (w4.heap[w.heap.size]? = some zcx):=(HK4.block w.heap.size (by omega) (by omega)).trans HB3.out;obtain ⟨h0,h1,h2,h3,h4,h5⟩:=zad HB4.out;have hz4:=HK4.size
   have hq0:w.heap.size<w4.heap.size:=by omega
   have HF:Hid (zey R a cap ts w (zbw (f+1) l) (zh0 (w.heap.size<=·)) (.returned (.agg #[.int .i64 6,.int .i64 0,.string ⟨#[]⟩,.string ⟨#[]⟩,.slice (some ⟨w4.heap.size,0,none⟩) 1 1])) ((set5 w4 w.heap.size (.int .i64 6) (.int .i64 0) (.string ⟨#[]⟩) (.string ⟨#[]⟩) (.slice (some ⟨w4.heap.size,0,none⟩) 1 1)).alloc (.cells #[.int .i64 y.op,.int .i64 y.n,.string y.mod,.string y.name,.slice a4 y.args.length c4] 174))):=
    z6m HR.out (by unfold zbw;rw [if_neg hk,if_neg hs2,if_pos hs3,hn]) ((HK2'.out.trans HK3).trans HK4) HR4 (vae _) (vae _) hy1 hy2 hy3 (by omega) hz4
   clear hn HR3 HR4 HK3 HK4 hy1 hy2 hy3;go_wp2_with fail;refine bodyPost_ret (v:=.agg #[.int .i64 6,.int .i64 0,.string ⟨#[]⟩,.string ⟨#[]⟩,.slice (some ⟨w4.heap.size,0,none⟩) 1 1]) (by simp [results,Tryz.results283,go_sem,h0,h1,h2,h3,h4,hq0]) rfl HF.out
 refine (zcg R cap a ts l z70 w2 HR2'.out (by simpa using hs3)).mono ?_;rintro e w3 ⟨rfl,HR3,HK3⟩;have HR3':Hid (Rd R a cap ts w3 l):=HR3;have HK3':Hid (Keeps R w w3):=HK2'.out.trans HK3;have HB3:Hid (w3.heap[w.heap.size]? = some zcx):=(HK3.block w.heap.size (by omega) (by omega)).trans HB2.out;have hz3:=HK3.size;clear HR3 HK3 HR2' HK2' HB2;go_wp2_with fail
 by_cases hs4:skB l tLp=true
 . have hl4:=zar (by decide) hs4
   refine (zbu R cap a ts l tLp w3 (by decide) HR3'.out hs4).mono ?_;rintro e w4 ⟨rfl,HR4,HK4⟩;have hz4:=HK4.size;have HB4:Hid (w4.heap[w.heap.size]? = some zcx):=(HK4.block w.heap.size (by omega) (by omega)).trans HB3.out;go_wp2_with fail;refine (HI.out.pair l.tail w4 HR4 (by omega)).mono ?_;rintro e w5 ⟨HK5,⟨hn,rfl⟩ | ⟨y,l5,v,hn,rfl,⟨a5,c5,rfl,hy1,hy2,hy3⟩,HR5⟩⟩
   . exact ⟨rfl,(HK3'.out.trans HK4).trans HK5,Or.inl ⟨by unfold zbw;rw [if_neg hk,if_neg hs2,if_neg hs3,if_pos hs4,hn],rfl⟩⟩
   have HB5:Hid (w5.heap[w.heap.size]? = some zcx):=(HK5.block w.heap.size (by omega) (by omega)).trans HB4.out;obtain ⟨h0,h1,h2,h3,h4,h5⟩:=zad HB5.out;have hz5:=HK5.size
   have HF:Hid (zey R a cap ts w (zbw (f+1) l) (zh0 (w.heap.size<=·)) (.returned (.agg #[.int .i64 y.op,.int .i64 y.n,.string y.mod,.string y.name,.slice a5 y.args.length c5])) (set5 w5 w.heap.size (.int .i64 y.op) (.int .i64 y.n) (.string y.mod) (.string y.name) (.slice a5 y.args.length c5))):=
    zov (x:=y) HR.out (by unfold zbw;rw [if_neg hk,if_neg hs2,if_neg hs3,if_pos hs4,hn]) ((HK3'.out.trans HK4).trans HK5) HR5 hy1 hy2 (lo:=w4.heap.size) hy3 (by omega)
   clear hn HR4 HR5 HK4 HK5 hy1 hy2 hy3;go_wp2_with fail;refine bodyPost_ret (v:=.agg #[.int .i64 y.op,.int .i64 y.n,.string y.mod,.string y.name,.slice a5 y.args.length c5]) (by simp [results,Tryz.results283,go_sem,h0,h1,h2,h3,h4]) rfl HF.out
 refine (zcg R cap a ts l tLp w3 HR3'.out (by simpa using hs4)).mono ?_;rintro e w4 ⟨rfl,HR4,HK4⟩;have HR4':Hid (Rd R a cap ts w4 l):=HR4;have HK4':Hid (Keeps R w w4):=HK3'.out.trans HK4;have HB4:Hid (w4.heap[w.heap.size]? = some zcx):=(HK4.block w.heap.size (by omega) (by omega)).trans HB3.out;have hz4:=HK4.size
 have HPX:Hid (zbw (f+1) l=match zyh l with
  | none=>none
  | some ((m,n),l1)=>
    if skB l1 tLs then (match zbw f l1.tail with | none=>none | some (x,l2)=>if skB l2 tRs then some (.mk 4 0 m n [x],l2.tail) else none)
    else if skB l1 tLp then (match zff f l1.tail with | none=>none | some (xs,l2)=>some (.mk 5 0 m n xs,l2))
    else some (.mk 3 0 m n [],l1)):=by
  show zbw (f+1) l=_
  conv=>lhs;unfold zbw
  rw [if_neg hk,if_neg hs2,if_neg hs3,if_neg hs4]
  rfl
 clear HR4 HK4 HR3' HK3' HB3 hk hs2 hs3 hs4;go_wp2_with fail;refine (z0d R cap a ts l _ (HR4'.out.alloc _)).mono ?_;rintro e w5 ⟨HK5,⟨hn,rfl⟩ | ⟨⟨m,n⟩,l5,v,hn,rfl,⟨rfl,hm,hnn⟩,HR5⟩⟩
 . exact ⟨rfl,(HK4'.out.alloc _).trans HK5,Or.inl ⟨by rw [HPX.out,hn],rfl⟩⟩
 have hl5:=ztm hn
 have HPY:Hid (zbw (f+1) l=if skB l5 tLs then (match zbw f l5.tail with | none=>none | some (x,l2)=>if skB l2 tRs then some (.mk 4 0 m n [x],l2.tail) else none)
  else if skB l5 tLp then (match zff f l5.tail with | none=>none | some (xs,l2)=>some (.mk 5 0 m n xs,l2))
  else some (.mk 3 0 m n [],l5)):=by
  show zbw (f+1) l=_;rw [HPX.out,hn]
 have HR5':Hid (Rd R a cap ts w5 l5):=HR5;have HK5':Hid (Keeps R w w5):=(HK4'.out.alloc _).trans HK5;have HB5:Hid (w5.heap[w.heap.size]? = some zcx):=(HK5.block w.heap.size (by simp;omega) (by omega)).trans (zae HB4.out);have HC5:Hid (w5.heap[w4.heap.size]? = some (.cells #[.int .i64 3,.int .i64 0,.string ⟨#[]⟩,.string ⟨#[]⟩,.slice none 0 0] 174 (0,0))):=(HK5.block w4.heap.size (by simp) (by omega)).trans (heap_newP _ _);have hz5:=HK5.size;simp at hz5;obtain ⟨h0,h1,h2,h3,h4,h5⟩:=zad HC5.out;clear hn HR5 HK5 HPX HR4' HB4 HK4';have HR6:Hid (Rd R a cap ts ((w5.setCell ⟨w4.heap.size,2,none⟩ (.string m)).setCell ⟨w4.heap.size,3,none⟩ (.string n)) l5):=(HR5'.out.setAbove HR.out (by show _<=w4.heap.size;omega) _).setAbove HR.out (by show _<=w4.heap.size;omega) _;have HK6:Hid (Keeps R w ((w5.setCell ⟨w4.heap.size,2,none⟩ (.string m)).setCell ⟨w4.heap.size,3,none⟩ (.string n))):=(HK5'.out.set (by show _<=w4.heap.size;omega) _).set (by show _<=w4.heap.size;omega) _
 have HB6:Hid (((w5.setCell ⟨w4.heap.size,2,none⟩ (.string m)).setCell ⟨w4.heap.size,3,none⟩ (.string n)).heap[w.heap.size]? = some zcx):=(zac (by show w.heap.size≠w4.heap.size;omega) _).trans ((zac (by show w.heap.size≠w4.heap.size;omega) _).trans HB5.out);have HC6:Hid (((w5.setCell ⟨w4.heap.size,2,none⟩ (.string m)).setCell ⟨w4.heap.size,3,none⟩ (.string n)).heap[w4.heap.size]? = some (.cells #[.int .i64 3,.int .i64 0,.string m,.string n,.slice none 0 0] 174 (0,0))):=zag (zag HC5.out _) _
 have hz6:((w5.setCell ⟨w4.heap.size,2,none⟩ (.string m)).setCell ⟨w4.heap.size,3,none⟩ (.string n)).heap.size=w5.heap.size:=by simp only [var]
 clear HR5' HK5' HB5;go_wp2_with fail;generalize (w5.setCell ⟨w4.heap.size,2,none⟩ (.string m)).setCell ⟨w4.heap.size,3,none⟩ (.string n)=w6 at *;clear h0 h1 h2 h3 h4 h5 HC5
 by_cases hs7:skB l5 tLs=true
 . have hl7:=zar (by decide) hs7
   refine (zbu R cap a ts l5 tLs w6 (by decide) HR6.out hs7).mono ?_;rintro e w7 ⟨rfl,HR7,HK7⟩;have hz7:=HK7.size;have HB7:Hid (w7.heap[w.heap.size]? = some zcx):=(HK7.block w.heap.size (by omega) (by omega)).trans HB6.out;have HC7:Hid (w7.heap[w4.heap.size]? = some (.cells #[.int .i64 3,.int .i64 0,.string m,.string n,.slice none 0 0] 174 (0,0))):=(HK7.block w4.heap.size (by omega) (by omega)).trans HC6.out;obtain ⟨h0,h1,h2,h3,h4,h5⟩:=zad HC7.out;have HR8:Hid (Rd R a cap ts (w7.setCell ⟨w4.heap.size,0,none⟩ (.int .i64 4)) l5.tail):=HR7.setAbove HR.out (by show _<=w4.heap.size;omega) _;have HK8:Hid (Keeps R w (w7.setCell ⟨w4.heap.size,0,none⟩ (.int .i64 4))):=(HK6.out.trans HK7).set (by show _<=w4.heap.size;omega) _;have HB8:Hid ((w7.setCell ⟨w4.heap.size,0,none⟩ (.int .i64 4)).heap[w.heap.size]? = some zcx):=(zac (by show w.heap.size≠w4.heap.size;omega) _).trans HB7.out
   have HC8:Hid ((w7.setCell ⟨w4.heap.size,0,none⟩ (.int .i64 4)).heap[w4.heap.size]? = some (.cells #[.int .i64 4,.int .i64 0,.string m,.string n,.slice none 0 0] 174 (0,0))):=zag HC7.out _
   have hz8:(w7.setCell ⟨w4.heap.size,0,none⟩ (.int .i64 4)).heap.size=w7.heap.size:=by simp only [var]
   clear HR7 HK7 HB7 HR6 HK6 HB6 HC6;go_wp2_with fail;generalize w7.setCell ⟨w4.heap.size,0,none⟩ (.int .i64 4)=w8 at *;clear h0 h1 h2 h3 h4 h5 HC7;refine (HI.out.expr l5.tail w8 HR8.out (by omega)).mono ?_;rintro e w9 ⟨HK9,⟨hn,rfl⟩ | ⟨y,l9,v,hn,rfl,⟨a9,c9,rfl,hy1,hy2,hy3⟩,HR9⟩⟩
   . exact ⟨rfl,HK8.out.trans HK9,Or.inl ⟨by rw [HPY.out,if_pos hs7,hn],rfl⟩⟩
   have hz9:=HK9.size;have HB9:Hid (w9.heap[w.heap.size]? = some zcx):=(HK9.block w.heap.size (by omega) (by omega)).trans HB8.out;have HC9:Hid (w9.heap[w4.heap.size]? = some (.cells #[.int .i64 4,.int .i64 0,.string m,.string n,.slice none 0 0] 174 (0,0))):=(HK9.block w4.heap.size (by omega) (by omega)).trans HC8.out;obtain ⟨h0,h1,h2,h3,h4,h5⟩:=zad HC9.out
   have hq4:w4.heap.size<w9.heap.size:=by omega
   have HN9:Hid (zbw f l5.tail=some (y,l9)):=hn
   have HY9:Hid (y.mod.size<=maxLen/\y.name.size<=maxLen/\EAt w9 (w8.heap.size<=·) a9 y.args.length (zbz y.args)):=⟨hy1,hy2,hy3⟩
   have HR9':Hid (Rd R a cap ts w9 l9):=HR9;have HK9':Hid (Keeps R w w9):=HK8.out.trans HK9;clear hn HR9 HK9 hy1 hy2 hy3 HB8 HC8 HR8 HK8;go_wp2_with fail;refine (zgj R cap _ a ts l9 tRs _ (by simp) ((HR9'.out.setAbove HR.out (by show _<=w4.heap.size;omega) _).alloc _) (by decide)).mono ?_;rintro e w10 ⟨HK10,⟨hs5,rfl⟩ | ⟨hs5,rfl,HR10⟩⟩
   . exact ⟨rfl,((HK9'.out.set (by show _<=w4.heap.size;omega) _).alloc _).trans HK10,Or.inl ⟨by rw [HPY.out,if_pos hs7,HN9.out];simp [hs5],rfl⟩⟩
   have HP:Hid (zbw (f+1) l=some (.mk 4 0 m n [y],l9.tail)):=by show zbw (f+1) l=_;rw [HPY.out,if_pos hs7,HN9.out];simp [hs5]
   have hz10:=HK10.size;simp at hz10;have HB10:Hid (w10.heap[w.heap.size]? = some zcx):=(HK10.block w.heap.size (by simp;omega) (by omega)).trans (zae ((zac (by show w.heap.size≠w4.heap.size;omega) _).trans HB9.out));have HC10:Hid (w10.heap[w4.heap.size]? = some (.cells #[.int .i64 4,.int .i64 0,.string m,.string n,.slice (some ⟨w9.heap.size,0,none⟩) 1 1] 174 (0,0))):=(HK10.block w4.heap.size (by simp;omega) (by omega)).trans (zae (zag HC9.out _))
   have HD10:Hid (w10.heap[w9.heap.size]? = some (.cells #[.int .i64 y.op,.int .i64 y.n,.string y.mod,.string y.name,.slice a9 y.args.length c9] 174 (0,0))):=(HK10.block w9.heap.size (by simp) (by omega)).trans (by
    have e:=heap_newP (w9.setCell ⟨w4.heap.size,4,none⟩ (.slice (some ⟨w9.heap.size,0,none⟩) 1 1)) (.cells #[.int .i64 y.op,.int .i64 y.n,.string y.mod,.string y.name,.slice a9 y.args.length c9] 174);simp only [var] at e
    exact e)
   have HM10:zai w9 (w8.heap.size<=·) w10 (w8.heap.size<=·):=(((zai.refl w9 _).set (by intro b _ hb;show b≠w4.heap.size;omega) _).alloc _).keeps HK10 (by intro b _ hb;omega)
   have HF:Hid (zey R a cap ts w (zbw (f+1) l) (zh0 (w.heap.size<=·)) (.returned (.agg #[.int .i64 4,.int .i64 0,.string m,.string n,.slice (some ⟨w9.heap.size,0,none⟩) 1 1])) (set5 w10 w.heap.size (.int .i64 4) (.int .i64 0) (.string m) (.string n) (.slice (some ⟨w9.heap.size,0,none⟩) 1 1))):=
    zov (x:=.mk 4 0 m n [y]) HR.out HP.out (((HK9'.out.set (by show _<=w4.heap.size;omega) _).alloc _).trans HK10) HR10 hm hnn (lo:=w8.heap.size) (zmg HY9.out.1 HY9.out.2.1 HY9.out.2.2 HM10 HD10.out (by omega)) (by omega)
   obtain ⟨h0,h1,h2,h3,h4,h5⟩:=zad HB10.out;obtain ⟨g0,g1,g2,g3,g4,g5⟩:=zad HC10.out;clear HK10 HR10 HM10;go_wp2_with fail;refine bodyPost_ret (v:=.agg #[.int .i64 4,.int .i64 0,.string m,.string n,.slice (some ⟨w9.heap.size,0,none⟩) 1 1]) (by simp [results,Tryz.results283,go_sem,h0,h1,h2,h3,h4]) rfl HF.out
 refine (zcg R cap a ts l5 tLs w6 HR6.out (by simpa using hs7)).mono ?_;rintro e w7 ⟨rfl,HR7,HK7⟩;have hz7:=HK7.size;have HR7':Hid (Rd R a cap ts w7 l5):=HR7;have HK7':Hid (Keeps R w w7):=HK6.out.trans HK7;have HB7:Hid (w7.heap[w.heap.size]? = some zcx):=(HK7.block w.heap.size (by omega) (by omega)).trans HB6.out;have HC7:Hid (w7.heap[w4.heap.size]? = some (.cells #[.int .i64 3,.int .i64 0,.string m,.string n,.slice none 0 0] 174 (0,0))):=(HK7.block w4.heap.size (by omega) (by omega)).trans HC6.out;clear HR7 HK7 HR6 HK6 HB6 HC6;go_wp2_with fail
 by_cases hs8:skB l5 tLp=true
 . have hl8:=zar (by decide) hs8
   refine (zbu R cap a ts l5 tLp w7 (by decide) HR7'.out hs8).mono ?_;rintro e w8 ⟨rfl,HR8,HK8⟩;have hz8:=HK8.size;have HB8:Hid (w8.heap[w.heap.size]? = some zcx):=(HK8.block w.heap.size (by omega) (by omega)).trans HB7.out;have HC8:Hid (w8.heap[w4.heap.size]? = some (.cells #[.int .i64 3,.int .i64 0,.string m,.string n,.slice none 0 0] 174 (0,0))):=(HK8.block w4.heap.size (by omega) (by omega)).trans HC7.out;obtain ⟨h0,h1,h2,h3,h4,h5⟩:=zad HC8.out;have HR9:Hid (Rd R a cap ts (w8.setCell ⟨w4.heap.size,0,none⟩ (.int .i64 5)) l5.tail):=HR8.setAbove HR.out (by show _<=w4.heap.size;omega) _;have HK9:Hid (Keeps R w (w8.setCell ⟨w4.heap.size,0,none⟩ (.int .i64 5))):=(HK7'.out.trans HK8).set (by show _<=w4.heap.size;omega) _;have HB9:Hid ((w8.setCell ⟨w4.heap.size,0,none⟩ (.int .i64 5)).heap[w.heap.size]? = some zcx):=(zac (by show w.heap.size≠w4.heap.size;omega) _).trans HB8.out
   have HC9:Hid ((w8.setCell ⟨w4.heap.size,0,none⟩ (.int .i64 5)).heap[w4.heap.size]? = some (.cells #[.int .i64 5,.int .i64 0,.string m,.string n,.slice none 0 0] 174 (0,0))):=zag HC8.out _
   have hz9:(w8.setCell ⟨w4.heap.size,0,none⟩ (.int .i64 5)).heap.size=w8.heap.size:=by simp only [var]
   clear HR8 HK8 HB8 HR7' HK7' HB7 HC7;go_wp2_with fail;generalize w8.setCell ⟨w4.heap.size,0,none⟩ (.int .i64 5)=w9 at *;clear h0 h1 h2 h3 h4 h5 HC8;refine (HI.out.args l5.tail w9 HR9.out (by omega)).mono ?_;rintro e w10 ⟨HK10,⟨hn,rfl⟩ | ⟨xs,l10,v,hn,rfl,⟨a10,c10,rfl,hx10⟩,HR10⟩⟩
   . exact ⟨rfl,HK9.out.trans HK10,Or.inl ⟨by rw [HPY.out,if_neg hs7,if_pos hs8,hn],rfl⟩⟩
   have hz10:=HK10.size
   have HP:Hid (zbw (f+1) l=some (.mk 5 0 m n xs,l10)):=by show zbw (f+1) l=_;rw [HPY.out,if_neg hs7,if_pos hs8,hn]
   have HB10:Hid (w10.heap[w.heap.size]? = some zcx):=(HK10.block w.heap.size (by omega) (by omega)).trans HB9.out;have HC10:Hid (w10.heap[w4.heap.size]? = some (.cells #[.int .i64 5,.int .i64 0,.string m,.string n,.slice none 0 0] 174 (0,0))):=(HK10.block w4.heap.size (by omega) (by omega)).trans HC9.out
   have HF:Hid (zey R a cap ts w (zbw (f+1) l) (zh0 (w.heap.size<=·)) (.returned (.agg #[.int .i64 5,.int .i64 0,.string m,.string n,.slice a10 xs.length c10])) (set5 (w10.setCell ⟨w4.heap.size,4,none⟩ (.slice a10 xs.length c10)) w.heap.size (.int .i64 5) (.int .i64 0) (.string m) (.string n) (.slice a10 xs.length c10))):=
    zov (x:=.mk 5 0 m n xs) HR.out HP.out ((HK9.out.trans HK10).set (by show _<=w4.heap.size;omega) _) (HR10.setAbove HR.out (by show _<=w4.heap.size;omega) _) hm hnn (lo:=w9.heap.size) (hx10.moves ((zai.refl w10 _).set (by intro b _ hb;show b≠w4.heap.size;omega) _)) (by omega)
   obtain ⟨h0,h1,h2,h3,h4,h5⟩:=zad HB10.out;obtain ⟨g0,g1,g2,g3,g4,g5⟩:=zad HC10.out
   have hne:w.heap.size≠w4.heap.size:=by omega
   clear HK10 HR10 hn;go_wp2_with fail;refine bodyPost_ret (v:=.agg #[.int .i64 5,.int .i64 0,.string m,.string n,.slice a10 xs.length c10]) (by simp [results,Tryz.results283,go_sem,h0,h1,h2,h3,h4]) rfl HF.out
 refine (zcg R cap a ts l5 tLp w7 HR7'.out (by simpa using hs8)).mono ?_;rintro e w8 ⟨rfl,HR8,HK8⟩;have hz8:=HK8.size;have HB8:Hid (w8.heap[w.heap.size]? = some zcx):=(HK8.block w.heap.size (by omega) (by omega)).trans HB7.out;have HC8:Hid (w8.heap[w4.heap.size]? = some (.cells #[.int .i64 3,.int .i64 0,.string m,.string n,.slice none 0 0] 174 (0,0))):=(HK8.block w4.heap.size (by omega) (by omega)).trans HC7.out
 have HF:Hid (zey R a cap ts w (zbw (f+1) l) (zh0 (w.heap.size<=·)) (.returned (.agg #[.int .i64 3,.int .i64 0,.string m,.string n,.slice none 0 0])) (set5 w8 w.heap.size (.int .i64 3) (.int .i64 0) (.string m) (.string n) (.slice none 0 0))):=
  zov (x:=.mk 3 0 m n []) HR.out (by rw [HPY.out,if_neg hs7,if_neg hs8]) (HK7'.out.trans HK8) HR8 hm hnn (lo:=w8.heap.size) (Or.inl rfl) (by omega)
 obtain ⟨h0,h1,h2,h3,h4,h5⟩:=zad HB8.out;obtain ⟨g0,g1,g2,g3,g4,g5⟩:=zad HC8.out;clear HK8 HR8;go_wp2_with fail;refine bodyPost_ret (v:=.agg #[.int .i64 3,.int .i64 0,.string m,.string n,.slice none 0 0]) (by simp [results,Tryz.results283,go_sem,h0,h1,h2,h3,h4]) rfl HF.out
theorem z5h (R cap:Nat) (a:OA) (ts:List Tk):∀ f,ExC R cap a ts f:=by
 intro f
 induction f using Nat.strongRecOn with
 | ind f ih=>
   cases f with
   | zero=>exact ⟨fun _ _ _ h=>by omega,fun _ _ _ h=>by omega,fun _ _ _ h=>by omega⟩
   | succ f=>
     exact ⟨fun l w h hf=>z0j R cap a ts f (ih f (by omega)) l w h hf,fun l w h hf=>z0h R cap a ts f (ih f (by omega)) l w h hf,fun l w h hf=>z0i R cap a ts f (fun g hg=>ih g (by omega)) l w h hf⟩
theorem zfs (R cap:Nat) (a:OA) (ts l:List Tk) (w:World) (h:Rd R a cap ts w l) :
 Calls Tryz.prog 283 #[.pointer (some ⟨R,0,none⟩)] w (zey R a cap ts w (pX l) (zh0 (w.heap.size<=·))):=(z5h R cap a ts _).expr l w h (by omega)
theorem z3k (R cap:Nat) (a:OA) (ts l:List Tk) (w:World) (h:Rd R a cap ts w l) :
 Calls Tryz.prog 295 #[.pointer (some ⟨R,0,none⟩)] w (zey R a cap ts w (pAs l) (yah (w.heap.size<=·))):=(z5h R cap a ts _).args l w h (by omega)
end Go.Proofs.YtndkhgakfodldaaGreatDoor

namespace Go.Proofs.YtndkhgakfodldaaGreatDoor
set_option maxRecDepth 100000
set_option maxHeartbeats 3200000
open Go.RowKit Go.Shelf
section
variable {P:Program} {ops:Array Oper} {o:Oper} {a:Act} {w:World} {K:Act->World->Prop} {Q:Exit->Act->World->Prop} {E:Prop}
theorem zow (f:FuncId) (x:Operand) (ty:TypeId) (ho:o.op = .call { callee:=.value (.func f),args:=#[x],argTypes:=#[ty] })
 (hen:Enters P f) (v:Value) (hx:a.eval x=v):(execOp a.eval o).run P w = .ok (.enter f #[v]) w:=by
 have h:=hen #[v] w;have hf:a.eval (.func f) = .func (.func f) #[] #[]:=rfl;simp [execOp,ho,resolve,invoke,hx,hf,h,Deferred.ofValue]
theorem zb4 (hgd:o.guard=none) (f:FuncId) (x:Operand) (ty:TypeId) (ho:o.op = .call { callee:=.value (.func f),args:=#[x],argTypes:=#[ty] })
 (hen:Enters P f) (v:Value) (hx:a.eval x=v) {R:Value->World->Prop} (hC:Calls P f #[v] w fun e w'=>∃ u,e = .returned u/\R u w')
 (h:∀ u w',R u w'->K (a.put o.dst u) w'):if Region.wanted o (yielded ops a.tmps)=true then Oper.wp P o a w K Q else E:=by
 have hw:Region.wanted o (yielded ops a.tmps)=true:=by simp [Region.wanted,hgd]
 rw [if_pos hw];unfold Oper.wp;rw [zow f x ty ho hen v hx,vdy];refine hC.mono ?_;rintro e w' ⟨u,rfl,hR⟩;exact h u w' hR
theorem zbl (hgd:o.guard=none) (f:FuncId) (x:Operand) (ty:TypeId) (ho:o.op = .call { callee:=.value (.func f),args:=#[x],argTypes:=#[ty] })
 (hen:Enters P f) (v:Value) (hx:a.eval x=v) (c:List PanicEntry) {R:World->Prop} (hC:Calls P f #[v] w fun e w'=>e = .panicked c/\R w')
 (h:∀ w',R w'->Q (.panic c) a w'):if Region.wanted o (yielded ops a.tmps)=true then Oper.wp P o a w K Q else E:=by
 have hw:Region.wanted o (yielded ops a.tmps)=true:=by simp [Region.wanted,hgd]
 rw [if_pos hw];unfold Oper.wp;rw [zow f x ty ho hen v hx,vdy];refine hC.mono ?_;rintro e w' ⟨rfl,hR⟩;exact h w' hR
end
def zg5 (A:Nat->Prop) (s:St) (w:World) (v:Value):Prop:=∃ a1 c1 a2 c2 a3 c3,v = .agg #[.int .i64 s.op,.string s.mod,.string s.name,.slice a1 s.args.length c1,.slice a2 s.body.length c2,.slice a3 s.other.length c3]/\s.mod.size<=maxLen/\s.name.size<=maxLen/\
 EAt w A a1 s.args.length (zbz s.args)/\EAt w A a2 s.body.length (zb0 s.body)/\EAt w A a3 s.other.length (zb0 s.other)
def yai (A:Nat->Prop) (xs:List St) (w:World) (v:Value):Prop:=∃ a cap,v = .slice a xs.length cap/\EAt w A a xs.length (zb0 xs)
def z0k (s:St) (a1:OA) (c1:Nat) (a2:OA) (c2:Nat) (a3:OA) (c3:Nat):List Value:=[.int .i64 s.op,.string s.mod,.string s.name,.slice a1 s.args.length c1,.slice a2 s.body.length c2,.slice a3 s.other.length c3]
theorem z3l {A:Nat->Prop} {s:St} {w:World} {a1 a2 a3:OA} {c1 c2 c3:Nat} (h1:s.mod.size<=maxLen) (h2:s.name.size<=maxLen) (h3:EAt w A a1 s.args.length (zbz s.args)) (h4:EAt w A a2 s.body.length (zb0 s.body)) (h5:EAt w A a3 s.other.length (zb0 s.other)):za1 w A s.ds (z0k s a1 c1 a2 c2 a3 c3):=by
 cases s
 unfold St.ds;exact .cons zrk (.cons (zyl h1) (.cons (zyl h2) (.cons h3.val (.cons h4.val (.cons h5.val .nil)))))
abbrev za8:Obj:=.cells #[.int .i64 0,.string ⟨#[]⟩,.string ⟨#[]⟩,.slice none 0 0,.slice none 0 0,.slice none 0 0] 176 (0,0)
theorem st_end {R cap:Nat} {a:OA} {ts l l':List Tk} {w w1:World} {r:Option (St × List Tk)} {s:St} {a1 a2 a3:OA} {c1 c2 c3:Nat} (h0:Rd R a cap ts w l) (hr:r=some (s,l')) (hk:Keeps R w w1) (hrd:Rd R a cap ts w1 l')
 (hx1:s.mod.size<=maxLen) (hx2:s.name.size<=maxLen) {lo:Nat} (h1:EAt w1 (lo<=·) a1 s.args.length (zbz s.args)) (h2:EAt w1 (lo<=·) a2 s.body.length (zb0 s.body)) (h3:EAt w1 (lo<=·) a3 s.other.length (zb0 s.other)) (hlo:w.heap.size<lo) :
 zey R a cap ts w r (zg5 (w.heap.size<=·)) (.returned (.agg #[.int .i64 s.op,.string s.mod,.string s.name,.slice a1 s.args.length c1,.slice a2 s.body.length c2,.slice a3 s.other.length c3])) (set6 w1 w.heap.size (.int .i64 s.op) (.string s.mod) (.string s.name) (.slice a1 s.args.length c1) (.slice a2 s.body.length c2) (.slice a3 s.other.length c3)):=by
 have hm:zai w1 (lo<=·) (set6 w1 w.heap.size (.int .i64 s.op) (.string s.mod) (.string s.name) (.slice a1 s.args.length c1) (.slice a2 s.body.length c2) (.slice a3 s.other.length c3)) (w.heap.size<=·):=((zai.refl w1 (lo<=·)).set6 (by intro b _ hb;omega) _ _ _ _ _ _).to (by omega);exact ⟨hk.set6 (vaa _) _ _ _ _ _ _,Or.inr ⟨s,l',_,hr,rfl,⟨a1,c1,a2,c2,a3,c3,rfl,hx1,hx2,h1.moves hm,h2.moves hm,h3.moves hm⟩,hrd.set6 h0 (vaa _) _ _ _ _ _ _⟩⟩
theorem zmh (R cap:Nat) (a:OA) (ts l:List Tk) (w:World) (h:Rd R a cap ts w l) (op:Int) (mod name:ByteArray) (a1 a2 a3:OA) (n1 n2 n3 c1 c2 c3:Nat) :
 Calls Tryz.prog 284 #[.pointer (some ⟨R,0,none⟩),.agg #[.int .i64 op,.string mod,.string name,.slice a1 n1 c1,.slice a2 n2 c2,.slice a3 n3 c3]] w fun e w'=>Keeps R w w'/\
  ((skB l zis=false/\e = .panicked zaq)\/(skB l zis=true/\e = .returned (.agg #[.int .i64 op,.string mod,.string name,.slice a1 n1 c1,.slice a2 n2 c2,.slice a3 n3 c3])/\Rd R a cap ts w' l.tail)):=by
 have HR:Hid (Rd R a cap ts w l):=h;have hRw:=h.lt;clear h;go_enter Tryz.func284,Tryz.ntmps284;go_wp2_with fail;refine (zgj R cap _ a ts l zis _ (by simp) ((HR.out.alloc _).alloc _) (by decide)).mono ?_;rintro e w1 ⟨HK1,⟨hs,rfl⟩ | ⟨hs,rfl,HR1⟩⟩
 . exact ⟨rfl,(((Keeps.refl R w).alloc _).alloc _).trans HK1,Or.inl ⟨hs,rfl⟩⟩
 have hz1:=HK1.size;simp at hz1;have HB1:Hid (w1.heap[w.heap.size]? = some (.cells #[.int .i64 op,.string mod,.string name,.slice a1 n1 c1,.slice a2 n2 c2,.slice a3 n3 c3] 176 (0,0))):=(HK1.block w.heap.size (by simp;omega) (by omega)).trans (zae (heap_newP _ _));have HC1:Hid (w1.heap[w.heap.size+1]? = some za8):=(HK1.block (w.heap.size+1) (by simp) (by omega)).trans (by have e:=heap_newP (w.alloc (.cells #[.int .i64 op,.string mod,.string name,.slice a1 n1 c1,.slice a2 n2 c2,.slice a3 n3 c3] 176)) za8;simpa using e);have HK1':Hid (Keeps R w w1):=(((Keeps.refl R w).alloc _).alloc _).trans HK1;have HR1':Hid (Rd R a cap ts w1 l.tail):=HR1;obtain ⟨f0,f1,f2,f3,f4,f5,f6⟩:=zaw HB1.out;obtain ⟨g0,g1,g2,g3,g4,g5,g6⟩:=zaw HC1.out;clear HK1 HR1;go_wp2_with fail;refine bodyPost_ret (v:=.agg #[.int .i64 op,.string mod,.string name,.slice a1 n1 c1,.slice a2 n2 c2,.slice a3 n3 c3]) (by simp [results,Tryz.results284,go_sem,g0,g1,g2,g3,g4,g5]) rfl ⟨HK1'.out.set6 (by omega) _ _ _ _ _ _,Or.inr ⟨hs,rfl,HR1'.out.set6 HR.out (by omega) _ _ _ _ _ _⟩⟩
theorem zox {R cap:Nat} {a:OA} {ts l':List Tk} {w w':World} {r:Option (St × List Tk)} {s:St} {a1 a2 a3:OA} {c1 c2 c3:Nat} (hr:r=some (s,l')) (hk:Keeps R w w') (hrd:Rd R a cap ts w' l')
 (hx1:s.mod.size<=maxLen) (hx2:s.name.size<=maxLen) (h1:EAt w' (w.heap.size<=·) a1 s.args.length (zbz s.args)) (h2:EAt w' (w.heap.size<=·) a2 s.body.length (zb0 s.body)) (h3:EAt w' (w.heap.size<=·) a3 s.other.length (zb0 s.other)) :
 zey R a cap ts w r (zg5 (w.heap.size<=·)) (.returned (.agg #[.int .i64 s.op,.string s.mod,.string s.name,.slice a1 s.args.length c1,.slice a2 s.body.length c2,.slice a3 s.other.length c3])) w':=
 ⟨hk,Or.inr ⟨s,l',_,hr,rfl,⟨a1,c1,a2,c2,a3,c3,rfl,hx1,hx2,h1,h2,h3⟩,hrd⟩⟩
theorem z8j (l:List Tk) (t u v:ByteArray):zkv l [t,u,v]=if skB l t then some t else if skB l u then some u else if skB l v then some v else none:=by
 unfold zkv;rw [vcx,vcx,vcx];cases skB l t<;>cases skB l u<;>cases skB l v<;>rfl
theorem z8k (R cap n:Nat) (a:OA) (ts l:List Tk) (t u v:ByteArray) (w:World) (hn:n=w.heap.size) (h:Rd R a cap ts w l) (ht:0<t.size) (hu:0<u.size) (hv:0<v.size) :
 Calls Tryz.prog 195 #[.pointer (some ⟨R,0,none⟩),.slice (some ⟨n,0,none⟩) 3 3] (w.alloc (.cells #[.string t,.string u,.string v] 9)) fun e w'=>Keeps R w w'/\((skB l t=false/\skB l u=false/\skB l v=false/\e = .panicked zaq)\/(skB l t=true/\e = .returned (.string t)/\Rd R a cap ts w' l.tail)\/(skB l t=false/\skB l u=true/\e = .returned (.string u)/\Rd R a cap ts w' l.tail)\/(skB l t=false/\skB l u=false/\skB l v=true/\e = .returned (.string v)/\Rd R a cap ts w' l.tail)):=by
 have hlt:=h.lt;subst hn;refine (zlc R cap w.heap.size 3 a ts l [t,u,v] _ (h.alloc _) (by simp) (by omega) (by simp) (fun i hi=>?_) (fun i hi=>?_)).mono ?_
 . obtain rfl | rfl | rfl:i=0\/i=1\/i=2:=by simp at hi;omega
   all_goals simp
 . obtain rfl | rfl | rfl:i=0\/i=1\/i=2:=by simp at hi;omega
   . exact ht
   . exact hu
   . exact hv
 . rintro e w' ⟨hk,hr⟩
   refine ⟨((Keeps.refl R w).alloc _).trans hk,?_⟩;rw [z8j] at hr
   have key:∀ x:ByteArray,((some x).map fun t=>(t,l.tail))=some (x,l.tail):=fun _=>rfl
   cases hs:skB l t<;>cases hs2:skB l u<;>cases hs3:skB l v<;>rw [hs,hs2,hs3] at hr<;>simp only [vcs,if_false,if_true,Option.map_none,Option.map_some] at hr
   . rcases hr with ⟨_,rfl⟩ | ⟨x,l',y,hr,_⟩
     . exact Or.inl ⟨rfl,rfl,rfl,rfl⟩
     . cases hr
   all_goals
    rcases hr with ⟨hr,_⟩ | ⟨x,l',y,hr,rfl,rfl,hR⟩
    . cases hr
    . obtain ⟨rfl,rfl⟩:=vak (vac hr)
      simp [hR]
theorem z6n {R cap:Nat} {a:OA} {ts l l8:List Tk} {w w8 w9:World} {r:Option (St × List Tk)} {x y:Ex} {m n:ByteArray} {g9 c9:Nat} (h0:Rd R a cap ts w l) (hr:r=some (.mk 2 m n [x,y] [] [],l8)) (HK8:Keeps R w w8) (HR8:Rd R a cap ts w8 l8)
 (hm:m.size<=maxLen) (hnn:n.size<=maxLen) (HB9:Below (w.heap.size+2) w8 w9) (HO9:Row (w.heap.size+2) 174 5 w9 (.slice (some ⟨g9,0,none⟩) 2 c9) 2 (x.ds++y.ds)) :
 zey R a cap ts w r (zg5 (w.heap.size<=·)) (.returned (.agg #[.int .i64 2,.string m,.string n,.slice (some ⟨g9,0,none⟩) 2 c9,.slice none 0 0,.slice none 0 0])) (set6 (w9.setCell ⟨w.heap.size+1,3,none⟩ (.slice (some ⟨g9,0,none⟩) 2 c9)) w.heap.size (.int .i64 2) (.string m) (.string n) (.slice (some ⟨g9,0,none⟩) 2 c9) (.slice none 0 0) (.slice none 0 0)):=by
 have hw9:Below w.heap.size w8 w9:=HB9.mono (by omega)
 have hd:zbz [x,y]=x.ds++y.ds:=by simp [zbz]
 obtain ⟨a',c',hv,hat⟩:=HO9.slice
 injection hv with hv1 hv2 hv3
 rw [← hv1,← hd] at hat;have hat':=hat.moves ((((zai.refl w9 (w.heap.size+2<=·)).set (p:=⟨w.heap.size+1,3,none⟩) (by intro b _ hb;show b≠w.heap.size+1;omega) (.slice (some ⟨g9,0,none⟩) 2 c9)).set6 (b:=w.heap.size) (by intro b _ hb;omega) (.int .i64 2) (.string m) (.string n) (.slice (some ⟨g9,0,none⟩) 2 c9) (.slice none 0 0) (.slice none 0 0)).to (lo':=w.heap.size) (by omega))
 have hk9:=(((HK8.belowOf hw9).set (p:=⟨w.heap.size+1,3,none⟩) (by show w.heap.size<=w.heap.size+1;omega) (.slice (some ⟨g9,0,none⟩) 2 c9)).set6 (b:=w.heap.size) (vaa _) (.int .i64 2) (.string m) (.string n) (.slice (some ⟨g9,0,none⟩) 2 c9) (.slice none 0 0) (.slice none 0 0))
 have hr9:=((HR8.belowOf h0 hw9).setAbove h0 (p:=⟨w.heap.size+1,3,none⟩) (by show w.heap.size<=w.heap.size+1;omega) (.slice (some ⟨g9,0,none⟩) 2 c9)).set6 h0 (b:=w.heap.size) (vaa _) (.int .i64 2) (.string m) (.string n) (.slice (some ⟨g9,0,none⟩) 2 c9) (.slice none 0 0) (.slice none 0 0);exact zox (s:=.mk 2 m n [x,y] [] []) hr hk9 hr9 hm hnn hat' (Or.inl rfl) (Or.inl rfl)
theorem z6o:Enters Tryz.prog 283:=enters_of Tryz.func283 (by kernel_rfl) rfl
theorem z0l (R cap:Nat) (a:OA) (ts l:List Tk) (w:World) (h:Rd R a cap ts w l) :
 Calls Tryz.prog 285 #[.pointer (some ⟨R,0,none⟩)] w (zey R a cap ts w (zb2 l) (zg5 (w.heap.size<=·))):=by
 have HR:Hid (Rd R a cap ts w l):=h;have hRw:=h.lt;clear h;go_enter Tryz.func285,Tryz.ntmps285;go_wp2_with fail;refine (z0d R cap a ts l _ ((HR.out.alloc _).alloc _)).mono ?_;rintro e w1 ⟨HK1,⟨hn,rfl⟩ | ⟨⟨m,n⟩,l1,v,hn,rfl,⟨rfl,hm,hnn⟩,HR1⟩⟩
 . exact ⟨rfl,(((Keeps.refl R w).alloc _).alloc _).trans HK1,Or.inl ⟨by unfold zb2;rw [hn],rfl⟩⟩
 have hz1:=HK1.size;simp at hz1
 have HP1:Hid (zb2 l=if skB l1 tEq then (match pX l1.tail with | none=>none | some (x,l2)=>some (.mk 1 m n [x] [] [],l2))
  else if skB l1 tLs then (match pX l1.tail with
   | none=>none
   | some (x,l2)=>if skB l2 tRs then (if skB l2.tail tEq then (match pX l2.tail.tail with | none=>none | some (y,l3)=>some (.mk 2 m n [x,y] [] [],l3)) else none) else none)
  else if skB l1 tLp then (match pAs l1.tail with | none=>none | some (xs,l2)=>some (.mk 3 m n xs [] [],l2))
  else none):=by show zb2 l=_;unfold zb2;rw [hn];rfl
 have HK1':Hid (Keeps R w w1):=(((Keeps.refl R w).alloc _).alloc _).trans HK1;have HB1:Hid (w1.heap[w.heap.size]? = some za8):=(HK1.block w.heap.size (by simp;omega) (by omega)).trans (zae (heap_newP _ _));have HC1:Hid (w1.heap[w.heap.size+1]? = some za8):=(HK1.block (w.heap.size+1) (by simp) (by omega)).trans (by have e:=heap_newP (w.alloc za8) za8;simpa using e);obtain ⟨h0,h1,h2,h3,h4,h5,h6⟩:=zaw HC1.out;have HR2:Hid (Rd R a cap ts ((w1.setCell ⟨w.heap.size+1,1,none⟩ (.string m)).setCell ⟨w.heap.size+1,2,none⟩ (.string n)) l1):=(HR1.setAbove HR.out (by show _<=w.heap.size+1;omega) _).setAbove HR.out (by show _<=w.heap.size+1;omega) _;have HK2:Hid (Keeps R w ((w1.setCell ⟨w.heap.size+1,1,none⟩ (.string m)).setCell ⟨w.heap.size+1,2,none⟩ (.string n))):=(HK1'.out.set (by show _<=w.heap.size+1;omega) _).set (by show _<=w.heap.size+1;omega) _
 have HB2:Hid (((w1.setCell ⟨w.heap.size+1,1,none⟩ (.string m)).setCell ⟨w.heap.size+1,2,none⟩ (.string n)).heap[w.heap.size]? = some za8):=(zac (by show w.heap.size≠w.heap.size+1;omega) _).trans ((zac (by show w.heap.size≠w.heap.size+1;omega) _).trans HB1.out);have HC2:Hid (((w1.setCell ⟨w.heap.size+1,1,none⟩ (.string m)).setCell ⟨w.heap.size+1,2,none⟩ (.string n)).heap[w.heap.size+1]? = some (.cells #[.int .i64 0,.string m,.string n,.slice none 0 0,.slice none 0 0,.slice none 0 0] 176 (0,0))):=zag (zag HC1.out _) _
 have hz2:((w1.setCell ⟨w.heap.size+1,1,none⟩ (.string m)).setCell ⟨w.heap.size+1,2,none⟩ (.string n)).heap.size=w1.heap.size:=by simp only [var]
 have hq1:w.heap.size+1<w1.heap.size:=by omega
 clear hn HR1 HK1 HB1 HK1';go_wp2_with fail;generalize (w1.setCell ⟨w.heap.size+1,1,none⟩ (.string m)).setCell ⟨w.heap.size+1,2,none⟩ (.string n)=w2 at *;clear h0 h1 h2 h3 h4 h5 h6 HC1;refine (z8k R cap _ a ts l1 tEq tLs tLp w2 (by omega) HR2.out (by decide) (by decide) (by decide)).mono ?_;rintro e w3 ⟨HK3,⟨s1,s2,s3,rfl⟩ | ⟨s1,rfl,HR3⟩ | ⟨s1,s2,rfl,HR3⟩ | ⟨s1,s2,s3,rfl,HR3⟩⟩
 . exact ⟨rfl,HK2.out.trans HK3,Or.inl ⟨by rw [HP1.out,s1,s2,s3];rfl,rfl⟩⟩
 . have hz3:=HK3.size
   have HB3:Hid (w3.heap[w.heap.size]? = some za8):=(HK3.block w.heap.size (by omega) (by omega)).trans HB2.out;have HC3:Hid (w3.heap[w.heap.size+1]? = some (.cells #[.int .i64 0,.string m,.string n,.slice none 0 0,.slice none 0 0,.slice none 0 0] 176 (0,0))):=(HK3.block (w.heap.size+1) (by omega) (by omega)).trans HC2.out;obtain ⟨h0,h1,h2,h3,h4,h5,h6⟩:=zaw HC3.out;have HR4:Hid (Rd R a cap ts (w3.setCell ⟨w.heap.size+1,0,none⟩ (.int .i64 1)) l1.tail):=HR3.setAbove HR.out (by show _<=w.heap.size+1;omega) _;have HK4:Hid (Keeps R w (w3.setCell ⟨w.heap.size+1,0,none⟩ (.int .i64 1))):=(HK2.out.trans HK3).set (by show _<=w.heap.size+1;omega) _;have HB4:Hid ((w3.setCell ⟨w.heap.size+1,0,none⟩ (.int .i64 1)).heap[w.heap.size]? = some za8):=(zac (by show w.heap.size≠w.heap.size+1;omega) _).trans HB3.out;have HC4:Hid ((w3.setCell ⟨w.heap.size+1,0,none⟩ (.int .i64 1)).heap[w.heap.size+1]? = some (.cells #[.int .i64 1,.string m,.string n,.slice none 0 0,.slice none 0 0,.slice none 0 0] 176 (0,0))):=zag HC3.out _
   have hz4:(w3.setCell ⟨w.heap.size+1,0,none⟩ (.int .i64 1)).heap.size=w3.heap.size:=by simp only [var]
   clear HR3 HK3 HB3 HR2 HK2 HB2 HC2;go_wp2_with fail;generalize w3.setCell ⟨w.heap.size+1,0,none⟩ (.int .i64 1)=w4 at *;clear h0 h1 h2 h3 h4 h5 h6 HC3;refine (zfs R cap a ts l1.tail w4 HR4.out).mono ?_;rintro e w5 ⟨HK5,⟨hn,rfl⟩ | ⟨x,l5,v,hn,rfl,⟨a5,c5,rfl,hx1,hx2,hx3⟩,HR5⟩⟩
   . exact ⟨rfl,HK4.out.trans HK5,Or.inl ⟨by rw [HP1.out,if_pos s1,hn],rfl⟩⟩
   have hz5:=HK5.size
   have HP:Hid (zb2 l=some (.mk 1 m n [x] [] [],l5)):=by show zb2 l=_;rw [HP1.out,if_pos s1,hn]
   have HB5:Hid (w5.heap[w.heap.size]? = some za8):=(HK5.block w.heap.size (by omega) (by omega)).trans HB4.out;have HC5:Hid (w5.heap[w.heap.size+1]? = some (.cells #[.int .i64 1,.string m,.string n,.slice none 0 0,.slice none 0 0,.slice none 0 0] 176 (0,0))):=(HK5.block (w.heap.size+1) (by omega) (by omega)).trans HC4.out
   have HF:Hid (zey R a cap ts w (zb2 l) (zg5 (w.heap.size<=·)) (.returned (.agg #[.int .i64 1,.string m,.string n,.slice (some ⟨w5.heap.size,0,none⟩) 1 1,.slice none 0 0,.slice none 0 0])) ((set6 (w5.setCell ⟨w.heap.size+1,3,none⟩ (.slice (some ⟨w5.heap.size,0,none⟩) 1 1)) w.heap.size (.int .i64 1) (.string m) (.string n) (.slice (some ⟨w5.heap.size,0,none⟩) 1 1) (.slice none 0 0) (.slice none 0 0)).alloc (.cells #[.int .i64 x.op,.int .i64 x.n,.string x.mod,.string x.name,.slice a5 x.args.length c5] 174))):=by
    refine zox (s:=.mk 1 m n [x] [] []) HP.out ((((HK4.out.trans HK5).set (by show _<=w.heap.size+1;omega) _).set6 (vaa _) _ _ _ _ _ _).alloc _) (((HR5.setAbove HR.out (by show _<=w.heap.size+1;omega) _).set6 HR.out (vaa _) _ _ _ _ _ _).alloc _) hm hnn ?_ (Or.inl rfl) (Or.inl rfl);refine zmg (t:=174) (cap:=c5) hx1 hx2 hx3 (((((zai.refl w5 _).set (by intro b _ hb;show b≠w.heap.size+1;omega) _).set6 (b:=w.heap.size) (by intro b _ hb;omega) _ _ _ _ _ _).alloc _).to (by omega)) ?_ (by show w.heap.size<=w5.heap.size;omega);have e:=heap_newP (set6 (w5.setCell ⟨w.heap.size+1,3,none⟩ (.slice (some ⟨w5.heap.size,0,none⟩) 1 1)) w.heap.size (.int .i64 1) (.string m) (.string n) (.slice (some ⟨w5.heap.size,0,none⟩) 1 1) (.slice none 0 0) (.slice none 0 0)) (.cells #[.int .i64 x.op,.int .i64 x.n,.string x.mod,.string x.name,.slice a5 x.args.length c5] 174)
    simp only [var] at e;exact e
   obtain ⟨h0,h1,h2,h3,h4,h5,h6⟩:=zaw HB5.out;obtain ⟨g0,g1,g2,g3,g4,g5,g6⟩:=zaw HC5.out
   have hq5:w.heap.size+1<w5.heap.size:=by omega
   have hq6:w.heap.size<w5.heap.size:=by omega
   clear hn HK5 HR5 hx1 hx2 hx3 HB4 HC4 HR4 HK4;go_wp2_with fail;refine bodyPost_ret (v:=.agg #[.int .i64 1,.string m,.string n,.slice (some ⟨w5.heap.size,0,none⟩) 1 1,.slice none 0 0,.slice none 0 0]) (by simp [results,Tryz.results285,go_sem,h0,h1,h2,h3,h4,h5,hq6]) rfl HF.out
 . have hz3:=HK3.size
   have HB3:Hid (w3.heap[w.heap.size]? = some za8):=(HK3.block w.heap.size (by omega) (by omega)).trans HB2.out;have HC3:Hid (w3.heap[w.heap.size+1]? = some (.cells #[.int .i64 0,.string m,.string n,.slice none 0 0,.slice none 0 0,.slice none 0 0] 176 (0,0))):=(HK3.block (w.heap.size+1) (by omega) (by omega)).trans HC2.out;obtain ⟨h0,h1,h2,h3,h4,h5,h6⟩:=zaw HC3.out;have HR4:Hid (Rd R a cap ts (w3.setCell ⟨w.heap.size+1,0,none⟩ (.int .i64 2)) l1.tail):=HR3.setAbove HR.out (by show _<=w.heap.size+1;omega) _;have HK4:Hid (Keeps R w (w3.setCell ⟨w.heap.size+1,0,none⟩ (.int .i64 2))):=(HK2.out.trans HK3).set (by show _<=w.heap.size+1;omega) _;have HB4:Hid ((w3.setCell ⟨w.heap.size+1,0,none⟩ (.int .i64 2)).heap[w.heap.size]? = some za8):=(zac (by show w.heap.size≠w.heap.size+1;omega) _).trans HB3.out;have HC4:Hid ((w3.setCell ⟨w.heap.size+1,0,none⟩ (.int .i64 2)).heap[w.heap.size+1]? = some (.cells #[.int .i64 2,.string m,.string n,.slice none 0 0,.slice none 0 0,.slice none 0 0] 176 (0,0))):=zag HC3.out _
   have hz4:(w3.setCell ⟨w.heap.size+1,0,none⟩ (.int .i64 2)).heap.size=w3.heap.size:=by simp only [var]
   clear HR3 HK3 HB3 HR2 HK2 HB2 HC2;go_wp2_with fail;generalize w3.setCell ⟨w.heap.size+1,0,none⟩ (.int .i64 2)=w4 at *;clear h0 h1 h2 h3 h4 h5 h6 HC3;refine (zfs R cap a ts l1.tail w4 HR4.out).mono ?_;rintro e w5 ⟨HK5,⟨hn,rfl⟩ | ⟨x,l5,v,hn,rfl,⟨a5,c5,rfl,hx1,hx2,hx3⟩,HR5⟩⟩
   . exact ⟨rfl,HK4.out.trans HK5,Or.inl ⟨by rw [HP1.out,if_neg (by simp [s1]),if_pos s2,hn],rfl⟩⟩
   have hz5:=HK5.size
   have HP5:Hid (zb2 l=if skB l5 tRs then (if skB l5.tail tEq then (match pX l5.tail.tail with | none=>none | some (y,l3)=>some (.mk 2 m n [x,y] [] [],l3)) else none) else none):=by show zb2 l=_;rw [HP1.out,if_neg (by simp [s1]),if_pos s2,hn]
   have HB5:Hid (w5.heap[w.heap.size]? = some za8):=(HK5.block w.heap.size (by omega) (by omega)).trans HB4.out;have HC5:Hid (w5.heap[w.heap.size+1]? = some (.cells #[.int .i64 2,.string m,.string n,.slice none 0 0,.slice none 0 0,.slice none 0 0] 176 (0,0))):=(HK5.block (w.heap.size+1) (by omega) (by omega)).trans HC4.out;have HK5':Hid (Keeps R w w5):=HK4.out.trans HK5;have HR5':Hid (Rd R a cap ts w5 l5):=HR5;have HX5:Hid (za1 w5 (w4.heap.size<=·) x.ds (zgk x a5 c5)):=zgl hx1 hx2 hx3;obtain ⟨h0,h1,h2,h3,h4,h5,h6⟩:=zaw HC5.out
   have hq5:w.heap.size+1<w5.heap.size:=by omega
   clear hn HK5 HR5 hx1 hx2 hx3 HB4 HC4 HR4 HK4 HP1;go_wp2_with fail;refine (zgj R cap _ a ts l5 tRs _ (by simp) ((HR5'.out.setAbove HR.out (by show _<=w.heap.size+1;omega) _).alloc _) (by decide)).mono ?_;rintro e w6 ⟨HK6,⟨t6,rfl⟩ | ⟨t6,rfl,HR6⟩⟩
   . exact ⟨rfl,((HK5'.out.set (by show _<=w.heap.size+1;omega) _).alloc _).trans HK6,Or.inl ⟨by rw [HP5.out,t6];rfl,rfl⟩⟩
   have hz6:=HK6.size;simp at hz6
   have HO6:Hid (Row (w.heap.size+2) 174 5 w6 (.slice (some ⟨w5.heap.size,0,none⟩) 1 1) 1 x.ds):=by
    have e:=Row.first (base:=w.heap.size+2) (e:=174) (size:=5) (w:=w5.setCell ⟨w.heap.size+1,3,none⟩ (.slice (some ⟨w5.heap.size,0,none⟩) 1 1)) (A:=(w4.heap.size<=·)) (ds:=x.ds) (cs:=#[.int .i64 x.op,.int .i64 x.n,.string x.mod,.string x.name,.slice a5 x.args.length c5])
     (HX5.out.moves ((zai.refl w5 _).set (by intro b _ hb;show b≠w.heap.size+1;omega) _)) (fun b _ hb=>by omega) (by simp;omega) rfl
    simp only [var] at e;exact Row.keeps e HK6 (by omega)
   have HB6:Hid (w6.heap[w.heap.size]? = some za8):=(HK6.block w.heap.size (by simp;omega) (by omega)).trans (zae ((zac (by show w.heap.size≠w.heap.size+1;omega) _).trans HB5.out));have HC6:Hid (w6.heap[w.heap.size+1]? = some (.cells #[.int .i64 2,.string m,.string n,.slice (some ⟨w5.heap.size,0,none⟩) 1 1,.slice none 0 0,.slice none 0 0] 176 (0,0))):=(HK6.block (w.heap.size+1) (by simp;omega) (by omega)).trans (zae (zag HC5.out _));have HK6':Hid (Keeps R w w6):=((HK5'.out.set (by show _<=w.heap.size+1;omega) _).alloc _).trans HK6;have HR6':Hid (Rd R a cap ts w6 l5.tail):=HR6;clear HR6 HK6 HR5' HK5' HX5 HB5 HC5 h0 h1 h2 h3 h4 h5 h6;go_wp2_with fail;refine (zgj R cap _ a ts l5.tail tEq _ (by simp) HR6'.out (by decide)).mono ?_;rintro e w7 ⟨HK7,⟨t7,rfl⟩ | ⟨t7,rfl,HR7⟩⟩
   . exact ⟨rfl,HK6'.out.trans HK7,Or.inl ⟨by rw [HP5.out,t6,t7];rfl,rfl⟩⟩
   have hz7:=HK7.size;have HO7:Hid (Row (w.heap.size+2) 174 5 w7 (.slice (some ⟨w5.heap.size,0,none⟩) 1 1) 1 x.ds):=HO6.out.keeps HK7 (by omega);have HB7:Hid (w7.heap[w.heap.size]? = some za8):=(HK7.block w.heap.size (by omega) (by omega)).trans HB6.out;have HC7:Hid (w7.heap[w.heap.size+1]? = some (.cells #[.int .i64 2,.string m,.string n,.slice (some ⟨w5.heap.size,0,none⟩) 1 1,.slice none 0 0,.slice none 0 0] 176 (0,0))):=(HK7.block (w.heap.size+1) (by omega) (by omega)).trans HC6.out;have HK7':Hid (Keeps R w w7):=HK6'.out.trans HK7;have HR7':Hid (Rd R a cap ts w7 l5.tail.tail):=HR7
   have HP7:Hid (zb2 l=match pX l5.tail.tail with | none=>none | some (y,l3)=>some (.mk 2 m n [x,y] [] [],l3)):=by show zb2 l=_;rw [HP5.out,t6,t7];rfl
   obtain ⟨h0,h1,h2,h3,h4,h5,h6⟩:=zaw HC7.out;clear HR7 HK7 HR6' HK6' HB6 HC6 HO6 HP5 t6 t7
   cases hx:pX l5.tail.tail with
   | none=>
     have HE:Hid (∀ w',Rd R a cap ts w' l5.tail.tail->Calls Tryz.prog 283 #[.pointer (some ⟨R,0,none⟩)] w' fun e w''=>e = .panicked zaq/\Keeps R w' w''):=fun w' h'=>by
      refine (zfs R cap a ts _ w' h').mono ?_;rintro e w'' ⟨hk,⟨_,rfl⟩ | ⟨_,_,_,h,_⟩⟩
      . exact ⟨rfl,hk⟩
      . rw [hx] at h;cases h
     have HP:Hid (zb2 l=none):=by show zb2 l=_;rw [HP7.out,hx]
     clear hx HP7;go_wp2_with fail;refine wp_region_any (by kernel_rfl) ?_
     change wpAny _ _ _ _ _ _ _ (World.drew _)
     refine wpAny_take (i:=2) (v:=.pointer (some ⟨R,0,none⟩)) rfl (by kernel_rfl) (by kernel_rfl) (by kernel_rfl) (fun c a w h=>h) (Or.inl ⟨by rfl,fun w=>by go_simp⟩) ?_;refine wpAny_take (i:=0) (v:=.pointer (some ⟨w.heap.size+1,3,none⟩)) rfl (by kernel_rfl) (by kernel_rfl) (by kernel_rfl) (fun c a w h=>h) (Or.inl ⟨by rfl,fun w=>by go_simp⟩) ?_;refine wpAny_ready (rs:=[1,3]) (by kernel_rfl) (by simp) ?_;refine ver rfl (fun K hK=>?_) (ver rfl (fun K hK=>?_) veu)
     . go_simp
       refine hK _ _ ?_;clear hK K;refine wpAny_ready (rs:=[3]) (by kernel_rfl) (by simp) ?_;refine ver rfl (fun K hK=>?_) veu;refine zbl (by rfl) 283 _ _ (by rfl) z6o _ (by rfl) zaq (HE.out _ HR7'.out.drew) ?_;intro w8 hk8;exact ⟨rfl,HK7'.out.drew.trans hk8,Or.inl ⟨HP.out,rfl⟩⟩
     . refine zbl (by rfl) 283 _ _ (by rfl) z6o _ (by rfl) zaq (HE.out _ HR7'.out.drew) ?_
       intro w8 hk8;exact ⟨rfl,HK7'.out.drew.trans hk8,Or.inl ⟨HP.out,rfl⟩⟩
   | some r=>
     obtain ⟨y,l8⟩:=r
     have HE:Hid (∀ w',Rd R a cap ts w' l5.tail.tail->Calls Tryz.prog 283 #[.pointer (some ⟨R,0,none⟩)] w' fun e w''=>∃ u,e = .returned u/\(Keeps R w' w''/\zh0 (w'.heap.size<=·) y w'' u/\Rd R a cap ts w'' l8)):=fun w' h'=>by
      refine (zfs R cap a ts _ w' h').mono ?_;rintro e w'' ⟨hk,⟨h,_⟩ | ⟨y',l',u,h,rfl,hr,hd⟩⟩
      . rw [hx] at h;cases h
      . rw [hx] at h
        obtain ⟨rfl,rfl⟩:=vak (vac h);exact ⟨u,rfl,hk,hr,hd⟩
     have HP:Hid (zb2 l=some (.mk 2 m n [x,y] [] [],l8)):=by show zb2 l=_;rw [HP7.out,hx]
     clear hx HP7;go_wp2_with fail
     go_region_law (first
      | (refine zb4 (by rfl) 283 _ _ (by rfl) z6o _ (by rfl) (HE.out _ HR7'.out.drew) ?_
         rintro u8 w8 ⟨HK8,⟨a8,c8,rfl,hy1,hy2,hy3⟩,HR8⟩;have hz8:w7.heap.size<=w8.heap.size:=HK8.size
         have hq8:w.heap.size+1<w8.heap.size:=by omega
         have HC8:Hid (w8.heap[w.heap.size+1]? = some (.cells #[.int .i64 2,.string m,.string n,.slice (some ⟨w5.heap.size,0,none⟩) 1 1,.slice none 0 0,.slice none 0 0] 176 (0,0))):=(HK8.block (w.heap.size+1) (show w.heap.size+1<w7.heap.size by omega) (by omega)).trans HC7.out;have HB8:Hid (w8.heap[w.heap.size]? = some za8):=(HK8.block w.heap.size (show w.heap.size<w7.heap.size by omega) (by omega)).trans HB7.out;have hc8:w8.cell? ⟨w.heap.size+1,3,none⟩=some (.slice (some ⟨w5.heap.size,0,none⟩) 1 1):=(HK8.cell (show w.heap.size+1<w7.heap.size by omega) (by omega)).trans h3
         have HO8:Hid (Row (w.heap.size+2) 174 5 w8 (.slice (some ⟨w5.heap.size,0,none⟩) 1 1) 1 x.ds):=(HO7.out.keeps (Keeps.refl R w7).drew (by omega)).keeps HK8 (by omega))
      | (refine zbr (by rfl) _ _ 172 (by rfl) (w.heap.size+2) 174 _ 5 72 Tryz.underlying172 Tryz.infoP80 rfl (by decide) w8 _ 1 x.ds y.ds (by rfl) HO8.out _ _ rfl (by rfl) rfl (w7.heap.size<=·) (zgl hy1 hy2 hy3) (fun b _ hb=>⟨by omega,fun h=>by have h':w5.heap.size=b:=vac h;omega⟩) (by omega) (by decide) (by omega) ?_
         intro g9 c9 w9 HO9 HB9 hz9;have HC9:Hid (w9.heap[w.heap.size+1]? = some (.cells #[.int .i64 2,.string m,.string n,.slice (some ⟨w5.heap.size,0,none⟩) 1 1,.slice none 0 0,.slice none 0 0] 176 (0,0))):=(HB9.block (w.heap.size+1) (by omega)).trans HC8.out;have HD9:Hid (w9.heap[w.heap.size]? = some za8):=(HB9.block w.heap.size (by omega)).trans HB8.out;obtain ⟨k0,k1,k2,k3,k4,k5,k6⟩:=zaw HC9.out;obtain ⟨m0,m1,m2,m3,m4,m5,m6⟩:=zaw HD9.out
         have hne9:w.heap.size≠w.heap.size+1:=by omega
         have HF:Hid (zey R a cap ts w (zb2 l) (zg5 (w.heap.size<=·)) (.returned (.agg #[.int .i64 2,.string m,.string n,.slice (some ⟨g9,0,none⟩) 2 c9,.slice none 0 0,.slice none 0 0])) (set6 (w9.setCell ⟨w.heap.size+1,3,none⟩ (.slice (some ⟨g9,0,none⟩) 2 c9)) w.heap.size (.int .i64 2) (.string m) (.string n) (.slice (some ⟨g9,0,none⟩) 2 c9) (.slice none 0 0) (.slice none 0 0))):=z6n HR.out HP.out (HK7'.out.drew.trans HK8) HR8 hm hnn HB9 HO9))
     all_goals
      go_wp2_with fail;refine bodyPost_ret (v:=.agg #[.int .i64 2,.string m,.string n,.slice (some ⟨g9,0,none⟩) 2 c9,.slice none 0 0,.slice none 0 0]) (by simp [results,Tryz.results285,go_sem,m0,m1,m2,m3,m4,m5]) rfl HF.out
 . have hz3:=HK3.size
   have HB3:Hid (w3.heap[w.heap.size]? = some za8):=(HK3.block w.heap.size (by omega) (by omega)).trans HB2.out;have HC3:Hid (w3.heap[w.heap.size+1]? = some (.cells #[.int .i64 0,.string m,.string n,.slice none 0 0,.slice none 0 0,.slice none 0 0] 176 (0,0))):=(HK3.block (w.heap.size+1) (by omega) (by omega)).trans HC2.out;obtain ⟨h0,h1,h2,h3,h4,h5,h6⟩:=zaw HC3.out;have HR4:Hid (Rd R a cap ts (w3.setCell ⟨w.heap.size+1,0,none⟩ (.int .i64 3)) l1.tail):=HR3.setAbove HR.out (by show _<=w.heap.size+1;omega) _;have HK4:Hid (Keeps R w (w3.setCell ⟨w.heap.size+1,0,none⟩ (.int .i64 3))):=(HK2.out.trans HK3).set (by show _<=w.heap.size+1;omega) _;have HB4:Hid ((w3.setCell ⟨w.heap.size+1,0,none⟩ (.int .i64 3)).heap[w.heap.size]? = some za8):=(zac (by show w.heap.size≠w.heap.size+1;omega) _).trans HB3.out;have HC4:Hid ((w3.setCell ⟨w.heap.size+1,0,none⟩ (.int .i64 3)).heap[w.heap.size+1]? = some (.cells #[.int .i64 3,.string m,.string n,.slice none 0 0,.slice none 0 0,.slice none 0 0] 176 (0,0))):=zag HC3.out _
   have hz4:(w3.setCell ⟨w.heap.size+1,0,none⟩ (.int .i64 3)).heap.size=w3.heap.size:=by simp only [var]
   clear HR3 HK3 HB3 HR2 HK2 HB2 HC2;go_wp2_with fail;generalize w3.setCell ⟨w.heap.size+1,0,none⟩ (.int .i64 3)=w4 at *;clear h0 h1 h2 h3 h4 h5 h6 HC3;refine (z3k R cap a ts l1.tail w4 HR4.out).mono ?_;rintro e w5 ⟨HK5,⟨hn,rfl⟩ | ⟨xs,l5,v,hn,rfl,⟨a5,c5,rfl,hx3⟩,HR5⟩⟩
   . exact ⟨rfl,HK4.out.trans HK5,Or.inl ⟨by rw [HP1.out,if_neg (by simp [s1]),if_neg (by simp [s2]),if_pos s3,hn],rfl⟩⟩
   have hz5:=HK5.size
   have HP:Hid (zb2 l=some (.mk 3 m n xs [] [],l5)):=by show zb2 l=_;rw [HP1.out,if_neg (by simp [s1]),if_neg (by simp [s2]),if_pos s3,hn]
   have HB5:Hid (w5.heap[w.heap.size]? = some za8):=(HK5.block w.heap.size (by omega) (by omega)).trans HB4.out;have HC5:Hid (w5.heap[w.heap.size+1]? = some (.cells #[.int .i64 3,.string m,.string n,.slice none 0 0,.slice none 0 0,.slice none 0 0] 176 (0,0))):=(HK5.block (w.heap.size+1) (by omega) (by omega)).trans HC4.out
   have HF:Hid (zey R a cap ts w (zb2 l) (zg5 (w.heap.size<=·)) (.returned (.agg #[.int .i64 3,.string m,.string n,.slice a5 xs.length c5,.slice none 0 0,.slice none 0 0])) (set6 (w5.setCell ⟨w.heap.size+1,3,none⟩ (.slice a5 xs.length c5)) w.heap.size (.int .i64 3) (.string m) (.string n) (.slice a5 xs.length c5) (.slice none 0 0) (.slice none 0 0))):=by
    refine zox (s:=.mk 3 m n xs [] []) HP.out (((HK4.out.trans HK5).set (by show _<=w.heap.size+1;omega) _).set6 (vaa _) _ _ _ _ _ _) ((HR5.setAbove HR.out (by show _<=w.heap.size+1;omega) _).set6 HR.out (vaa _) _ _ _ _ _ _) hm hnn ?_ (Or.inl rfl) (Or.inl rfl);exact hx3.moves ((((zai.refl w5 _).set (by intro b _ hb;show b≠w.heap.size+1;omega) _).set6 (b:=w.heap.size) (by intro b _ hb;omega) _ _ _ _ _ _).to (by omega))
   obtain ⟨h0,h1,h2,h3,h4,h5,h6⟩:=zaw HB5.out;obtain ⟨g0,g1,g2,g3,g4,g5,g6⟩:=zaw HC5.out;clear hn HK5 HR5 hx3 HB4 HC4 HR4 HK4;go_wp2_with fail;refine bodyPost_ret (v:=.agg #[.int .i64 3,.string m,.string n,.slice a5 xs.length c5,.slice none 0 0,.slice none 0 0]) (by simp [results,Tryz.results285,go_sem,h0,h1,h2,h3,h4,h5]) rfl HF.out
end Go.Proofs.YtndkhgakfodldaaGreatDoor
