/-
  The document's own reader in memory: an expression that is no number.
-/
import Derived.Test.YtcekpobmbmnplaaGreatDoorEh
namespace Go.Proofs.YtcekpobmbmnplaaGreatDoor
set_option maxRecDepth 100000
set_option maxHeartbeats 1600000
open Go.RowKit
theorem zyh {l:List Tk} {t:ByteArray} (h:skB l t=false):eTk l t=l:=if_neg (by rw [h];decide)
theorem ztu {l:List Tk} {t:ByteArray} (h:skB l t=true):eTk l t=l.tail:=if_pos h
theorem za2 (R B:Nat) (l:List Tk) (t:ByteArray) (w:World) (h:Ez R B w l) (ht:0<t.size) (hs:skB l t=false) :
 Calls Tryz.prog 52 #[.pointer (some ⟨R,0,none⟩),.string t] w fun e w'=>e = .returned (.bool false)/\Ez R B w' l/\Keeps R w w':=by
 have:=zaj R B l t w h ht
 rw [hs,zyh hs] at this;exact this
theorem zbj (R B:Nat) (l:List Tk) (t:ByteArray) (w:World) (h:Ez R B w l) (ht:0<t.size) (hs:skB l t=true) :
 Calls Tryz.prog 52 #[.pointer (some ⟨R,0,none⟩),.string t] w fun e w'=>e = .returned (.bool true)/\Ez R B w' l.tail/\Keeps R w w':=by
 have:=zaj R B l t w h ht
 rw [hs,ztu hs] at this;exact this
theorem ztv (R B k:Nat) (IH:ExE R B k) (x:Tk) (r:List Tk) (w:World) (d:Int) (hd8:d=8 - ((k+1:Nat):Int)) (hk8:k<8) (h:Ez R B w (x :: r)) (hx:x.kind≠2) :
 Calls Tryz.prog 120 #[.pointer (some ⟨R,0,none⟩),.int .i64 d] w (zcd R B w (eExpr (k+1) (x :: r)) (zdd (w.heap.size<=·))):=by
 have HI:=hid (fun l w h=>IH.expr l w (d+1) (by omega) h);have HL:=hid (fun l w h=>zn2 R B k IH l w (d+1) (by omega) h)
 have hd7:¬ (7<d):=by omega
 have hwr:IntKind.i64.wrap (d+1)=d+1:=by simp only [IntKind.wrap,IntKind.bits,IntKind.signed];simp;omega
 have HX0:Hid (eExpr (k+1) (x :: r)=if skB (x :: r) tIn then (.mk 2 0 ⟨#[]⟩ ⟨#[]⟩ [],r)
  else if skB (x :: r) tNot then (.mk 6 0 ⟨#[]⟩ ⟨#[]⟩ [(eExpr k r).1],(eExpr k r).2)
  else if skB (x :: r) tLp then
   (.mk (eOp (eExpr k r).2).1 0 ⟨#[]⟩ ⟨#[]⟩ [(eExpr k r).1,(eExpr k (eOp (eExpr k r).2).2).1],eTk (eExpr k (eOp (eExpr k r).2).2).2 tRp)
  else if skB (eRef (x :: r)).2 tLs then (.mk 4 0 (eRef (x :: r)).1.1 (eRef (x :: r)).1.2 [(eExpr k (eRef (x :: r)).2.tail).1],eTk (eExpr k (eRef (x :: r)).2.tail).2 tRs)
  else if skB (eRef (x :: r)).2 tLp then (.mk 5 0 (eRef (x :: r)).1.1 (eRef (x :: r)).1.2 (eList (eExpr k) (eRef (x :: r)).2.tail).1,(eList (eExpr k) (eRef (x :: r)).2.tail).2)
  else (.mk 3 0 (eRef (x :: r)).1.1 (eRef (x :: r)).1.2 [],(eRef (x :: r)).2)):=by
  show eExpr (k+1) (x :: r)=_
  rw [eExpr,if_neg (by simp),if_neg (by exact hx)];rfl
 have hRw:=h.lt;have HY:=hid h;obtain ⟨a,cap,h⟩:=h;obtain ⟨b,off,rfl,hne,hT⟩:=h.toks.resolve_left (by simp)
 have hc0:w.cell? ⟨R,0,none⟩=some (.slice (some ⟨b,off,none⟩) (x :: r).length cap):=by rw [Lib.cell_of_heap h.blk];rfl
 have k0:=hT.kind 0 (by simp);simp only [Nat.zero_mul,Nat.add_zero,List.getElem_cons_zero] at k0;have hbl:=hT.lt;simp only [List.length_cons] at hc0
 have hkx:(x.kind == 2)=false:=by simp [hx]
 clear h hT hx hne IH hd8 hk8;generalize r.length=n at *
 have hz:((n:Int)+1 == 0)=false:=by simp;omega
 go_enter Tryz.func120,Tryz.ntmps120;go_wp2_with fail;clear hc0 k0 hbl
 cases hs2:skB (x :: r) tIn with
 | true=>
   have HX:=hid (HX0.out.trans (if_pos hs2));refine (zbj R B (x :: r) tIn _ (HY.out.alloc _) (by decide) hs2).mono ?_;rintro e w2 ⟨rfl,H2,K2⟩;have HB2:w2.heap[w.heap.size]? = some ezZ:=(K2.block w.heap.size (by simp) (by omega)).trans (heap_newP _ _);obtain ⟨h0,h1,h2,h3,h4,h5⟩:=zaf HB2;have hz2:=K2.size;simp at hz2
   have HF:Hid (zcd R B w (eExpr (k+1) (x :: r)) (zdd (w.heap.size<=·)) (.returned (.agg #[.int .i64 2,.int .i64 0,.string ⟨#[]⟩,.string ⟨#[]⟩,.slice none 0 0])) (set5 w2 w.heap.size (.int .i64 2) (.int .i64 0) (.string ⟨#[]⟩) (.string ⟨#[]⟩) (.slice none 0 0))):=
    zn3 (x:=.mk 2 0 ⟨#[]⟩ ⟨#[]⟩ []) HY.out HX.out (((Keeps.refl R w).alloc _).trans K2) H2 (Nat.zero_le _) (Nat.zero_le _) (lo:=w2.heap.size) (Or.inl rfl) (by omega)
   clear H2 K2 HB2 hs2;go_wp2_with fail;refine bodyPost_ret (v:=.agg #[.int .i64 2,.int .i64 0,.string ⟨#[]⟩,.string ⟨#[]⟩,.slice none 0 0]) (by simp [results,Tryz.results120,go_sem,h0,h1,h2,h3,h4]) rfl HF.out
 | false=>
 have HX1:=hid (HX0.out.trans (if_neg (by rw [hs2];decide)));refine (za2 R B (x :: r) tIn _ (HY.out.alloc _) (by decide) hs2).mono ?_;rintro e w1 ⟨rfl,H1,K1⟩;have HR1:=hid H1;have HK1:=hid (((Keeps.refl R w).alloc _).trans K1);have HB1:Hid (w1.heap[w.heap.size]? = some ezZ):=(K1.block w.heap.size (by simp) (by omega)).trans (heap_newP _ _);have hz1:=K1.size;simp at hz1;clear H1 K1 hs2 HX0;go_wp2_with fail
 cases hs3:skB (x :: r) tNot with
 | true=>
   have HX:=hid (HX1.out.trans (if_pos hs3));refine (zbj R B (x :: r) tNot w1 HR1.out (by decide) hs3).mono ?_;rintro e w3 ⟨rfl,H3,K3⟩;have hz3:=K3.size;have HB3:Hid (w3.heap[w.heap.size]? = some ezZ):=(K3.block w.heap.size (by omega) (by omega)).trans HB1.out;have HK3:=hid (HK1.out.trans K3);have HR3:=hid H3;clear H3 K3 hs3 HX1 HR1 HK1 HB1;go_wp2_with fail;refine (HI.out r w3 HR3.out).mono ?_;generalize eExpr k r=q at *;obtain ⟨y,l4⟩:=q;rintro e w4 ⟨HK4,v,rfl,⟨a4,c4,rfl,hy1,hy2,hy3⟩,HR4⟩;have HB4:Hid (w4.heap[w.heap.size]? = some ezZ):=(HK4.block w.heap.size (by omega) (by omega)).trans HB3.out;obtain ⟨h0,h1,h2,h3,h4,h5⟩:=zaf HB4.out;have hz4:=HK4.size
   have hq0:w.heap.size<w4.heap.size:=by omega
   have HF:Hid (zcd R B w (eExpr (k+1) (x :: r)) (zdd (w.heap.size<=·)) (.returned (.agg #[.int .i64 6,.int .i64 0,.string ⟨#[]⟩,.string ⟨#[]⟩,.slice (some ⟨w4.heap.size,0,none⟩) 1 1])) ((set5 w4 w.heap.size (.int .i64 6) (.int .i64 0) (.string ⟨#[]⟩) (.string ⟨#[]⟩) (.slice (some ⟨w4.heap.size,0,none⟩) 1 1)).alloc (.cells #[.int .i64 y.op,.int .i64 y.n,.string y.mod,.string y.name,.slice a4 y.args.length c4] 76))):=
    zy5 HY.out HX.out (HK3.out.trans HK4) HR4 (Nat.zero_le _) (Nat.zero_le _) hy1 hy2 hy3 (by omega) hz4
   clear HR3 HR4 HK3 HK4 hy1 hy2 hy3;go_wp2_with fail;refine bodyPost_ret (v:=.agg #[.int .i64 6,.int .i64 0,.string ⟨#[]⟩,.string ⟨#[]⟩,.slice (some ⟨w4.heap.size,0,none⟩) 1 1]) (by simp [results,Tryz.results120,go_sem,h0,h1,h2,h3,h4,hq0]) rfl HF.out
 | false=>
 have HX2:=hid (HX1.out.trans (if_neg (by rw [hs3];decide)));refine (za2 R B (x :: r) tNot w1 HR1.out (by decide) hs3).mono ?_;rintro e w2 ⟨rfl,H2,K2⟩;have HR2:=hid H2;have HK2:=hid (HK1.out.trans K2);have HB2:Hid (w2.heap[w.heap.size]? = some ezZ):=(K2.block w.heap.size (by omega) (by omega)).trans HB1.out;have hz2:=K2.size;clear H2 K2 hs3 HX1 HR1 HK1 HB1;go_wp2_with fail
 cases hs4:skB (x :: r) tLp with
 | true =>
   have HX:=hid (HX2.out.trans (if_pos hs4));refine (zbj R B (x :: r) tLp w2 HR2.out (by decide) hs4).mono ?_;rintro e w3 ⟨rfl,H3,K3⟩;have hz3:=K3.size;have HB3:Hid (w3.heap[w.heap.size]? = some ezZ):=(K3.block w.heap.size (by omega) (by omega)).trans HB2.out;have HK3:=hid (HK2.out.trans K3);have HR3:=hid H3;clear H3 K3 hs4 HX2 HR2 HK2 HB2;go_wp2_with fail;refine (HI.out r w3 HR3.out).mono ?_;generalize eExpr k r=q at *;obtain ⟨y,l4⟩:=q;rintro e w4 ⟨HK4,v,rfl,⟨a4,c4,rfl,hy1,hy2,hy3⟩,HR4⟩
   have HY4:Hid (y.mod.size<=maxLen/\y.name.size<=maxLen/\EAt w4 (w3.heap.size<=·) a4 y.args.length (zaw y.args)):=⟨hy1,hy2,hy3⟩
   have hz4:=HK4.size;have HB4:Hid (w4.heap[w.heap.size]? = some ezZ):=(HK4.block w.heap.size (by omega) (by omega)).trans HB3.out;have HK4':=hid (HK3.out.trans HK4);have HR4':=hid HR4;clear hy1 hy2 hy3 HK4 HR4 HR3 HK3 HB3;go_wp2_with fail
   go_loopw [6,7] (fun o i wr=>∃ j:Nat,j<=9/\i = .int .i64 (7+(j:Int))/\Keeps R (w4.alloc (.cells #[.int .i64 y.op,.int .i64 y.n,.string y.mod,.string y.name,.slice a4 y.args.length c4] 76)) wr/\((o = .int .i64 0/\(opTexts.take j).all (fun t=>!skB l4 t)=true/\Ez R B wr l4)\/∃ i:Nat,i<9/\o = .int .i64 (7+(i:Int))/\eOp l4=(7+(i:Int),l4.tail)/\Ez R B wr l4.tail)) (fun _ i _=>16 - (intOf i).toNat)
   case atStart=>exact ⟨0,by omega,rfl,Keeps.refl _ _,Or.inl ⟨rfl,rfl,HR4'.out.alloc _⟩⟩
   case round=>
    obtain ⟨j,hj,rfl,hke,hor⟩:=hrel;have HKr:=hid hke;have hzr:=hke.size;simp at hzr;clear hke
    rcases hor with ⟨rfl,hn,hez⟩ | ⟨i,hi,rfl,he,hez⟩
    . have HRr:=hid hez
      have HN:=hid hn;clear hez hn
      by_cases hj9:j<9
      . have h15:(7+(j:Int))<=15:=by omega
        have hwj:IntKind.i64.wrap (7+(j:Int)+1)=7+(j:Int)+1:=by simp only [IntKind.wrap,IntKind.bits,IntKind.signed];simp;omega
        have hj':j<opTexts.length:=hj9;go_wp2_with fail;refine (zlp j hj' wr).mono ?_;rintro e w5 ⟨rfl,hb5⟩;have HR5:=hid (HRr.out.later hb5);have HK5:=hid (HKr.out.later hb5);clear hb5;go_wp2_with fail
        have hpos:0<opTexts[j].size:=by
         obtain rfl | rfl | rfl | rfl | rfl | rfl | rfl | rfl | rfl:j=0\/j=1\/j=2\/j=3\/j=4\/j=5\/j=6\/j=7\/j=8:=by omega
         all_goals exact Nat.one_pos
        cases hs:skB l4 opTexts[j] with
        | true=>
          have HO:=hid (zy6 hj' HN.out hs);refine (zbj R B l4 opTexts[j] w5 HR5.out hpos hs).mono ?_;rintro e w6 ⟨rfl,H6,K6⟩;have HR6:=hid H6;have HK6:=hid (HK5.out.trans K6);clear H6 K6 hs;go_wp2_with fail;go_roundw
          case rel=>exact ⟨j+1,by omega,by simp;omega,HK6.out,Or.inr ⟨j,hj9,rfl,HO.out,HR6.out⟩⟩
          case measure=>simp [intOf];omega
        | false=>
          have HN2:Hid ((opTexts.take (j+1)).all (fun t=>!skB l4 t)=true):=by
           show (opTexts.take (j+1)).all (fun t=>!skB l4 t)=true;rw [List.take_succ_eq_append_getElem hj',List.all_append,HN.out];simp [hs]
          refine (za2 R B l4 opTexts[j] w5 HR5.out hpos hs).mono ?_;rintro e w6 ⟨rfl,H6,K6⟩;have HR6:=hid H6;have HK6:=hid (HK5.out.trans K6);clear H6 K6 hs;go_wp2_with fail;go_roundw
          case rel=>exact ⟨j+1,by omega,by simp;omega,HK6.out,Or.inl ⟨rfl,HN2.out,HR6.out⟩⟩
          case measure=>simp [intOf];omega
      . obtain rfl:j=9:=by omega
        have HEo:Hid (eOp l4=(0,l4)):=z0y HN.out;clear HN hj9 hj
        have HXo:Hid (eExpr (k+1) (x :: r)=(.mk 0 0 ⟨#[]⟩ ⟨#[]⟩ [y,(eExpr k (l4)).1],eTk (eExpr k (l4)).2 tRp)):=by
         show eExpr (k+1) (x :: r)=_
         rw [HX.out];simp only [HEo.out]
        clear HX HEo;go_wp2_with fail;refine (HI.out (l4) wr HRr.out).mono ?_;generalize eExpr k (l4)=q at *;obtain ⟨z,l6⟩:=q;rintro e w5 ⟨K5,v,rfl,⟨a5,c5,rfl,hv1,hv2,hv3⟩,H5⟩
        have HZ5:Hid (z.mod.size<=maxLen/\z.name.size<=maxLen/\EAt w5 (wr.heap.size<=·) a5 z.args.length (zaw z.args)):=⟨hv1,hv2,hv3⟩
        have hz5:=K5.size;have HR5:=hid H5;have HKr5:=hid (HKr.out.trans K5);clear hv1 hv2 hv3 H5 K5;go_wp2_with fail;refine (zaj R B l6 tRp _ (HR5.out.alloc _) (by decide)).mono ?_;rintro e w6 ⟨rfl,H6,K6⟩;have hz6:=K6.size;simp at hz6;have HR6:=hid H6;have HB6:Hid (w6.heap[w.heap.size]? = some ezZ):=(K6.block w.heap.size (by simp;omega) (by omega)).trans (zai ((HKr5.out.block w.heap.size (by simp;omega) (by omega)).trans (zai HB4.out)));have HC6:Hid (w6.heap[w4.heap.size]? = some (.cells #[.int .i64 y.op,.int .i64 y.n,.string y.mod,.string y.name,.slice a4 y.args.length c4] 76 (0,0))):=(K6.block w4.heap.size (by simp;omega) (by omega)).trans (zai ((HKr5.out.block w4.heap.size (by simp) (by omega)).trans (heap_newP _ _)));have HD6:Hid (w6.heap[w5.heap.size]? = some (.cells #[.int .i64 z.op,.int .i64 z.n,.string z.mod,.string z.name,.slice a5 z.args.length c5] 76 (0,0))):=(K6.block w5.heap.size (by simp) (by omega)).trans (heap_newP _ _)
        obtain ⟨h0,h1,h2,h3,h4,h5⟩:=zaf HB6.out;obtain ⟨f0,f1,f2,f3,f4,f5⟩:=zaf HC6.out;obtain ⟨g0,g1,g2,g3,g4,g5⟩:=zaf HD6.out
        have mx:Moves w4 (w3.heap.size<=·) w6 (w3.heap.size<=·):=(((((Moves.refl w4 _).alloc _).keeps HKr5.out (by intro b _ hb;omega)).alloc _).keeps K6 (by intro b _ hb;omega))
        have my:Moves w5 (wr.heap.size<=·) w6 (wr.heap.size<=·):=((Moves.refl w5 _).alloc _).keeps K6 (by intro b _ hb;omega)
        have hq0:w.heap.size<w6.heap.size:=by omega
        have hq4:w4.heap.size<w6.heap.size:=by omega
        have hq5:w5.heap.size<w6.heap.size:=by omega
        have HF:Hid (zcd R B w (eExpr (k+1) (x :: r)) (zdd (w.heap.size<=·)) (.returned (.agg #[.int .i64 0,.int .i64 0,.string ⟨#[]⟩,.string ⟨#[]⟩,.slice (some ⟨w6.heap.size,0,none⟩) 2 2])) ((set5 w6 w.heap.size (.int .i64 0) (.int .i64 0) (.string ⟨#[]⟩) (.string ⟨#[]⟩) (.slice (some ⟨w6.heap.size,0,none⟩) 2 2)).alloc (.cells #[.int .i64 y.op,.int .i64 y.n,.string y.mod,.string y.name,.slice a4 y.args.length c4,.int .i64 z.op,.int .i64 z.n,.string z.mod,.string z.name,.slice a5 z.args.length c5] 76))):=
         zpc HY.out HXo.out (((HK4'.out.alloc _).trans HKr5.out |>.alloc _).trans K6) H6 HY4.out HZ5.out mx my (by omega) (by omega) (by omega)
        clear H6 K6 mx my HR5 HKr5 HKr HRr;go_wp2_with fail;refine bodyPost_ret (v:=.agg #[.int .i64 0,.int .i64 0,.string ⟨#[]⟩,.string ⟨#[]⟩,.slice (some ⟨w6.heap.size,0,none⟩) 2 2]) (by simp [results,Tryz.results120,go_sem,h0,h1,h2,h3,h4,hq0]) rfl HF.out
    . have HRr:=hid hez
      have HEo:=hid he;clear hez he
      have hi0:((7+(i:Int)) == 0)=false:=by simp;omega
      by_cases hj9:j<9
      . have h15:(7+(j:Int))<=15:=by omega
        have HXo:Hid (eExpr (k+1) (x :: r)=(.mk (7+(i:Int)) 0 ⟨#[]⟩ ⟨#[]⟩ [y,(eExpr k (l4.tail)).1],eTk (eExpr k (l4.tail)).2 tRp)):=by
         show eExpr (k+1) (x :: r)=_
         rw [HX.out];simp only [HEo.out]
        clear HX HEo;go_wp2_with fail;refine (HI.out (l4.tail) wr HRr.out).mono ?_;generalize eExpr k (l4.tail)=q at *;obtain ⟨z,l6⟩:=q;rintro e w5 ⟨K5,v,rfl,⟨a5,c5,rfl,hv1,hv2,hv3⟩,H5⟩
        have HZ5:Hid (z.mod.size<=maxLen/\z.name.size<=maxLen/\EAt w5 (wr.heap.size<=·) a5 z.args.length (zaw z.args)):=⟨hv1,hv2,hv3⟩
        have hz5:=K5.size;have HR5:=hid H5;have HKr5:=hid (HKr.out.trans K5);clear hv1 hv2 hv3 H5 K5;go_wp2_with fail;refine (zaj R B l6 tRp _ (HR5.out.alloc _) (by decide)).mono ?_;rintro e w6 ⟨rfl,H6,K6⟩;have hz6:=K6.size;simp at hz6;have HR6:=hid H6;have HB6:Hid (w6.heap[w.heap.size]? = some ezZ):=(K6.block w.heap.size (by simp;omega) (by omega)).trans (zai ((HKr5.out.block w.heap.size (by simp;omega) (by omega)).trans (zai HB4.out)));have HC6:Hid (w6.heap[w4.heap.size]? = some (.cells #[.int .i64 y.op,.int .i64 y.n,.string y.mod,.string y.name,.slice a4 y.args.length c4] 76 (0,0))):=(K6.block w4.heap.size (by simp;omega) (by omega)).trans (zai ((HKr5.out.block w4.heap.size (by simp) (by omega)).trans (heap_newP _ _)));have HD6:Hid (w6.heap[w5.heap.size]? = some (.cells #[.int .i64 z.op,.int .i64 z.n,.string z.mod,.string z.name,.slice a5 z.args.length c5] 76 (0,0))):=(K6.block w5.heap.size (by simp) (by omega)).trans (heap_newP _ _)
        obtain ⟨h0,h1,h2,h3,h4,h5⟩:=zaf HB6.out;obtain ⟨f0,f1,f2,f3,f4,f5⟩:=zaf HC6.out;obtain ⟨g0,g1,g2,g3,g4,g5⟩:=zaf HD6.out
        have mx:Moves w4 (w3.heap.size<=·) w6 (w3.heap.size<=·):=(((((Moves.refl w4 _).alloc _).keeps HKr5.out (by intro b _ hb;omega)).alloc _).keeps K6 (by intro b _ hb;omega))
        have my:Moves w5 (wr.heap.size<=·) w6 (wr.heap.size<=·):=((Moves.refl w5 _).alloc _).keeps K6 (by intro b _ hb;omega)
        have hq0:w.heap.size<w6.heap.size:=by omega
        have hq4:w4.heap.size<w6.heap.size:=by omega
        have hq5:w5.heap.size<w6.heap.size:=by omega
        have HF:Hid (zcd R B w (eExpr (k+1) (x :: r)) (zdd (w.heap.size<=·)) (.returned (.agg #[.int .i64 (7+(i:Int)),.int .i64 0,.string ⟨#[]⟩,.string ⟨#[]⟩,.slice (some ⟨w6.heap.size,0,none⟩) 2 2])) ((set5 w6 w.heap.size (.int .i64 (7+(i:Int))) (.int .i64 0) (.string ⟨#[]⟩) (.string ⟨#[]⟩) (.slice (some ⟨w6.heap.size,0,none⟩) 2 2)).alloc (.cells #[.int .i64 y.op,.int .i64 y.n,.string y.mod,.string y.name,.slice a4 y.args.length c4,.int .i64 z.op,.int .i64 z.n,.string z.mod,.string z.name,.slice a5 z.args.length c5] 76))):=
         zpc HY.out HXo.out (((HK4'.out.alloc _).trans HKr5.out |>.alloc _).trans K6) H6 HY4.out HZ5.out mx my (by omega) (by omega) (by omega)
        clear H6 K6 mx my HR5 HKr5 HKr HRr;go_wp2_with fail;refine bodyPost_ret (v:=.agg #[.int .i64 (7+(i:Int)),.int .i64 0,.string ⟨#[]⟩,.string ⟨#[]⟩,.slice (some ⟨w6.heap.size,0,none⟩) 2 2]) (by simp [results,Tryz.results120,go_sem,h0,h1,h2,h3,h4,hq0]) rfl HF.out
      . have h15:¬ ((7+(j:Int))<=15):=by omega
        have HXo:Hid (eExpr (k+1) (x :: r)=(.mk (7+(i:Int)) 0 ⟨#[]⟩ ⟨#[]⟩ [y,(eExpr k (l4.tail)).1],eTk (eExpr k (l4.tail)).2 tRp)):=by
         show eExpr (k+1) (x :: r)=_
         rw [HX.out];simp only [HEo.out]
        clear HX HEo;go_wp2_with fail;refine (HI.out (l4.tail) wr HRr.out).mono ?_;generalize eExpr k (l4.tail)=q at *;obtain ⟨z,l6⟩:=q;rintro e w5 ⟨K5,v,rfl,⟨a5,c5,rfl,hv1,hv2,hv3⟩,H5⟩
        have HZ5:Hid (z.mod.size<=maxLen/\z.name.size<=maxLen/\EAt w5 (wr.heap.size<=·) a5 z.args.length (zaw z.args)):=⟨hv1,hv2,hv3⟩
        have hz5:=K5.size;have HR5:=hid H5;have HKr5:=hid (HKr.out.trans K5);clear hv1 hv2 hv3 H5 K5;go_wp2_with fail;refine (zaj R B l6 tRp _ (HR5.out.alloc _) (by decide)).mono ?_;rintro e w6 ⟨rfl,H6,K6⟩;have hz6:=K6.size;simp at hz6;have HR6:=hid H6;have HB6:Hid (w6.heap[w.heap.size]? = some ezZ):=(K6.block w.heap.size (by simp;omega) (by omega)).trans (zai ((HKr5.out.block w.heap.size (by simp;omega) (by omega)).trans (zai HB4.out)));have HC6:Hid (w6.heap[w4.heap.size]? = some (.cells #[.int .i64 y.op,.int .i64 y.n,.string y.mod,.string y.name,.slice a4 y.args.length c4] 76 (0,0))):=(K6.block w4.heap.size (by simp;omega) (by omega)).trans (zai ((HKr5.out.block w4.heap.size (by simp) (by omega)).trans (heap_newP _ _)));have HD6:Hid (w6.heap[w5.heap.size]? = some (.cells #[.int .i64 z.op,.int .i64 z.n,.string z.mod,.string z.name,.slice a5 z.args.length c5] 76 (0,0))):=(K6.block w5.heap.size (by simp) (by omega)).trans (heap_newP _ _)
        obtain ⟨h0,h1,h2,h3,h4,h5⟩:=zaf HB6.out;obtain ⟨f0,f1,f2,f3,f4,f5⟩:=zaf HC6.out;obtain ⟨g0,g1,g2,g3,g4,g5⟩:=zaf HD6.out
        have mx:Moves w4 (w3.heap.size<=·) w6 (w3.heap.size<=·):=(((((Moves.refl w4 _).alloc _).keeps HKr5.out (by intro b _ hb;omega)).alloc _).keeps K6 (by intro b _ hb;omega))
        have my:Moves w5 (wr.heap.size<=·) w6 (wr.heap.size<=·):=((Moves.refl w5 _).alloc _).keeps K6 (by intro b _ hb;omega)
        have hq0:w.heap.size<w6.heap.size:=by omega
        have hq4:w4.heap.size<w6.heap.size:=by omega
        have hq5:w5.heap.size<w6.heap.size:=by omega
        have HF:Hid (zcd R B w (eExpr (k+1) (x :: r)) (zdd (w.heap.size<=·)) (.returned (.agg #[.int .i64 (7+(i:Int)),.int .i64 0,.string ⟨#[]⟩,.string ⟨#[]⟩,.slice (some ⟨w6.heap.size,0,none⟩) 2 2])) ((set5 w6 w.heap.size (.int .i64 (7+(i:Int))) (.int .i64 0) (.string ⟨#[]⟩) (.string ⟨#[]⟩) (.slice (some ⟨w6.heap.size,0,none⟩) 2 2)).alloc (.cells #[.int .i64 y.op,.int .i64 y.n,.string y.mod,.string y.name,.slice a4 y.args.length c4,.int .i64 z.op,.int .i64 z.n,.string z.mod,.string z.name,.slice a5 z.args.length c5] 76))):=
         zpc HY.out HXo.out (((HK4'.out.alloc _).trans HKr5.out |>.alloc _).trans K6) H6 HY4.out HZ5.out mx my (by omega) (by omega) (by omega)
        clear H6 K6 mx my HR5 HKr5 HKr HRr;go_wp2_with fail;refine bodyPost_ret (v:=.agg #[.int .i64 (7+(i:Int)),.int .i64 0,.string ⟨#[]⟩,.string ⟨#[]⟩,.slice (some ⟨w6.heap.size,0,none⟩) 2 2]) (by simp [results,Tryz.results120,go_sem,h0,h1,h2,h3,h4,hq0]) rfl HF.out
 | false=>
 have HX3:=hid (HX2.out.trans (if_neg (by rw [hs4];decide)));refine (za2 R B (x :: r) tLp w2 HR2.out (by decide) hs4).mono ?_;rintro e w4 ⟨rfl,H4,K4⟩;have HR4:=hid H4;have HK4:=hid (HK2.out.trans K4);have HB4:Hid (w4.heap[w.heap.size]? = some ezZ):=(K4.block w.heap.size (by omega) (by omega)).trans HB2.out;have hz4:=K4.size;clear H4 K4 hs4 HX2 HR2 HK2 HB2;go_wp2_with fail;refine (zgv R B (x :: r) _ (HR4.out.alloc _)).mono ?_;generalize eRef (x :: r)=q at *;obtain ⟨⟨m,nm⟩,l5⟩:=q;simp only [] at HX3;rintro e w5 ⟨rfl,H5,K5,hm,hn⟩;have HR5':=hid H5;have HK5':=hid ((HK4.out.alloc _).trans K5);have HB5:Hid (w5.heap[w.heap.size]? = some ezZ):=(K5.block w.heap.size (by simp;omega) (by omega)).trans (zai HB4.out);have HC5:Hid (w5.heap[w4.heap.size]? = some ezZ):=(K5.block w4.heap.size (by simp) (by omega)).trans (heap_newP _ _);have hz5:=K5.size
 simp at hz5;obtain ⟨h0,h1,h2,h3,h4,h5⟩:=zaf HC5.out;clear H5 K5 HR4 HB4 HK4;have HR6:Hid (Ez R B ((w5.setCell ⟨w4.heap.size,2,none⟩ (.string m)).setCell ⟨w4.heap.size,3,none⟩ (.string nm)) l5):=(HR5'.out.setAbove HY.out (by show _<=w4.heap.size;omega) _).setAbove HY.out (by show _<=w4.heap.size;omega) _;have HK6:Hid (Keeps R w ((w5.setCell ⟨w4.heap.size,2,none⟩ (.string m)).setCell ⟨w4.heap.size,3,none⟩ (.string nm))):=(HK5'.out.set (by show _<=w4.heap.size;omega) _).set (by show _<=w4.heap.size;omega) _;have HB6:Hid (((w5.setCell ⟨w4.heap.size,2,none⟩ (.string m)).setCell ⟨w4.heap.size,3,none⟩ (.string nm)).heap[w.heap.size]? = some ezZ):=(zag (by show w.heap.size≠w4.heap.size;omega) _).trans ((zag (by show w.heap.size≠w4.heap.size;omega) _).trans HB5.out);have HC6:Hid (((w5.setCell ⟨w4.heap.size,2,none⟩ (.string m)).setCell ⟨w4.heap.size,3,none⟩ (.string nm)).heap[w4.heap.size]? = some (.cells #[.int .i64 0,.int .i64 0,.string m,.string nm,.slice none 0 0] 76 (0,0))):=zan (zan HC5.out _) _
 have hz6:((w5.setCell ⟨w4.heap.size,2,none⟩ (.string m)).setCell ⟨w4.heap.size,3,none⟩ (.string nm)).heap.size=w5.heap.size:=by simp only [World.size_setCell]
 clear HR5' HK5' HB5;go_wp2_with fail;generalize (w5.setCell ⟨w4.heap.size,2,none⟩ (.string m)).setCell ⟨w4.heap.size,3,none⟩ (.string nm)=w6 at *;clear h0 h1 h2 h3 h4 h5 HC5
 cases hs7:skB l5 tLs with
 | true=>
   have HX:=hid (HX3.out.trans (if_pos hs7));refine (zbj R B l5 tLs w6 HR6.out (by decide) hs7).mono ?_;rintro e w7 ⟨rfl,HR7,HK7⟩;have hz7:=HK7.size;have HB7:Hid (w7.heap[w.heap.size]? = some ezZ):=(HK7.block w.heap.size (by omega) (by omega)).trans HB6.out;have HC7:Hid (w7.heap[w4.heap.size]? = some (.cells #[.int .i64 0,.int .i64 0,.string m,.string nm,.slice none 0 0] 76 (0,0))):=(HK7.block w4.heap.size (by omega) (by omega)).trans HC6.out;obtain ⟨h0,h1,h2,h3,h4,h5⟩:=zaf HC7.out;have HR8:Hid (Ez R B (w7.setCell ⟨w4.heap.size,0,none⟩ (.int .i64 4)) l5.tail):=HR7.setAbove HY.out (by show _<=w4.heap.size;omega) _;have HK8:Hid (Keeps R w (w7.setCell ⟨w4.heap.size,0,none⟩ (.int .i64 4))):=(HK6.out.trans HK7).set (by show _<=w4.heap.size;omega) _;have HB8:Hid ((w7.setCell ⟨w4.heap.size,0,none⟩ (.int .i64 4)).heap[w.heap.size]? = some ezZ):=(zag (by show w.heap.size≠w4.heap.size;omega) _).trans HB7.out
   have HC8:Hid ((w7.setCell ⟨w4.heap.size,0,none⟩ (.int .i64 4)).heap[w4.heap.size]? = some (.cells #[.int .i64 4,.int .i64 0,.string m,.string nm,.slice none 0 0] 76 (0,0))):=zan HC7.out _
   have hz8:(w7.setCell ⟨w4.heap.size,0,none⟩ (.int .i64 4)).heap.size=w7.heap.size:=by simp only [World.size_setCell]
   clear HR7 HK7 HB7 HR6 HK6 HB6 HC6 HX3 hs7;go_wp2_with fail;generalize w7.setCell ⟨w4.heap.size,0,none⟩ (.int .i64 4)=w8 at *;clear h0 h1 h2 h3 h4 h5 HC7;refine (HI.out l5.tail w8 HR8.out).mono ?_;generalize eExpr k l5.tail=q at *;obtain ⟨y,l9⟩:=q;simp only [] at HX;rintro e w9 ⟨HK9,v,rfl,⟨a9,c9,rfl,hy1,hy2,hy3⟩,HR9⟩;have hz9:=HK9.size;have HB9:Hid (w9.heap[w.heap.size]? = some ezZ):=(HK9.block w.heap.size (by omega) (by omega)).trans HB8.out;have HC9:Hid (w9.heap[w4.heap.size]? = some (.cells #[.int .i64 4,.int .i64 0,.string m,.string nm,.slice none 0 0] 76 (0,0))):=(HK9.block w4.heap.size (by omega) (by omega)).trans HC8.out;obtain ⟨h0,h1,h2,h3,h4,h5⟩:=zaf HC9.out
   have hq4:w4.heap.size<w9.heap.size:=by omega
   have HY9:Hid (y.mod.size<=maxLen/\y.name.size<=maxLen/\EAt w9 (w8.heap.size<=·) a9 y.args.length (zaw y.args)):=⟨hy1,hy2,hy3⟩
   have HR9':=hid HR9;have HK9':=hid (HK8.out.trans HK9);clear HR9 HK9 hy1 hy2 hy3 HB8 HC8 HR8 HK8;go_wp2_with fail;refine (zaj R B l9 tRs _ ((HR9'.out.setAbove HY.out (by show _<=w4.heap.size;omega) _).alloc _) (by decide)).mono ?_;rintro e w10 ⟨rfl,HR10,HK10⟩;have hz10:=HK10.size;simp at hz10;have HB10:Hid (w10.heap[w.heap.size]? = some ezZ):=(HK10.block w.heap.size (by simp;omega) (by omega)).trans (zai ((zag (by show w.heap.size≠w4.heap.size;omega) _).trans HB9.out));have HC10:Hid (w10.heap[w4.heap.size]? = some (.cells #[.int .i64 4,.int .i64 0,.string m,.string nm,.slice (some ⟨w9.heap.size,0,none⟩) 1 1] 76 (0,0))):=(HK10.block w4.heap.size (by simp;omega) (by omega)).trans (zai (zan HC9.out _))
   have HD10:Hid (w10.heap[w9.heap.size]? = some (.cells #[.int .i64 y.op,.int .i64 y.n,.string y.mod,.string y.name,.slice a9 y.args.length c9] 76 (0,0))):=(HK10.block w9.heap.size (by simp) (by omega)).trans (by
    have e:=heap_newP (w9.setCell ⟨w4.heap.size,4,none⟩ (.slice (some ⟨w9.heap.size,0,none⟩) 1 1)) (.cells #[.int .i64 y.op,.int .i64 y.n,.string y.mod,.string y.name,.slice a9 y.args.length c9] 76);simp only [World.size_setCell] at e
    exact e)
   have HM10:Moves w9 (w8.heap.size<=·) w10 (w8.heap.size<=·):=(((Moves.refl w9 _).set (by intro b _ hb;show b≠w4.heap.size;omega) _).alloc _).keeps HK10 (by intro b _ hb;omega)
   have HF:Hid (zcd R B w (eExpr (k+1) (x :: r)) (zdd (w.heap.size<=·)) (.returned (.agg #[.int .i64 4,.int .i64 0,.string m,.string nm,.slice (some ⟨w9.heap.size,0,none⟩) 1 1])) (set5 w10 w.heap.size (.int .i64 4) (.int .i64 0) (.string m) (.string nm) (.slice (some ⟨w9.heap.size,0,none⟩) 1 1))):=
    zn3 (x:=.mk 4 0 m nm [y]) HY.out HX.out (((HK9'.out.set (by show _<=w4.heap.size;omega) _).alloc _).trans HK10) HR10 hm hn (lo:=w8.heap.size) (zez HY9.out.1 HY9.out.2.1 HY9.out.2.2 HM10 HD10.out (by omega)) (by omega)
   obtain ⟨h0,h1,h2,h3,h4,h5⟩:=zaf HB10.out;obtain ⟨g0,g1,g2,g3,g4,g5⟩:=zaf HC10.out;clear HK10 HR10 HM10;go_wp2_with fail;refine bodyPost_ret (v:=.agg #[.int .i64 4,.int .i64 0,.string m,.string nm,.slice (some ⟨w9.heap.size,0,none⟩) 1 1]) (by simp [results,Tryz.results120,go_sem,h0,h1,h2,h3,h4]) rfl HF.out
 | false=>
 have HX4:=hid (HX3.out.trans (if_neg (by rw [hs7];decide)));refine (za2 R B l5 tLs w6 HR6.out (by decide) hs7).mono ?_;rintro e w7 ⟨rfl,HR7,HK7⟩;have hz7:=HK7.size;have HR7':=hid HR7;have HK7':=hid (HK6.out.trans HK7);have HB7:Hid (w7.heap[w.heap.size]? = some ezZ):=(HK7.block w.heap.size (by omega) (by omega)).trans HB6.out;have HC7:Hid (w7.heap[w4.heap.size]? = some (.cells #[.int .i64 0,.int .i64 0,.string m,.string nm,.slice none 0 0] 76 (0,0))):=(HK7.block w4.heap.size (by omega) (by omega)).trans HC6.out;clear HR7 HK7 HR6 HK6 HB6 HC6 HX3 hs7;go_wp2_with fail
 cases hs8:skB l5 tLp with
 | true=>
   have HX:=hid (HX4.out.trans (if_pos hs8));refine (zbj R B l5 tLp w7 HR7'.out (by decide) hs8).mono ?_;rintro e w8 ⟨rfl,HR8,HK8⟩;have hz8:=HK8.size;have HB8:Hid (w8.heap[w.heap.size]? = some ezZ):=(HK8.block w.heap.size (by omega) (by omega)).trans HB7.out;have HC8:Hid (w8.heap[w4.heap.size]? = some (.cells #[.int .i64 0,.int .i64 0,.string m,.string nm,.slice none 0 0] 76 (0,0))):=(HK8.block w4.heap.size (by omega) (by omega)).trans HC7.out;obtain ⟨h0,h1,h2,h3,h4,h5⟩:=zaf HC8.out;have HR9:Hid (Ez R B (w8.setCell ⟨w4.heap.size,0,none⟩ (.int .i64 5)) l5.tail):=HR8.setAbove HY.out (by show _<=w4.heap.size;omega) _;have HK9:Hid (Keeps R w (w8.setCell ⟨w4.heap.size,0,none⟩ (.int .i64 5))):=(HK7'.out.trans HK8).set (by show _<=w4.heap.size;omega) _;have HB9:Hid ((w8.setCell ⟨w4.heap.size,0,none⟩ (.int .i64 5)).heap[w.heap.size]? = some ezZ):=(zag (by show w.heap.size≠w4.heap.size;omega) _).trans HB8.out
   have HC9:Hid ((w8.setCell ⟨w4.heap.size,0,none⟩ (.int .i64 5)).heap[w4.heap.size]? = some (.cells #[.int .i64 5,.int .i64 0,.string m,.string nm,.slice none 0 0] 76 (0,0))):=zan HC8.out _
   have hz9:(w8.setCell ⟨w4.heap.size,0,none⟩ (.int .i64 5)).heap.size=w8.heap.size:=by simp only [World.size_setCell]
   clear HR8 HK8 HB8 HR7' HK7' HB7 HC7 hs8 HX4;go_wp2_with fail;generalize w8.setCell ⟨w4.heap.size,0,none⟩ (.int .i64 5)=w9 at *;clear h0 h1 h2 h3 h4 h5 HC8;refine (HL.out l5.tail w9 HR9.out).mono ?_;generalize eList (eExpr k) l5.tail=q at *;obtain ⟨xs,l10⟩:=q;simp only [] at HX;rintro e w10 ⟨HK10,v,rfl,⟨a10,c10,rfl,hx10⟩,HR10⟩;have hz10:=HK10.size;have HB10:Hid (w10.heap[w.heap.size]? = some ezZ):=(HK10.block w.heap.size (by omega) (by omega)).trans HB9.out;have HC10:Hid (w10.heap[w4.heap.size]? = some (.cells #[.int .i64 5,.int .i64 0,.string m,.string nm,.slice none 0 0] 76 (0,0))):=(HK10.block w4.heap.size (by omega) (by omega)).trans HC9.out
   have HF:Hid (zcd R B w (eExpr (k+1) (x :: r)) (zdd (w.heap.size<=·)) (.returned (.agg #[.int .i64 5,.int .i64 0,.string m,.string nm,.slice a10 xs.length c10])) (set5 (w10.setCell ⟨w4.heap.size,4,none⟩ (.slice a10 xs.length c10)) w.heap.size (.int .i64 5) (.int .i64 0) (.string m) (.string nm) (.slice a10 xs.length c10))):=
    zn3 (x:=.mk 5 0 m nm xs) HY.out HX.out ((HK9.out.trans HK10).set (by show _<=w4.heap.size;omega) _) (HR10.setAbove HY.out (by show _<=w4.heap.size;omega) _) hm hn (lo:=w9.heap.size) (hx10.moves ((Moves.refl w10 _).set (by intro b _ hb;show b≠w4.heap.size;omega) _)) (by omega)
   obtain ⟨h0,h1,h2,h3,h4,h5⟩:=zaf HB10.out;obtain ⟨g0,g1,g2,g3,g4,g5⟩:=zaf HC10.out
   have hne:w.heap.size≠w4.heap.size:=by omega
   clear HK10 HR10;go_wp2_with fail;refine bodyPost_ret (v:=.agg #[.int .i64 5,.int .i64 0,.string m,.string nm,.slice a10 xs.length c10]) (by simp [results,Tryz.results120,go_sem,h0,h1,h2,h3,h4]) rfl HF.out
 | false=>
 have HX:=hid (HX4.out.trans (if_neg (by rw [hs8];decide)));refine (za2 R B l5 tLp w7 HR7'.out (by decide) hs8).mono ?_;rintro e w8 ⟨rfl,HR8,HK8⟩;have hz8:=HK8.size;have HB8:Hid (w8.heap[w.heap.size]? = some ezZ):=(HK8.block w.heap.size (by omega) (by omega)).trans HB7.out;have HC8:Hid (w8.heap[w4.heap.size]? = some (.cells #[.int .i64 0,.int .i64 0,.string m,.string nm,.slice none 0 0] 76 (0,0))):=(HK8.block w4.heap.size (by omega) (by omega)).trans HC7.out
 have HF:Hid (zcd R B w (eExpr (k+1) (x :: r)) (zdd (w.heap.size<=·)) (.returned (.agg #[.int .i64 3,.int .i64 0,.string m,.string nm,.slice none 0 0])) (set5 (w8.setCell ⟨w4.heap.size,0,none⟩ (.int .i64 3)) w.heap.size (.int .i64 3) (.int .i64 0) (.string m) (.string nm) (.slice none 0 0))):=
  zn3 (x:=.mk 3 0 m nm []) HY.out HX.out ((HK7'.out.trans HK8).set (by show _<=w4.heap.size;omega) _) (HR8.setAbove HY.out (by show _<=w4.heap.size;omega) _) hm hn (lo:=w8.heap.size) (Or.inl rfl) (by omega)
 obtain ⟨h0,h1,h2,h3,h4,h5⟩:=zaf HB8.out;obtain ⟨g0,g1,g2,g3,g4,g5⟩:=zaf HC8.out
 have hne:w.heap.size≠w4.heap.size:=by omega
 clear HK8 HR8;go_wp2_with fail;refine bodyPost_ret (v:=.agg #[.int .i64 3,.int .i64 0,.string m,.string nm,.slice none 0 0]) (by simp [results,Tryz.results120,go_sem,h0,h1,h2,h3,h4]) rfl HF.out
theorem zw6 (R B k:Nat) (hk8:k<8) (IH:ExE R B k):ExE R B (k+1):=by
 refine ⟨fun l w d hd h=>?_⟩
 cases l with
 | nil=>exact zw4 R B k w d (by omega) h
 | cons x r=>
   by_cases hx:x.kind=2
   . exact zw5 R B k x r w d (by omega) h hx
   . exact ztv R B k IH x r w d hd hk8 h hx
theorem zml (R B:Nat):∀ k,k<=8->ExE R B k
 | 0,_=>ztt R B
 | k+1,h=>zw6 R B k (by omega) (zml R B k (by omega))
theorem zc8 (R B:Nat) (l:List Tk) (w:World) (h:Ez R B w l):Calls Tryz.prog 120 #[.pointer (some ⟨R,0,none⟩),.int .i64 1] w (zcd R B w (eExpr 7 l) (zdd (w.heap.size<=·))):=
 (zml R B 7 (by omega)).expr l w 1 (by omega) h
theorem zpd (R B:Nat) (l:List Tk) (w:World) (h:Ez R B w l):Calls Tryz.prog 122 #[.pointer (some ⟨R,0,none⟩),.int .i64 1] w (zcd R B w (eList (eExpr 7) l) (z1g (w.heap.size<=·))):=
 zn2 R B 7 (zml R B 7 (by omega)) l w 1 (by omega) h
end Go.Proofs.YtcekpobmbmnplaaGreatDoor
