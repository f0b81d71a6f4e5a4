import Derived.Test.YtndkhgakfodldaaGreatDoorXc
import Derived.BigQuiet
namespace Go.Proofs.YtndkhgakfodldaaGreatDoor
set_option maxRecDepth 100000
set_option maxHeartbeats 800000
namespace Fx
open Go.RowKit Go.Shelf Go.WideMaps Go.Maps
set_option linter.unusedSimpArgs false
theorem zwo:∀ (b a:List (L8)),zd9 a=true->zd9 (a++b)=true
 | [],a,h=>by rw [vbw];exact h
 | x :: b,a,h=>by
   rw [show a++x :: b=(a++[x])++b from by simp];exact zwo b _ (by rw [zi1,h,Bool.true_or])
theorem zyq {l:List (L8)} (k:Nat) (h:zd9 (l.take k)=true):zd9 l=true:=by
 have:=zwo (l.drop k) (l.take k) h;rw [vdh] at this;exact this
theorem zos {a b:ByteArray} (h:a.data.toList=b.data.toList):a=b:=by
 cases a with | mk a=>cases b with | mk b=>cases a;cases b;simp_all
theorem zot (l:List ByteArray) (k:Nat) (h:k<l.length):(zbk l).take (k+1)=(zbk l).take k++[l[k].data.toList]:=by
 have h2:k<(zbk l).length:=by simpa [zbk] using h
 rw [vag h2];simp [zbk]
theorem zou (l:List ByteArray) (k:Nat) (s:L8):s ∈ (zbk l).take k↔∃ j,∃ h:j<l.length,j<k/\l[j].data.toList=s:=by
 constructor
 . intro h
   obtain ⟨j,hj,e⟩:=vay h;rw [vbu] at hj
   have hl:(zbk l).length=l.length:=by simp [zbk]
   refine ⟨j,by omega,by omega,?_⟩;rw [← e];simp [zbk]
 . rintro ⟨j,hj,hk,rfl⟩
   have hl:(zbk l).length=l.length:=by simp [zbk]
   have:((zbk l).take k)[j]'(by rw [vbu];omega)=l[j].data.toList:=by simp [zbk]
   rw [← this];exact vah _
theorem zhw (a:OA) (cap:Nat) (l:List ByteArray) (w:World) (hT:zd2 w a l) (hl:l.length<=1000000) :
 Calls Tryz.prog 53 #[.slice a l.length cap] w fun e w'=>e = .returned (.bool (zd9 (zbk l)))/\Below w.heap.size w w':=by
 have HT:=hid hT;clear hT;go_enter Tryz.func53,Tryz.ntmps53;go_wp2_with fail
 go_loopw [3,4] (fun i _ wr=>∃ k:Nat,k<=l.length/\i = .int .i64 k/\zd9 ((zbk l).take k)=false/\Below w.heap.size w wr) (fun i _ _=>l.length - (intOf i).toNat)
 case atStart=>exact ⟨0,vad _,rfl,rfl,Below.refl _ _⟩
 case round =>
  obtain ⟨k,hk,rfl,hd,hb⟩:=hrel;have HD:=hid hd;have HB:=hid hb;clear hd
  by_cases hlt:k<l.length
  . go_wp2_with fail
    go_loopw [4] (fun i wr=>∃ j:Nat,j<=k/\i = .int .i64 j/\(∀ m,∀ h:m<l.length,m<j->l[m].data.toList≠l[k].data.toList)/\Below w.heap.size w wr) (fun i _=>k - (intOf i).toNat)
    case atStart=>exact ⟨0,vad _,rfl,(fun m _ h=>by omega),HB.out⟩
    case round=>
     obtain ⟨j,hj,rfl,hne,hb2⟩:=hrel;have HNe:=hid hne;have HB2:=hid hb2;clear hne
     by_cases hjk:j<k
     . obtain ⟨b,off,rfl,hbl,c0⟩:=(HT.out.later hb2).place hlt
       obtain ⟨b',off',e,_,c1⟩:=(HT.out.later hb2).place (k:=j) (by omega)
       cases e
       clear hb2 hb
       by_cases he:l[k]=l[j]
       . have HR:Hid (zd9 (zbk l)=true):=by
          refine zyq (k+1) ?_;rw [zot l k hlt,zi1,HD.out,vaz];exact decide_eq_true ((zou l k _).2 ⟨j,by omega,hjk,by rw [he]⟩)
         rw [← he] at c1;clear he;generalize l[k]=s at *;go_wp2_with fail
         go_quiet ((fail))
         go_wp2_with fail;go_ret;exact ⟨zab HR.out.symm,HB2.out.trans ⟨rfl,rfl,rfl,vaa _,fun _ _=>rfl⟩⟩
       . have HN2:Hid (l[j].data.toList≠l[k].data.toList):=fun h=>he (zos h.symm)
         have hbe:(l[k].data.toList == l[j].data.toList)=false:=by
          rw [beq_eq_false_iff_ne]
          exact fun h=>he (zos h)
         have hbe2:(l[k].toList == l[j].toList)=false:=by rw [vas,vas];exact hbe
         clear he;go_wp2_with fail
         go_quiet ((fail))
         go_wp2_with fail;go_roundw
         case rel=>exact ⟨j+1,by omega,by go_num,(fun m h hm=>by
          rcases vbk m j with h1 | h1
          . exact HNe.out m h h1
          . obtain rfl:m=j:=by omega
            exact HN2.out),HB2.out.trans ⟨rfl,rfl,rfl,vaa _,fun _ _=>rfl⟩⟩
         case measure=>simp [intOf];omega
     . have HR:Hid (zd9 ((zbk l).take (k+1))=false):=by
        show zd9 ((zbk l).take (k+1))=false;rw [zot l k hlt,zi1,HD.out,vaz];refine decide_eq_false (fun h=>?_);obtain ⟨m,hm,hmk,e⟩:=(zou l k _).1 h;exact HNe.out m hm (by omega) e
       clear hb2 hb;go_wp2_with fail;go_roundw
       case rel=>exact ⟨k+1,by omega,by go_num,HR.out,HB2.out⟩
       case measure=>simp [intOf];omega
  . have HR:Hid (zd9 (zbk l)=false):=by
     have:=HD.out;rw [vaq (by simp [zbk];omega)] at this;exact this
    go_wp2_with fail;go_ret;exact ⟨zab HR.out.symm,HB.out⟩
end Fx
set_option maxHeartbeats 6400000
namespace Fx
open Go.RowKit Go.Shelf Go.WideMaps Go.Maps
set_option linter.unusedSimpArgs false
theorem zcg {i:It} (h:nameOk i.name=false\/numOkB i=false):za8 i=false:=by
 unfold za8
 rcases h with h | h<;>simp [h]
theorem zfd {i:It} (h:nameOk i.name=true) (h1:numOkB i=true):za8 i=true:=by unfold za8;rw [h,h1];rfl
theorem zqj {i:It} (h:¬ ((1<=i.kind/\i.kind<=4)/\(0<=i.n/\i.n<=1099511627775)/\(0<=i.at_/\i.at_<=320))):numOkB i=false:=by
 rw [Bool.eq_false_iff];intro hc;unfold numOkB at hc
 apply h
 split at hc
 . simp only [van,decide_eq_true_eq] at hc
   omega
 . split at hc
   . simp only [van,decide_eq_true_eq] at hc
     omega
   . split at hc
     . simp only [van,decide_eq_true_eq] at hc
       omega
     . split at hc
       . simp only [van,decide_eq_true_eq] at hc
         omega
       . cases hc
theorem z0o {wr w1:World} {X Y:Obj} {v:Value} {B n:Nat} {xs:List Value} (ho:wr.ownsRow B 9 1 v n xs) (hg:((wr.alloc X).alloc Y).grownBy w1 v.ownBlock):w1.heap[wr.heap.size]? = some X:=by
 have h1:=hg.block wr.heap.size (by simp;omega) (fun e=>by
  have:=(ho.lt wr.heap.size e.symm).2
  omega)
 rw [h1]
 have e:∀ (v:World) (o:Obj),(v.alloc o).heap=v.heap.push o:=fun _ _=>rfl
 simp only [e,Array.getElem?_push,Array.size_push];rw [if_neg (by omega),if_pos trivial]
theorem znf (f:Fc) (a:OA) (cap:Nat) (w:World) (hT:zbp w a f.items) (hl:f.items.length<=1000000000000000) (hs:f.name.size<=maxLen) (hf:AllFit f.items) :
 Calls Tryz.prog 20 #[.agg #[.string f.name,.slice a f.items.length cap]] w fun e w'=>e = .returned (.int .i64 (zey f))/\Below w.heap.size w w':=by
 obtain ⟨nm,l⟩:=f;simp only at *;obtain ⟨i0,hi,hz0,hz1,hz2⟩:=info_parts z1y
 obtain ⟨W0,hW0⟩:∃ W0:World,W0=w.alloc (.cells #[.string nm,.slice a l.length cap] 30):=⟨_,rfl⟩
 have hzW:W0.heap.size=w.heap.size+1:=by rw [hW0];simp
 have HB0:Hid (Below w.heap.size w W0):=by rw [hW0];exact (Below.refl _ _).alloc (vaa _) _
 have HBox:Hid (W0.cell? ⟨w.heap.size,1,none⟩=some (.slice a l.length cap)):=by rw [hW0];show World.cell? _ _=_;simp
 by_cases h16:16<l.length
 . have HR:Hid (zey ⟨nm,l⟩=2):=zrc h16
   have HW0:=hid hW0;clear hW0;go_enter Tryz.func20,Tryz.ntmps20;go_wp2_with fail;go_ret;exact ⟨zaq HR.out.symm,by rw [← HW0.out];exact HB0.out⟩
 have HN0:Hid (∀ W,Calls Tryz.prog 62 #[.string nm] W fun e w'=>e = .returned (.bool (nameOk nm))/\w'=W):=fun W=>zh4 nm W hs
 have HNk:Hid (∀ (k:Nat) (h:k<l.length) W,Calls Tryz.prog 62 #[.string l[k].name] W fun e w'=>e = .returned (.bool (nameOk l[k].name))/\w'=W):=fun k h W=>zh4 l[k].name W (hf _ (vah _))
 have HD:Hid (∀ (W:World) (v:Value) (B:Nat),W.ownsRow B 9 1 v l.length (strs l)->Calls Tryz.prog 53 #[v] W fun e w'=>e = .returned (.bool (zd9 (zbs l)))/\Below W.heap.size W w'):=fun W v B ho=>by
  obtain ⟨a2,c2,rfl,hS⟩:=zi7 ho;rw [← zfc];exact zhw a2 c2 _ W hS (by rw [vbm];omega)
 have HT:=hid (hT.later HB0.out);have H16:=hid h16;have HW0:=hid hW0;have HZW:=hid hzW;clear hT hf hs hW0 hzW
 cases hnm:nameOk nm with
 | false=>
   have HR:Hid (zey ⟨nm,l⟩=1):=zrd h16 hnm;rw [hnm] at HN0;clear hnm;go_enter Tryz.func20,Tryz.ntmps20
   go_wp2_with (go_at_call 62;refine (HN0.out _).mono ?_;rintro e w' ⟨rfl,rfl⟩)
   go_ret;exact ⟨zaq HR.out.symm,by rw [← HW0.out];exact HB0.out⟩
 | true =>
   rw [hnm] at HN0;have HNm:=hid hnm;clear hnm;go_enter Tryz.func20,Tryz.ntmps20
   go_wp2_with (go_at_call 62;refine (HN0.out _).mono ?_;rintro e w' ⟨rfl,rfl⟩)
   go_loopw [3,4,5] (fun v i _ wr=>∃ k:Nat,k<=l.length/\i = .int .i64 k/\(l.take k).all za8=true/\wr.ownsRow W0.heap.size 9 1 v k (strs (l.take k))/\Below W0.heap.size W0 wr) (fun _ i _ _=>l.length - (intOf i).toNat)
   case atStart=>exact ⟨0,vad _,rfl,rfl,veg _ _ _ _,by rw [← HW0.out];exact Below.refl _ _⟩
   case round =>
    obtain ⟨k,hk,rfl,hall,hown,hb⟩:=hrel;have HA:=hid hall;have HO:=hid hown;have HBr:=hid hb;have cb:wr.cell? ⟨w.heap.size,1,none⟩=some (.slice a l.length cap):=(hb.cell (p:=⟨w.heap.size,1,none⟩) (by show w.heap.size<W0.heap.size;rw [HZW.out];omega)).trans HBox.out
    have hwr:w.heap.size<wr.heap.size:=by have:=hb.size;have:=HZW.out;omega
    clear hall hown
    by_cases hlt:k<l.length
    . obtain ⟨b,off,rfl,hbl,c0,c1,c2,c3⟩:=(HT.out.later hb).place hlt
      have HSt:Hid (strs (l.take k)++[.string l[k].name]=strs (l.take (k+1))):=by rw [zhu l k hlt];exact zki _ _
      have HN:=hid (fun W=>HNk.out k hlt W);clear hb;generalize hx:l[k]=x at *;have HX:=hid hx;clear hx;obtain ⟨kd,nn,att,xs⟩:=x;simp only at c0 c1 c2 c3 HSt HN
      go_wp2_with (at_builtin;refine wpList_append_lies _ rfl _ _ _ rfl W0.heap.size 9 i0 _ 1 16 Tryz.underlying22 hi hz0 hz1 hz2 rfl (by omega) _ k (strs (l.take k)) rfl (ownsRow_later HO.out (((Below.refl _ _).alloc (vaa _) _).alloc (by simp) _)) ⟨_,0,none⟩ 1 1 [.string xs] rfl rfl (zkj (by simp)) (by simp;rfl) (by omega) (by unfold maxLen;omega) (by omega) (by have:=HBr.out.size;simp;omega) _ rfl ?_;intro q2 cap2 w1 hown1 hg hat hlt2;rw [HSt.out] at hown1;have HO1:=hid hown1;have hfar:=z0o HO.out hg;have HB1:Hid (Below W0.heap.size W0 w1):=((HBr.out.alloc HBr.out.size _).alloc (by have:=HBr.out.size;simp;omega) _).grown hg (by have:=HBr.out.size;simp;omega) (fun j hj=>(HO.out.lt j hj).1);have g0:w1.cell? ⟨wr.heap.size,0,none⟩=some (.int .i64 kd):=(by rw [veb hfar];rfl);have g1:w1.cell? ⟨wr.heap.size,1,none⟩=some (.int .i64 nn):=(by rw [veb hfar];rfl);have g2:w1.cell? ⟨wr.heap.size,2,none⟩=some (.int .i64 att):=(by rw [veb hfar];rfl);have g3:w1.cell? ⟨wr.heap.size,3,none⟩=some (.string xs):=(by rw [veb hfar];rfl);clear hown1 hg hat hfar)
      cases hn:nameOk xs with
      | false=>
        rw [hn] at HN;have HR:Hid (zey ⟨nm,l⟩=1):=zd6 H16.out (all_not l za8 k hlt (by rw [HX.out];exact zcg (Or.inl hn)))
        go_wp2_with (first
         | (go_at_call 62;refine (HN.out _).mono ?_;rintro e w' ⟨rfl,rfl⟩)
         | (go_at_call 63;refine (zaw _ _ _ _).mono ?_;rintro e w' ⟨rfl,rfl⟩))
        go_ret;exact ⟨zaq HR.out.symm,HB0.out.trans (HB1.out.mono (by have:=HB0.out.size;omega))⟩
      | true =>
        rw [hn] at HN
        by_cases hkd:1<=kd/\kd<=4
        . have wk : (decide (1<=kd)&&decide (kd<=4))=true:=by simp [hkd]
          by_cases hnn:0<=nn/\nn<=1099511627775
          . have wn:(decide (0<=nn)&&decide (nn<=1099511627775))=true:=by simp [hnn]
            by_cases hat2:0<=att/\att<=320
            . have wa:(decide (0<=att)&&decide (att<=320))=true:=by simp [hat2]
              have hc:kd=1\/kd=2\/kd=3\/kd=4:=by omega
              clear hkd
              rcases hc with rfl | rfl | rfl | rfl
              . by_cases h0:att=0
                . have b0:(att != 0)=false:=by simp [h0]
                  have hgood:numOkB ⟨1,nn,att,xs⟩=true:=by simp [numOkB,hnn,h0]
                  clear hnn hat2 h0
                  have HS:Hid ((l.take (k+1)).all za8=true):=by
                   show (l.take (k+1)).all za8=true
                   rw [all_snoc l za8 k hlt,HA.out,HX.out,zfd hn (hgood)];rfl
                  go_wp2_with (first
                   | (go_at_call 62;refine (HN.out _).mono ?_;rintro e w' ⟨rfl,rfl⟩)
                   | (go_at_call 63;refine (zaw _ _ _ _).mono ?_;rintro e w' ⟨rfl,rfl⟩))
                  go_roundw
                  case rel=>exact ⟨k+1,by omega,by go_num,HS.out,HO1.out,HB1.out⟩
                  case measure=>simp [intOf];omega
                . have b0:(att != 0)=true:=by simp [h0]
                  have hbad:numOkB ⟨1,nn,att,xs⟩=false:=by simp [numOkB,h0]
                  clear hnn hat2 h0;have HR:Hid (zey ⟨nm,l⟩=1):=zd6 H16.out (all_not l za8 k hlt (by rw [HX.out];exact zcg (Or.inr hbad)))
                  go_wp2_with (first
                   | (go_at_call 62;refine (HN.out _).mono ?_;rintro e w' ⟨rfl,rfl⟩)
                   | (go_at_call 63;refine (zaw _ _ _ _).mono ?_;rintro e w' ⟨rfl,rfl⟩))
                  go_ret;exact ⟨zaq HR.out.symm,HB0.out.trans (HB1.out.mono (by have:=HB0.out.size;omega))⟩
              . by_cases h0:nn=0
                . have b0:(nn != 0)=false:=by simp [h0]
                  have hgood:numOkB ⟨2,nn,att,xs⟩=true:=by simp [numOkB,hat2,h0]
                  clear hnn hat2 h0
                  have HS:Hid ((l.take (k+1)).all za8=true):=by
                   show (l.take (k+1)).all za8=true
                   rw [all_snoc l za8 k hlt,HA.out,HX.out,zfd hn (hgood)];rfl
                  go_wp2_with (first
                   | (go_at_call 62;refine (HN.out _).mono ?_;rintro e w' ⟨rfl,rfl⟩)
                   | (go_at_call 63;refine (zaw _ _ _ _).mono ?_;rintro e w' ⟨rfl,rfl⟩))
                  go_roundw
                  case rel=>exact ⟨k+1,by omega,by go_num,HS.out,HO1.out,HB1.out⟩
                  case measure=>simp [intOf];omega
                . have b0:(nn != 0)=true:=by simp [h0]
                  have hbad:numOkB ⟨2,nn,att,xs⟩=false:=by simp [numOkB,h0]
                  clear hnn hat2 h0;have HR:Hid (zey ⟨nm,l⟩=1):=zd6 H16.out (all_not l za8 k hlt (by rw [HX.out];exact zcg (Or.inr hbad)))
                  go_wp2_with (first
                   | (go_at_call 62;refine (HN.out _).mono ?_;rintro e w' ⟨rfl,rfl⟩)
                   | (go_at_call 63;refine (zaw _ _ _ _).mono ?_;rintro e w' ⟨rfl,rfl⟩))
                  go_ret;exact ⟨zaq HR.out.symm,HB0.out.trans (HB1.out.mono (by have:=HB0.out.size;omega))⟩
              . by_cases h0:1<=nn/\nn<=32
                . have b0:(decide (1<=nn)&&decide (nn<=32))=true:=by simp [h0]
                  have hgood:numOkB ⟨3,nn,att,xs⟩=true:=by simp [numOkB,hat2,h0]
                  clear hnn hat2 h0
                  have HS:Hid ((l.take (k+1)).all za8=true):=by
                   show (l.take (k+1)).all za8=true
                   rw [all_snoc l za8 k hlt,HA.out,HX.out,zfd hn (hgood)];rfl
                  go_wp2_with (first
                   | (go_at_call 62;refine (HN.out _).mono ?_;rintro e w' ⟨rfl,rfl⟩)
                   | (go_at_call 63;refine (zaw _ _ _ _).mono ?_;rintro e w' ⟨rfl,rfl⟩))
                  go_roundw
                  case rel=>exact ⟨k+1,by omega,by go_num,HS.out,HO1.out,HB1.out⟩
                  case measure=>simp [intOf];omega
                . have b0:(decide (1<=nn)&&decide (nn<=32))=false:=by simp;omega
                  have hbad:numOkB ⟨3,nn,att,xs⟩=false:=by simp [numOkB];omega
                  clear hnn hat2 h0;have HR:Hid (zey ⟨nm,l⟩=1):=zd6 H16.out (all_not l za8 k hlt (by rw [HX.out];exact zcg (Or.inr hbad)))
                  go_wp2_with (first
                   | (go_at_call 62;refine (HN.out _).mono ?_;rintro e w' ⟨rfl,rfl⟩)
                   | (go_at_call 63;refine (zaw _ _ _ _).mono ?_;rintro e w' ⟨rfl,rfl⟩))
                  go_ret;exact ⟨zaq HR.out.symm,HB0.out.trans (HB1.out.mono (by have:=HB0.out.size;omega))⟩
              . by_cases h0:nn<=3
                . have hgood:numOkB ⟨4,nn,att,xs⟩=true:=by simp [numOkB,hat2,h0,hnn]
                  clear hnn hat2
                  have HS:Hid ((l.take (k+1)).all za8=true):=by
                   show (l.take (k+1)).all za8=true
                   rw [all_snoc l za8 k hlt,HA.out,HX.out,zfd hn (hgood)];rfl
                  go_wp2_with (first
                   | (go_at_call 62;refine (HN.out _).mono ?_;rintro e w' ⟨rfl,rfl⟩)
                   | (go_at_call 63;refine (zaw _ _ _ _).mono ?_;rintro e w' ⟨rfl,rfl⟩))
                  go_roundw
                  case rel=>exact ⟨k+1,by omega,by go_num,HS.out,HO1.out,HB1.out⟩
                  case measure=>simp [intOf];omega
                . have hbad:numOkB ⟨4,nn,att,xs⟩=false:=by simp [numOkB];omega
                  have h3:3<nn:=by omega
                  clear hnn hat2 h0;have HR:Hid (zey ⟨nm,l⟩=1):=zd6 H16.out (all_not l za8 k hlt (by rw [HX.out];exact zcg (Or.inr hbad)))
                  go_wp2_with (first
                   | (go_at_call 62;refine (HN.out _).mono ?_;rintro e w' ⟨rfl,rfl⟩)
                   | (go_at_call 63;refine (zaw _ _ _ _).mono ?_;rintro e w' ⟨rfl,rfl⟩))
                  go_ret;exact ⟨zaq HR.out.symm,HB0.out.trans (HB1.out.mono (by have:=HB0.out.size;omega))⟩
            . have wa:(decide (0<=att)&&decide (att<=320))=false:=by simp;omega
              have hbad:numOkB ⟨kd,nn,att,xs⟩=false:=zqj (by simp only;omega);clear hnn hat2 hkd;have HR:Hid (zey ⟨nm,l⟩=1):=zd6 H16.out (all_not l za8 k hlt (by rw [HX.out];exact zcg (Or.inr hbad)))
              go_wp2_with (first
               | (go_at_call 62;refine (HN.out _).mono ?_;rintro e w' ⟨rfl,rfl⟩)
               | (go_at_call 63;refine (zaw _ _ _ _).mono ?_;rintro e w' ⟨rfl,rfl⟩))
              go_ret;exact ⟨zaq HR.out.symm,HB0.out.trans (HB1.out.mono (by have:=HB0.out.size;omega))⟩
          . have wn:(decide (0<=nn)&&decide (nn<=1099511627775))=false:=by simp;omega
            have hbad:numOkB ⟨kd,nn,att,xs⟩=false:=zqj (by simp only;omega);clear hnn hkd;have HR:Hid (zey ⟨nm,l⟩=1):=zd6 H16.out (all_not l za8 k hlt (by rw [HX.out];exact zcg (Or.inr hbad)))
            go_wp2_with (first
             | (go_at_call 62;refine (HN.out _).mono ?_;rintro e w' ⟨rfl,rfl⟩)
             | (go_at_call 63;refine (zaw _ _ _ _).mono ?_;rintro e w' ⟨rfl,rfl⟩))
            go_ret;exact ⟨zaq HR.out.symm,HB0.out.trans (HB1.out.mono (by have:=HB0.out.size;omega))⟩
        . have wk:(decide (1<=kd)&&decide (kd<=4))=false:=by simp;omega
          have hbad:numOkB ⟨kd,nn,att,xs⟩=false:=zqj (by simp only;omega);clear hkd;have HR:Hid (zey ⟨nm,l⟩=1):=zd6 H16.out (all_not l za8 k hlt (by rw [HX.out];exact zcg (Or.inr hbad)))
          go_wp2_with (first
           | (go_at_call 62;refine (HN.out _).mono ?_;rintro e w' ⟨rfl,rfl⟩)
           | (go_at_call 63;refine (zaw _ _ _ _).mono ?_;rintro e w' ⟨rfl,rfl⟩))
          go_ret;exact ⟨zaq HR.out.symm,HB0.out.trans (HB1.out.mono (by have:=HB0.out.size;omega))⟩
    . have HAl:Hid (l.all za8=true):=by
       have:=HA.out;rw [vaq (by omega)] at this;exact this
      have HOl:Hid (∀ v,wr.ownsRow W0.heap.size 9 1 v k (strs (l.take k))->wr.ownsRow W0.heap.size 9 1 v l.length (strs l)):=by
       intro v h
       have e:k=l.length:=by omega
       rw [e,zrz] at h;exact h
      have HO2:=hid (HOl.out _ HO.out);have HBw:Hid (Below w.heap.size w wr):=HB0.out.trans (HBr.out.mono (by have:=HB0.out.size;omega));clear hb
      cases hd:zd9 (zbs l) with
      | true=>
        have HR:Hid (zey ⟨nm,l⟩=1):=zvq H16.out hd;rw [hd] at HD;clear hd
        go_wp2_with (go_at_call 53;refine (HD.out _ _ _ HO2.out).mono ?_;rintro e w3 ⟨rfl,hb3⟩)
        go_ret;exact ⟨zaq HR.out.symm,HBw.out.trans (hb3.mono HBw.out.size)⟩
      | false=>
        have HR:Hid (zey ⟨nm,l⟩=0):=zy4 H16.out HNm.out hd HAl.out;rw [hd] at HD;clear hd
        go_wp2_with (go_at_call 53;refine (HD.out _ _ _ HO2.out).mono ?_;rintro e w3 ⟨rfl,hb3⟩)
        go_ret;exact ⟨zaq HR.out.symm,HBw.out.trans (hb3.mono HBw.out.size)⟩
end Fx
end Go.Proofs.YtndkhgakfodldaaGreatDoor
