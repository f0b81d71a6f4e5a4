import Derived.Test.YtndkhgakfodldaaGreatDoorIf
namespace Go.Proofs.YtndkhgakfodldaaGreatDoor
open Go.RowKit Go.Shelf
set_option linter.unusedSimpArgs false
set_option linter.unusedVariables false
namespace Fx
theorem zpy {l r:L8} {n:Int} (h:zdm l=some (n,r)):nByte (l,false)=(n,(r,false)):=by
 unfold zdm zeh at h
 split at h
 . cases h
 . cases l with
   | nil=>rename_i h1;exact absurd (Nat.zero_lt_one) h1
   | cons c t=>
     simp [nByte] at h;obtain ⟨rfl,rfl⟩:=h
     rfl
theorem z2u {l x r:L8} (h:zf2 l=some (x,r)):nText (l,false)=(x,(r,false)):=by
 unfold zf2 at h
 cases hb:zdm l with
 | none=>rw [hb] at h;cases h
 | some q=>
   rw [hb] at h;obtain ⟨n,t⟩:=q;have h1:=zpy hb;have h2:zeh n.toNat t=some (x,r):=h;unfold zeh at h2
   split at h2
   . cases h2
   . rename_i h3
     simp at h2;obtain ⟨rfl,rfl⟩:=h2;unfold nText;rw [h1];simp only;have h0:=(zju (l:=l) hb).1;rw [if_neg (by omega)]
theorem zvt:∀ (x r:L8) (n:Int),zm9 x.length n (x++r,false)=(x.foldl zhf n,(r,false))
 | [],_,_=>rfl
 | c :: x,r,n=>by
   show zm9 x.length (wrap64 (n*256+(nByte (c :: (x++r),false)).1)) (nByte (c :: (x++r),false)).2=_;show zm9 x.length (wrap64 (n*256+(c.toNat:Int))) (x++r,false)=_;rw [zvt x r]
   rfl
theorem zgy {l r:L8} {n:Int} (h:pNum l=some (n,r)):nNum (l,false)=(n,(r,false)):=by
 unfold pNum zeh at h
 split at h
 . cases h
 . rename_i h1
   simp at h;obtain ⟨rfl,rfl⟩:=h;have h2:=zvt (l.take 8) (l.drop 8) 0;rw [vca,List.length_take_of_le (by omega)] at h2;exact h2
theorem zru (st:L8 × Bool):(nText st).2.1.length<=st.1.length/\(nText st).1.length<=255:=by
 have h1:=zet st;have h2:=zjt st;unfold nText;split
 . exact ⟨h1,vae _⟩
 . refine ⟨?_,?_⟩
   . show ((nByte st).2.1.drop _).length<=_;rw [vcc];omega
   . show ((nByte st).2.1.take _).length<=_;rw [vbb];omega
theorem zrv:∀ (k:Nat) (n:Int) (st:L8 × Bool),(zm9 k n st).2.1.length<=st.1.length
 | 0,_,_=>vaa _
 | k+1,_,st=>vai (zrv k _ _) (zet st)
theorem zc1 (st:L8 × Bool):(nNum st).2.1.length<=st.1.length:=by
 unfold nNum;exact zrv 8 0 st
theorem zrw:∀ (k:Nat) (n:Int) (st:L8 × Bool), -9223372036854775808<=n/\n<=9223372036854775807->-9223372036854775808<=(zm9 k n st).1/\(zm9 k n st).1<=9223372036854775807
 | 0,_,_,h=>h
 | k+1,n,st,_=>zrw k _ _ (by generalize n*256+(nByte st).1=z;unfold wrap64;omega)
theorem z2v (st:L8 × Bool) : -9223372036854775808<=(nNum st).1/\(nNum st).1<=9223372036854775807:=by
 unfold nNum;exact zrw 8 0 st (by omega)
end Fx
abbrev Ns:=L8 × Bool
def nCnt (st:Ns):Int × Ns:=if 0<=(Fx.nNum st).1/\(Fx.nNum st).1<=32768 then Fx.nNum st else (0,((Fx.nNum st).2.1,true))
def nGo {α:Type} (q:Ns->α × Ns):Nat->List α->Ns->List α × Ns
 | 0,acc,st=>(acc,st)
 | m+1,acc,st=>if st.2=true then (acc,st) else nGo q m (acc++[(q st).1]) (q st).2
def nLst {α:Type} (q:Ns->α × Ns) (st:Ns):List α × Ns:=nGo q (nCnt st).1.toNat [] (nCnt st).2
def nTx (st:Ns):ByteArray × Ns:=(Fx.strOf (Fx.nText st).1,(Fx.nText st).2)
def ze2 (st:Ns):Gi × Ns:=(⟨(Fx.nByte st).1,(Fx.nNum (Fx.nByte st).2).1,(Fx.nNum (Fx.nNum (Fx.nByte st).2).2).1⟩,(Fx.nNum (Fx.nNum (Fx.nByte st).2).2).2)
def zhx (st:Ns):Gf × Ns:=(⟨(Fx.nNum st).1,(Fx.nByte (Fx.nNum st).2).1,(Fx.nNum (Fx.nByte (Fx.nNum st).2).2).1⟩,(Fx.nNum (Fx.nByte (Fx.nNum st).2).2).2)
def fr1 (l:L8):ByteArray × Ns:=nTx (l,false)
def fr2 (l:L8):List ByteArray × Ns:=nLst nTx (fr1 l).2
def fr3 (l:L8):Int × Ns:=Fx.nNum (fr2 l).2
def fr4 (l:L8):List Gi × Ns:=nLst ze2 (fr3 l).2
def fr5 (l:L8):List Gf × Ns:=nLst zhx (fr4 l).2
def fr6 (l:L8):List Int × Ns:=nLst Fx.nNum (fr5 l).2
def fr7 (l:L8):Int × Ns:=Fx.nNum (fr6 l).2
def frO (l:L8):Ob:=⟨(fr1 l).1,(fr2 l).1,(fr3 l).1,(fr4 l).1,(fr5 l).1,(fr6 l).1,(fr7 l).1⟩
def zvu (l:L8):Bool:=!(fr7 l).2.2&&(decide (oChk (frO l)=0)&&decide (objB (frO l)=l))
theorem z54 {l r:L8} {n:Nat} (h:zpd l=some (n,r)) (hn:n<=32768):nCnt (l,false)=((n:Int),(r,false)):=by
 unfold zpd at h
 cases hq:Fx.pNum l with
 | none=>rw [hq] at h;cases h
 | some q=>
   rw [hq] at h;simp only [vaw] at h
   split at h
   . cases h
   . rename_i h0
     cases h;have e:=Fx.zgy (n:=q.1) (r:=q.2) hq;unfold nCnt;rw [e];simp only;rw [if_pos (by omega),vdk (by omega)]
theorem zrx {α:Type} {p:L8->Option (α × L8)}:∀ (n:Nat) (l:L8) (xs:List α) (r:L8),zcc p n l=some (xs,r)->xs.length=n
 | 0,l,xs,r,e=>by cases e;rfl
 | n + 1,l,xs,r,e=>by
   unfold zcc at e
   cases h1:p l with
   | none=>rw [h1] at e;cases e
   | some a=>
     rw [h1] at e
     cases h2:zcc p n a.2 with
     | none=>simp [h2] at e
     | some b=>
       simp [h2] at e;rw [← e.1,vas,zrx n a.2 b.1 b.2 h2]
theorem z49 {α:Type} {p:L8->Option (α × L8)} {q:Ns->α × Ns} (h:∀ l x r,p l=some (x,r)->q (l,false)=(x,(r,false))):∀ (n:Nat) (acc:List α) (l r:L8) (xs:List α),zcc p n l=some (xs,r)->nGo q n acc (l,false)=(acc++xs,(r,false))
 | 0,acc,l,r,xs,e=>by cases e;simp [nGo]
 | n + 1,acc,l,r,xs,e=>by
   unfold zcc at e
   cases h1:p l with
   | none=>rw [h1] at e;cases e
   | some a=>
     rw [h1] at e
     cases h2:zcc p n a.2 with
     | none=>simp [h2] at e
     | some b=>
       simp [h2] at e;obtain ⟨rfl,rfl⟩:=e;show (if false=true then _ else nGo q n (acc++[(q (l,false)).1]) (q (l,false)).2)=_;rw [if_neg (by decide),h l a.1 a.2 h1];simp only;rw [z49 h n _ a.2 b.2 b.1 h2];simp
theorem zpz {α:Type} {p:L8->Option (α × L8)} {q:Ns->α × Ns} (h:∀ l x r,p l=some (x,r)->q (l,false)=(x,(r,false))) {l r:L8} {xs:List α} (e:zd6 p l=some (xs,r)) (hn:xs.length<=32768):nLst q (l,false)=(xs,(r,false)):=by
 unfold zd6 at e
 cases h1:zpd l with
 | none=>rw [h1] at e;cases e
 | some c=>
   rw [h1] at e;have e':zcc p c.1 c.2=some (xs,r):=e;have hl:=zrx _ _ _ _ e';unfold nLst;rw [z54 (n:=c.1) (r:=c.2) h1 (by omega)];simp only [vbm];rw [z49 h c.1 [] c.2 r xs e',vcw]
theorem z5a (l:L8) (x:ByteArray) (r:L8) (h:pTx l=some (x,r)):nTx (l,false)=(x,(r,false)):=by
 unfold pTx at h
 cases hq:Fx.zf2 l with
 | none=>rw [hq] at h;cases h
 | some q=>
   rw [hq] at h;cases h;unfold nTx;rw [Fx.z2u (x:=q.1) (r:=q.2) hq]
theorem zy8 (l:L8) (x:Gi) (r:L8) (h:zbn l=some (x,r)):ze2 (l,false)=(x,(r,false)):=by
 unfold zbn at h
 cases h1:Fx.zdm l with
 | none=>rw [h1] at h;cases h
 | some a=>
   rw [h1] at h
   cases h2:Fx.pNum a.2 with
   | none=>simp [h2] at h
   | some b=>
     cases h3:Fx.pNum b.2 with
     | none=>simp [h2,h3] at h
     | some c=>
       simp [h2,h3] at h;unfold ze2;rw [Fx.zpy (n:=a.1) (r:=a.2) h1];simp only;rw [Fx.zgy (n:=b.1) (r:=b.2) h2];simp only;rw [Fx.zgy (n:=c.1) (r:=c.2) h3,← h.1,← h.2]
theorem z2w (l:L8) (x:Gf) (r:L8) (h:zcl l=some (x,r)):zhx (l,false)=(x,(r,false)):=by
 unfold zcl at h
 cases h1:Fx.pNum l with
 | none=>rw [h1] at h;cases h
 | some a=>
   rw [h1] at h
   cases h2:Fx.zdm a.2 with
   | none=>simp [h2] at h
   | some b=>
     cases h3:Fx.pNum b.2 with
     | none=>simp [h2,h3] at h
     | some c=>
       simp [h2,h3] at h;unfold zhx;rw [Fx.zgy (n:=a.1) (r:=a.2) h1];simp only;rw [Fx.zpy (n:=b.1) (r:=b.2) h2];simp only;rw [Fx.zgy (n:=c.1) (r:=c.2) h3,← h.1,← h.2]
theorem z9j {l r:L8} {o:Ob} (h:zpw l=some (o,r)) (k2:o.uses.length<=32768) (k4:o.code.length<=32768) (k5:o.fixes.length<=32768) (k6:o.entries.length<=32768):frO l=o/\(fr7 l).2=(r,false):=by
 unfold zpw at h
 cases h1:pTx l with
 | none=>rw [h1] at h;cases h
 | some a=>
 rw [h1] at h;simp only [vaw] at h
 cases h2:zd6 pTx a.2 with
 | none=>rw [h2] at h;cases h
 | some b=>
 rw [h2] at h;simp only [vaw] at h
 cases h3:Fx.pNum b.2 with
 | none=>rw [h3] at h;cases h
 | some c=>
 rw [h3] at h;simp only [vaw] at h
 cases h4:zd6 zbn c.2 with
 | none=>rw [h4] at h;cases h
 | some d=>
 rw [h4] at h;simp only [vaw] at h
 cases h5:zd6 zcl d.2 with
 | none=>rw [h5] at h;cases h
 | some e=>
 rw [h5] at h;simp only [vaw] at h
 cases h6:zd6 Fx.pNum e.2 with
 | none=>rw [h6] at h;cases h
 | some f=>
 rw [h6] at h;simp only [vaw] at h
 cases h7:Fx.pNum f.2 with
 | none=>rw [h7] at h;cases h
 | some g=>
 rw [h7] at h;cases h;have e1:fr1 l=(a.1,(a.2,false)):=z5a _ _ _ h1
 have e2:fr2 l=(b.1,(b.2,false)):=by unfold fr2;rw [e1];exact zpz z5a h2 k2
 have e3:fr3 l=(c.1,(c.2,false)):=by unfold fr3;rw [e2];exact Fx.zgy h3
 have e4:fr4 l=(d.1,(d.2,false)):=by unfold fr4;rw [e3];exact zpz zy8 h4 k4
 have e5:fr5 l=(e.1,(e.2,false)):=by unfold fr5;rw [e4];exact zpz z2w h5 k5
 have e6:fr6 l=(f.1,(f.2,false)):=by unfold fr6;rw [e5];exact zpz (fun _ _ _=>Fx.zgy) h6 k6
 have e7:fr7 l=(g.1,(g.2,false)):=by unfold fr7;rw [e6];exact Fx.zgy h7
 exact ⟨by unfold frO;rw [e1,e2,e3,e4,e5,e6,e7],by rw [e7]⟩
theorem zlw (st:Ns):0<=(nCnt st).1/\(nCnt st).1<=32768/\(nCnt st).2.1.length<=st.1.length:=by
 have h:=Fx.zc1 st;unfold nCnt;split
 . rename_i h1;exact ⟨h1.1,h1.2,h⟩
 . exact ⟨Int.le_refl _,by show (0:Int)<=32768;omega,h⟩
theorem zy9 {α:Type} {q:Ns->α × Ns} {Q:α->Prop} (hQ:∀ st,Q (q st).1/\(q st).2.1.length<=st.1.length):∀ (m:Nat) (acc:List α) (st:Ns),(∀ x ∈ acc,Q x)->(∀ x ∈ (nGo q m acc st).1,Q x)/\(nGo q m acc st).1.length<=acc.length+m/\(nGo q m acc st).2.1.length<=st.1.length
 | 0,acc,st,h=>⟨h,vaa _,vaa _⟩
 | m + 1,acc,st,h=>by
   unfold nGo;split
   . exact ⟨h,vef _ _,vaa _⟩
   . have h1:=zy9 hQ m (acc++[(q st).1]) (q st).2 (fun x hx=>by
      rcases vcf.1 hx with h1 | h1
      . exact h x h1
      . rw [vcd.1 h1];exact (hQ st).1)
     refine ⟨h1.1,?_,vai h1.2.2 (hQ st).2⟩;have h2:=h1.2.1;rw [vab] at h2;simp only [vas,vbu] at h2;omega
theorem zfp {α:Type} {q:Ns->α × Ns} {Q:α->Prop} (hQ:∀ st,Q (q st).1/\(q st).2.1.length<=st.1.length) (st:Ns):(∀ x ∈ (nLst q st).1,Q x)/\(nLst q st).1.length<=32768/\(nLst q st).2.1.length<=st.1.length:=by
 have h1:=zy9 hQ (nCnt st).1.toNat [] (nCnt st).2 (fun x hx=>by cases hx);have h2:=zlw st;simp only [vbu] at h1;unfold nLst;exact ⟨h1.1,by have:=h1.2.1;omega,vai h1.2.2 h2.2.2⟩
theorem zlx (st:Ns):(nTx st).1.size<=255/\(nTx st).2.1.length<=st.1.length:=by
 have h:=Fx.zru st;exact ⟨by show (Fx.strOf _).size<=255;rw [Fx.strOf_size];exact h.2,h.1⟩
theorem zvv (st:Ns):W64 (Fx.nByte st).1:=zlt (by have:=Fx.zjt st;omega)
theorem zib (st:Ns):W64 (Fx.nNum st).1:=zlt (Fx.z2v st)
theorem zp0 (st:Ns):W64 (Fx.nNum st).1/\(Fx.nNum st).2.1.length<=st.1.length:=⟨zib st,Fx.zc1 st⟩
theorem zj4 (st:Ns):(W64 (ze2 st).1.op/\W64 (ze2 st).1.a/\W64 (ze2 st).1.b)/\(ze2 st).2.1.length<=st.1.length:=
 ⟨⟨zvv _,zib _,zib _⟩,vai (Fx.zc1 _) (vai (Fx.zc1 _) (Fx.zet st))⟩
theorem zly (st:Ns):(W64 (zhx st).1.at_/\W64 (zhx st).1.kind/\W64 (zhx st).1.m)/\(zhx st).2.1.length<=st.1.length:=
 ⟨⟨zib _,zvv _,zib _⟩,vai (Fx.zc1 _) (vai (Fx.zet _) (Fx.zc1 st))⟩
theorem zvw (l:L8):Fits (frO l):=
 ⟨zib _,(zfp zj4 (fr3 l).2).1,(zfp zly (fr4 l).2).1,(zfp zp0 (fr5 l).2).1,zib _⟩
theorem z9k (l:L8):rdO l=if zvu l=true then some (frO l) else none:=by
 by_cases h:zvu l=true
 . rw [if_pos h]
   unfold zvu at h;simp only [vad,decide_eq_true_eq,vdm] at h;obtain ⟨_,h2,h3⟩:=h;have h4:=zy6 h2 (zvw l) [];rw [vbe,h3] at h4;unfold rdO wOk;simp only [h4,h2,if_true]
 . rw [if_neg h]
   unfold rdO wOk
   cases hp:zpw l with
   | none=>rfl
   | some q=>
     obtain ⟨o,r⟩:=q
     cases r with
     | cons c r=>rfl
     | nil=>
       simp only
       by_cases h0:oChk o=0
       . exfalso
         apply h
         obtain ⟨_,_,k3,k4,k5,k6⟩:=zgq h0;obtain ⟨e1,e2⟩:=z9j hp (by omega) (by omega) (by omega) (by omega);have hb:=z2t hp;rw [vbe] at hb;unfold zvu;rw [e1,e2,h0,← hb];simp
       . rw [if_neg h0]
set_option maxRecDepth 100000
set_option maxHeartbeats 12800000
theorem ze5 (nb:Nat) (st:Ns) (w:World) (h:Fx.Nose w nb st) (hl:st.1.length<=1000000000000000) :
 Calls Tryz.prog 99 #[.pointer (some ⟨nb,0,none⟩)] w fun e w'=>e = .returned (.int .i64 (nCnt st).1)/\Fx.Nose w' nb (nCnt st).2/\w.grownBy w' (some nb):=by
 have HN:=hid (Fx.zcn nb st w h hl);have HC:Hid (nCnt st=if 0<=(Fx.nNum st).1/\(Fx.nNum st).1<=32768 then Fx.nNum st else (0,((Fx.nNum st).2.1,true))):=rfl;clear h;generalize nCnt st=R at *;generalize Fx.nNum st=q at *;obtain ⟨n,l,bad⟩:=q;simp only at HN;have HWi:=hid (fun W=>zfc n 0 32768 W)
 by_cases hin:0<=n/\n<=32768
 . have HC':Hid (R=(n,(l,bad))):=HC.out.trans (if_pos hin)
   have hb:(decide (0<=n)&&decide (n<=32768))=true:=by rw [decide_eq_true hin.1,decide_eq_true hin.2];rfl
   rw [hb] at HWi;clear hin hb HC;go_enter Tryz.func99,Tryz.ntmps99;go_wp2_with fail;refine HN.out.mono ?_;rintro e w1 ⟨rfl,hn1,hg1⟩;have HN1:=hid hn1;have HG1:=hid hg1;clear hn1 hg1;go_wp2_with fail;refine (HWi.out _).mono ?_;rintro e w2 ⟨rfl,rfl⟩;go_wp2_with fail
   go_returns
   rw [HC'.out];exact ⟨rfl,HN1.out,HG1.out⟩
 . have HC':Hid (R=(0,(l,true))):=HC.out.trans (if_neg hin)
   have hb:(decide (0<=n)&&decide (n<=32768))=false:=by rw [vcp,decide_eq_false_iff_not,decide_eq_false_iff_not];omega
   rw [hb] at HWi;clear hin hb HC;go_enter Tryz.func99,Tryz.ntmps99;go_wp2_with fail;refine HN.out.mono ?_;rintro e w1 ⟨rfl,hn1,hg1⟩;have HN1:=hid hn1;have HG1:=hid hg1;obtain ⟨hlt,c0,c1,f0,f1⟩:=hn1;clear hg1;go_wp2_with fail;refine (HWi.out _).mono ?_;rintro e w2 ⟨rfl,rfl⟩;go_wp2_with fail
   go_returns
   rw [HC'.out];exact ⟨rfl,HN1.out.set1,Fx.zge HG1.out⟩
def Up (B:Nat) (W0 W:World):Prop:=Below B W0 W/\B<=W.heap.size
theorem Up.refl (W0:World):Up W0.heap.size W0 W0:=⟨Below.refl _ _,vaa _⟩
theorem Up.drew {B:Nat} {W0 W:World} (h:Up B W0 W):Up B W0 W.drew:=⟨h.1.drew,h.2⟩
theorem Up.via {B:Nat} {W0 X W:World} (hb:Below X.heap.size X W) (h:Up B W0 X):Up B W0 W:=⟨h.1.trans (hb.mono h.2),vai h.2 hb.size⟩
theorem z2x {B B':Nat} {w:World} {v:Value} {l:L8} (h:Fx.zlo B w v l) (hb:B'<=B):Fx.zlo B' w v l:=by
 obtain ⟨g,cap,cur,fz,e,hB,rest⟩:=h;exact ⟨g,cap,cur,fz,e,vai hb hB,rest⟩
theorem zgz (o:Ob) (x1:OA) (y1:Nat) (x3:OA) (y3:Nat) (x4:OA) (y4:Nat) (x5:OA) (y5:Nat) (w:World) (hO:OvAt w o x1 x3 x4 x5) (h0:oChk o=0) :
 Calls Tryz.prog 94 #[.agg #[.string o.name,.slice x1 o.uses.length y1,.int .i64 o.data,.slice x3 o.code.length y3,.slice x4 o.fixes.length y4,.slice x5 o.entries.length y5,.int .i64 o.main]] w fun e w'=>e = .returned (.string (Fx.strOf (objB o)))/\Below w.heap.size w w':=by
 obtain ⟨k1,k2,k3,k4,k5,k6⟩:=zgq h0;have hX:=heap_newP w (oC o x1 y1 x3 y3 x4 y4 x5 y5);have hb0:=al1 w (oC o x1 y1 x3 y3 x4 y4 x5 y5);generalize hW:w.alloc (oC o x1 y1 x3 y3 x4 y4 x5 y5)=W0 at *
 have HX:Hid (∀ W,Below W0.heap.size W0 W->W.cell? ⟨w.heap.size,0,none⟩=some (.string o.name)/\W.cell? ⟨w.heap.size,1,none⟩=some (.slice x1 o.uses.length y1)/\W.cell? ⟨w.heap.size,2,none⟩=some (.int .i64 o.data)/\W.cell? ⟨w.heap.size,3,none⟩=some (.slice x3 o.code.length y3)/\W.cell? ⟨w.heap.size,4,none⟩=some (.slice x4 o.fixes.length y4)/\W.cell? ⟨w.heap.size,5,none⟩=some (.slice x5 o.entries.length y5)/\W.cell? ⟨w.heap.size,6,none⟩=some (.int .i64 o.main)/\w.heap.size<W.heap.size):=fun W hWb=>by
  have h:=zak hX hWb;obtain ⟨r0,r1,r2,r3,r4,r5,r6,_⟩:=zaj h;exact ⟨r0,r1,r2,r3,r4,r5,r6,zab h⟩
 obtain ⟨q0,q1,q2,q3,q4,q5,q6,qz⟩:=HX.out W0 (Below.refl _ _);have HB0:=hid hb0;have HO:=hid (hO.later hb0);have HK:=hid k2
 obtain ⟨l2,e2⟩:∃ l,l=Fx.textB o.name++Fx.numB o.uses.length:=⟨_,rfl⟩
 have L2:Hid (l2.length<=17):=by
  show _<=_;rw [e2,vab,zjm,zap];omega
 have E2:=hid e2
 have HS:Hid (Fx.strOf (Fx.textB o.name)++Fx.strOf (Fx.numB o.uses.length)=Fx.strOf l2):=by show _=_;rw [e2];exact Fx.strOf_append _ _
 have HCv:Hid (∀ W,∃ (v:Value) (W':World),(convert 9 140 (.string (Fx.strOf (Fx.textB o.name)++Fx.strOf (Fx.numB o.uses.length)))).run Tryz.prog W = .ok v W'/\Below W.heap.size W W'/\Fx.zlo W.heap.size W' v l2):=fun W=>by
  rw [HS.out];exact Fx.z2j l2 W (by have:=L2.out;omega)
 have HTx:=hid (fun W=>Fx.zjs o.name W (by omega));have HNu:=hid (fun W=>Fx.zbj (o.uses.length:Int) W)
 have hln:¬ 9223372036854775807<(Fx.strOf (Fx.textB o.name)).size+(Fx.strOf (Fx.numB o.uses.length)).size:=by rw [Fx.strOf_size,Fx.strOf_size,zjm,zap];omega
 clear hO hX hb0 h0 k2 e2;generalize Fx.strOf (Fx.textB o.name)=sA at *;generalize Fx.strOf (Fx.numB o.uses.length)=sB at *;go_enter Tryz.func94,Tryz.ntmps94;go_wp2_with fail;clear hW
 go_cut [3] (fun v wx=>Fx.zlo W0.heap.size wx v l2/\Hid (Below W0.heap.size W0 wx))
 case first=>
  go_region_held (fun W=>W.cell? ⟨w.heap.size,0,none⟩=some (.string o.name)/\W.cell? ⟨w.heap.size,1,none⟩=some (.slice x1 o.uses.length y1)) (first | (go_keep;done) | exact FF.out | exact FC.out)
   (first
     | (go_at_call 134;refine (HTx.out _).mono ?_;rintro e w' ⟨rfl,hb⟩;have FF:Hid (w'.cell? ⟨w.heap.size,0,none⟩=some (.string o.name)/\w'.cell? ⟨w.heap.size,1,none⟩=some (.slice x1 o.uses.length y1)):=⟨(hb.cell (p:=⟨w.heap.size,0,none⟩) (by first | assumption | (simp;omega) | omega)).trans (by simp [*]),(hb.cell (p:=⟨w.heap.size,1,none⟩) (by first | assumption | (simp;omega) | omega)).trans (by simp [*])⟩;have qz:w.heap.size<w'.heap.size:=vah (by first | assumption | (simp;omega)) hb.size;obtain ⟨cv,cw,hcv,hcb,hcr⟩:=HCv.out w';have HCR:=hid hcr;have FC:Hid (cw.cell? ⟨w.heap.size,0,none⟩=some (.string o.name)/\cw.cell? ⟨w.heap.size,1,none⟩=some (.slice x1 o.uses.length y1)):=⟨(hcb.cell (p:=⟨w.heap.size,0,none⟩) qz).trans FF.out.1,(hcb.cell (p:=⟨w.heap.size,1,none⟩) qz).trans FF.out.2⟩;clear hcr)
     | (go_at_call 135;refine (HNu.out _).mono ?_;rintro e w' ⟨rfl,hb⟩;have FF:Hid (w'.cell? ⟨w.heap.size,0,none⟩=some (.string o.name)/\w'.cell? ⟨w.heap.size,1,none⟩=some (.slice x1 o.uses.length y1)):=⟨(hb.cell (p:=⟨w.heap.size,0,none⟩) (by first | assumption | (simp;omega) | omega)).trans (by simp [*]),(hb.cell (p:=⟨w.heap.size,1,none⟩) (by first | assumption | (simp;omega) | omega)).trans (by simp [*])⟩;have qz:w.heap.size<w'.heap.size:=vah (by first | assumption | (simp;omega)) hb.size;obtain ⟨cv,cw,hcv,hcb,hcr⟩:=HCv.out w';have HCR:=hid hcr;have FC:Hid (cw.cell? ⟨w.heap.size,0,none⟩=some (.string o.name)/\cw.cell? ⟨w.heap.size,1,none⟩=some (.slice x1 o.uses.length y1)):=⟨(hcb.cell (p:=⟨w.heap.size,0,none⟩) qz).trans FF.out.1,(hcb.cell (p:=⟨w.heap.size,1,none⟩) qz).trans FF.out.2⟩;clear hcr))
  all_goals
   go_wp2_with fail;go_meet
   have hup:Up W0.heap.size W0 w':=by (repeat (first | assumption | exact Up.refl _ | refine Up.drew ?_ | refine Up.via ‹Below _ _ _› ?_))
   exact ⟨z2x HCR.out hup.2,(Up.via hcb hup).1⟩
 case rest =>
  obtain ⟨hr2,HB2⟩:=hcut;have R2:=hid hr2;clear hr2 q0 q1 q2 q3 q4 q5 q6 qz hln;clear HTx HNu HCv HS;generalize hwc:wc=w2 at *;clear hwc;obtain ⟨q0,q1,q2,q3,q4,q5,q6,qz⟩:=HX.out w2 HB2.out
  try go_wp2_with fail
  have HG3:Hid (∀ j,((o.uses.take j).flatMap Fx.textB).length<=256*o.uses.length):=fun j=>vai (zf1 Fx.textB 256 (o.uses.take j) (fun x hx=>zq9 (by have:=HK.out x (vdq hx);omega))) (vcb _ (by rw [vbb];omega))
  clear q0 q1 q2 q3 q4 q5 q6 qz
  go_loopw [3,4] (fun u i wr=>∃ j:Nat,j<=o.uses.length/\i = .int .i64 j/\Fx.zlo W0.heap.size wr u (l2++(o.uses.take j).flatMap Fx.textB)/\Below W0.heap.size W0 wr) (fun _ i _=>o.uses.length - (intOf i).toNat)
  case atStart=>exact ⟨0,vae _,rfl,by rw [vcg,vco,vbe];exact R2.out,HB2.out⟩
  case round =>
   obtain ⟨j,hj,rfl,hr,hb⟩:=hrel;have HR:=hid hr;have HB:=hid hb;have hzr:=hb.size
   have HL:Hid ((l2++(o.uses.take j).flatMap Fx.textB).length<=785):=by
    have h1:=HG3.out j;have h2:=L2.out;show _<=_;rw [vab];omega
   obtain ⟨q0,q1,q2,q3,q4,q5,q6,qz⟩:=HX.out wr hb;clear hr hb
   by_cases hlt:j<o.uses.length
   . obtain ⟨b,off,rfl,hbl,c0,hsz⟩:=(HO.out.later HB.out).uses.str j hlt
     have HS:Hid (l2++(o.uses.take (j+1)).flatMap Fx.textB=(l2++(o.uses.take j).flatMap Fx.textB)++Fx.textB o.uses[j]):=by show _=_;rw [zes Fx.textB o.uses j hlt,vaq]
     have hx8:=HK.out o.uses[j] (vap hlt);generalize (l2++(o.uses.take j).flatMap Fx.textB)=lj at *;generalize o.uses[j]=x at *
     try go_wp2_with fail
     refine (Fx.zjs x _ (by omega)).mono ?_;rintro e c4 ⟨rfl,hb4⟩;obtain ⟨rv4,v4,ha4,hs4,hc4⟩:=Fx.zfe (HR.out.later hb4) (Fx.textB x) (by have h1:=HL.out;rw [zjm];omega) (vai HB.out.size hb4.size) 140;have A4:=hid ha4;have S4:=hid hs4;have D4:=hid ((HB.out.trans (hb4.mono HB.out.size)).trans hc4);have hz4:=D4.out.size;clear q0 q1 q2 q3 q4 q5 q6 qz hb4 ha4 hs4 hc4;obtain ⟨q0,q1,q2,q3,q4,q5,q6,qz⟩:=HX.out v4 D4.out
     go_wp2_with (at_builtin;refine Lib.wpList_append_run _ rfl _ _ _ _ rfl _ _ rfl rfl _ v4 A4.out ?_)
     clear A4;go_roundw
     case rel=>exact ⟨j+1,by omega,by go_num,by rw [HS.out];exact S4.out,D4.out⟩
     case measure=>simp [intOf];omega
   . obtain rfl:j=o.uses.length:=by omega
     rw [vaz] at HR HL
     obtain ⟨l5,e5⟩:∃ l,l=l2++o.uses.flatMap Fx.textB:=⟨_,rfl⟩
     rw [← e5] at HR HL;have E5:=hid e5;clear e5;have R5:=HR;have HB5:=HB;have L5:=HL;clear HR HB HL
     try go_wp2_with fail
     refine (Fx.zbj o.data _).mono ?_;rintro e c6 ⟨rfl,hb6⟩;obtain ⟨rv6,v6,ha6,hs6,hc6⟩:=Fx.zfe (R5.out.later hb6) (Fx.numB o.data) (by have h1:=L5.out;rw [zap];omega) (vai HB5.out.size hb6.size) 140;have A6:=hid ha6;have S6:=hid hs6;have D6:=hid ((HB5.out.trans (hb6.mono HB5.out.size)).trans hc6);have hz6:=D6.out.size;clear q0 q1 q2 q3 q4 q5 q6 qz hb6 ha6 hs6 hc6;obtain ⟨q0,q1,q2,q3,q4,q5,q6,qz⟩:=HX.out v6 D6.out
     go_wp2_with (at_builtin;refine Lib.wpList_append_run _ rfl _ _ _ _ rfl _ _ rfl rfl _ v6 A6.out ?_)
     clear A6
     obtain ⟨l6,e6⟩:∃ l,l=l5++Fx.numB o.data:=⟨_,rfl⟩
     rw [← e6] at S6
     have L6:Hid (l6.length<=793):=by
      show _<=_;rw [e6,vab,zap];have:=L5.out;omega
     have E6:=hid e6;clear e6
     try go_wp2_with fail
     refine (Fx.zbj (o.code.length:Int) _).mono ?_;rintro e c7 ⟨rfl,hb7⟩;obtain ⟨rv7,v7,ha7,hs7,hc7⟩:=Fx.zfe (S6.out.later hb7) (Fx.numB (o.code.length:Int)) (by have h1:=L6.out;rw [zap];omega) (vai D6.out.size hb7.size) 140;have A7:=hid ha7;have S7:=hid hs7;have D7:=hid ((D6.out.trans (hb7.mono D6.out.size)).trans hc7);have hz7:=D7.out.size;clear q0 q1 q2 q3 q4 q5 q6 qz hb7 ha7 hs7 hc7;obtain ⟨q0,q1,q2,q3,q4,q5,q6,qz⟩:=HX.out v7 D7.out
     go_wp2_with (at_builtin;refine Lib.wpList_append_run _ rfl _ _ _ _ rfl _ _ rfl rfl _ v7 A7.out ?_)
     clear A7
     obtain ⟨l7,e7⟩:∃ l,l=l6++Fx.numB (o.code.length:Int):=⟨_,rfl⟩
     rw [← e7] at S7
     have L7:Hid (l7.length<=801):=by
      show _<=_;rw [e7,vab,zap];have:=L6.out;omega
     have E7:=hid e7;clear e7
     try go_wp2_with fail
     have HG8:Hid (∀ j,((o.code.take j).flatMap instrB).length<=17*o.code.length):=fun j=>vai (zf1 instrB 17 (o.code.take j) (fun x _=>vcy (zkf x))) (vcb _ (by rw [vbb];omega))
     clear q0 q1 q2 q3 q4 q5 q6 qz
     go_loopw [3,5] (fun u i wr=>∃ j:Nat,j<=o.code.length/\i = .int .i64 j/\Fx.zlo W0.heap.size wr u (l7++(o.code.take j).flatMap instrB)/\Below W0.heap.size W0 wr) (fun _ i _=>o.code.length - (intOf i).toNat)
     case atStart=>exact ⟨0,vae _,rfl,by rw [vcg,vco,vbe];exact S7.out,D7.out⟩
     case round=>
      obtain ⟨j,hj,rfl,hr,hb⟩:=hrel;have HR:=hid hr;have HB:=hid hb;have hzr:=hb.size
      have HL:Hid ((l7++(o.code.take j).flatMap instrB).length<=35617):=by
       have h1:=HG8.out j;have h2:=L7.out;show _<=_;rw [vab];omega
      obtain ⟨q0,q1,q2,q3,q4,q5,q6,qz⟩:=HX.out wr hb;clear hr hb
      by_cases hlt:j<o.code.length
      . obtain ⟨b,off,rfl,hbl,c0,c1,c2,_,_,_⟩:=(HO.out.later HB.out).code.gi j hlt
        have HS:Hid (l7++(o.code.take (j+1)).flatMap instrB=(l7++(o.code.take j).flatMap instrB)++instrB o.code[j]):=by show _=_;rw [zes instrB o.code j hlt,vaq]
        have HC:Hid (∀ W,Below W0.heap.size W0 W->GiAt W b (off+j*3) o.code[j]):=fun W hW=>by
         obtain ⟨_,_,he,hx⟩:=(HO.out.later hW).code.gi j hlt;cases he;exact hx
        generalize (l7++(o.code.take j).flatMap instrB)=lj at *;generalize o.code[j]=x at *;have hw9:IntKind.u8.wrap x.op=x.op % 256:=z1g _;obtain ⟨rv9,v9,ha9,hs9,hc9⟩:=Fx.zys (HR.out.later (al1 wr (.cells #[.int .u8 (x.op % 256)] 5))) x.op wr.heap.size (by simp) (by have h1:=HL.out;(try simp only [vab,zap,vas,vbu]);omega) (by simp;omega) 140;have A9:=hid ha9;have S9:=hid hs9;have D9:=hid ((HB.out.trans ((al1 wr (.cells #[.int .u8 (x.op % 256)] 5)).mono HB.out.size)).trans hc9);have hz9:=D9.out.size;clear ha9 hs9 hc9;obtain ⟨p0,p1,p2,p3,p4,p5,p6,pz⟩:=HX.out v9 D9.out;obtain ⟨hbm,d0,d1,d2,_,_,_⟩:=HC.out v9 D9.out
        go_wp2_with (at_builtin;refine Lib.wpList_append_run _ rfl _ _ _ _ rfl _ _ rfl rfl _ v9 A9.out ?_)
        clear A9 q0 q1 q2 q3 q4 q5 q6 qz hw9 hbl c0 c1 c2
        have q0:=p0;have q1:=p1;have q2:=p2;have q3:=p3;have q4:=p4;have q5:=p5;have q6:=p6;have qz:=pz
        have hbl:=hbm;have c0:=d0;have c1:=d1;have c2:=d2
        clear p0 p1 p2 p3 p4 p5 p6 pz hbm d0 d1 d2
        try go_wp2_with fail
        refine (Fx.zbj x.a _).mono ?_;rintro e c10 ⟨rfl,hb10⟩;obtain ⟨rv10,v10,ha10,hs10,hc10⟩:=Fx.zfe (S9.out.later hb10) (Fx.numB x.a) (by have h1:=HL.out;simp only [vab,zap,vas,vbu];omega) (vai D9.out.size hb10.size) 140;have A10:=hid ha10;have S10:=hid hs10;have D10:=hid ((D9.out.trans (hb10.mono D9.out.size)).trans hc10);have hz10:=D10.out.size;clear q0 q1 q2 q3 q4 q5 q6 qz hb10 ha10 hs10 hc10;obtain ⟨q0,q1,q2,q3,q4,q5,q6,qz⟩:=HX.out v10 D10.out;clear hbl c0 c1 c2;obtain ⟨hbl,c0,c1,c2,_,_,_⟩:=HC.out v10 D10.out
        go_wp2_with (at_builtin;refine Lib.wpList_append_run _ rfl _ _ _ _ rfl _ _ rfl rfl _ v10 A10.out ?_)
        clear A10
        try go_wp2_with fail
        refine (Fx.zbj x.b _).mono ?_;rintro e c11 ⟨rfl,hb11⟩;obtain ⟨rv11,v11,ha11,hs11,hc11⟩:=Fx.zfe (S10.out.later hb11) (Fx.numB x.b) (by have h1:=HL.out;simp only [vab,zap,vas,vbu];omega) (vai D10.out.size hb11.size) 140;have A11:=hid ha11;have S11:=hid hs11;have D11:=hid ((D10.out.trans (hb11.mono D10.out.size)).trans hc11);have hz11:=D11.out.size;clear q0 q1 q2 q3 q4 q5 q6 qz hb11 ha11 hs11 hc11;obtain ⟨q0,q1,q2,q3,q4,q5,q6,qz⟩:=HX.out v11 D11.out;clear hbl c0 c1 c2;obtain ⟨hbl,c0,c1,c2,_,_,_⟩:=HC.out v11 D11.out
        go_wp2_with (at_builtin;refine Lib.wpList_append_run _ rfl _ _ _ _ rfl _ _ rfl rfl _ v11 A11.out ?_)
        clear A11;go_roundw
        case rel=>exact ⟨j+1,by omega,by go_num,by rw [HS.out];unfold instrB;have h9:=S11.out;simp only [vaq,vcn,vcw] at h9;(try simp only [vaq,vcn,vcw]);exact h9,D11.out⟩
        case measure=>simp [intOf];omega
      . obtain rfl:j=o.code.length:=by omega
        rw [vaz] at HR HL
        obtain ⟨l12,e12⟩:∃ l,l=l7++o.code.flatMap instrB:=⟨_,rfl⟩
        rw [← e12] at HR HL;have E12:=hid e12;clear e12;have R12:=HR;have HB12:=HB;have L12:=HL;clear HR HB HL
        try go_wp2_with fail
        refine (Fx.zbj (o.fixes.length:Int) _).mono ?_;rintro e c13 ⟨rfl,hb13⟩;obtain ⟨rv13,v13,ha13,hs13,hc13⟩:=Fx.zfe (R12.out.later hb13) (Fx.numB (o.fixes.length:Int)) (by have h1:=L12.out;rw [zap];omega) (vai HB12.out.size hb13.size) 140;have A13:=hid ha13;have S13:=hid hs13;have D13:=hid ((HB12.out.trans (hb13.mono HB12.out.size)).trans hc13);have hz13:=D13.out.size;clear q0 q1 q2 q3 q4 q5 q6 qz hb13 ha13 hs13 hc13;obtain ⟨q0,q1,q2,q3,q4,q5,q6,qz⟩:=HX.out v13 D13.out
        go_wp2_with (at_builtin;refine Lib.wpList_append_run _ rfl _ _ _ _ rfl _ _ rfl rfl _ v13 A13.out ?_)
        clear A13
        obtain ⟨l13,e13⟩:∃ l,l=l12++Fx.numB (o.fixes.length:Int):=⟨_,rfl⟩
        rw [← e13] at S13
        have L13:Hid (l13.length<=35625):=by
         show _<=_;rw [e13,vab,zap];have:=L12.out;omega
        have E13:=hid e13;clear e13
        try go_wp2_with fail
        have HG14:Hid (∀ j,((o.fixes.take j).flatMap fixBy).length<=17*o.fixes.length):=fun j=>vai (zf1 fixBy 17 (o.fixes.take j) (fun x _=>vcy (zm3 x))) (vcb _ (by rw [vbb];omega))
        clear q0 q1 q2 q3 q4 q5 q6 qz
        go_loopw [3,6] (fun u i wr=>∃ j:Nat,j<=o.fixes.length/\i = .int .i64 j/\Fx.zlo W0.heap.size wr u (l13++(o.fixes.take j).flatMap fixBy)/\Below W0.heap.size W0 wr) (fun _ i _=>o.fixes.length - (intOf i).toNat)
        case atStart=>exact ⟨0,vae _,rfl,by rw [vcg,vco,vbe];exact S13.out,D13.out⟩
        case round=>
         obtain ⟨j,hj,rfl,hr,hb⟩:=hrel;have HR:=hid hr;have HB:=hid hb;have hzr:=hb.size
         have HL:Hid ((l13++(o.fixes.take j).flatMap fixBy).length<=70441):=by
          have h1:=HG14.out j;have h2:=L13.out;show _<=_;rw [vab];omega
         obtain ⟨q0,q1,q2,q3,q4,q5,q6,qz⟩:=HX.out wr hb;clear hr hb
         by_cases hlt:j<o.fixes.length
         . obtain ⟨b,off,rfl,hbl,c0,c1,c2,_,_,_⟩:=(HO.out.later HB.out).fixes.gf j hlt
           have HS:Hid (l13++(o.fixes.take (j+1)).flatMap fixBy=(l13++(o.fixes.take j).flatMap fixBy)++fixBy o.fixes[j]):=by show _=_;rw [zes fixBy o.fixes j hlt,vaq]
           have HC:Hid (∀ W,Below W0.heap.size W0 W->GfAt W b (off+j*3) o.fixes[j]):=fun W hW=>by
            obtain ⟨_,_,he,hx⟩:=(HO.out.later hW).fixes.gf j hlt;cases he;exact hx
           generalize (l13++(o.fixes.take j).flatMap fixBy)=lj at *;generalize o.fixes[j]=x at *
           try go_wp2_with fail
           refine (Fx.zbj x.at_ _).mono ?_;rintro e c15 ⟨rfl,hb15⟩;obtain ⟨rv15,v15,ha15,hs15,hc15⟩:=Fx.zfe (HR.out.later hb15) (Fx.numB x.at_) (by have h1:=HL.out;simp only [vab,zap,vas,vbu];omega) (vai HB.out.size hb15.size) 140;have A15:=hid ha15;have S15:=hid hs15;have D15:=hid ((HB.out.trans (hb15.mono HB.out.size)).trans hc15);have hz15:=D15.out.size;clear q0 q1 q2 q3 q4 q5 q6 qz hb15 ha15 hs15 hc15;obtain ⟨q0,q1,q2,q3,q4,q5,q6,qz⟩:=HX.out v15 D15.out;clear hbl c0 c1 c2;obtain ⟨hbl,c0,c1,c2,_,_,_⟩:=HC.out v15 D15.out
           go_upto_region 19 with (at_builtin;refine Lib.wpList_append_run _ rfl _ _ _ _ rfl _ _ rfl rfl _ v15 A15.out ?_)
           clear A15;have hw16:IntKind.u8.wrap x.kind=x.kind % 256:=z1g _;obtain ⟨rv16,v16,ha16,hs16,hc16⟩:=Fx.zys (S15.out.later (al1 v15 (.cells #[.int .u8 (x.kind % 256)] 5))) x.kind v15.heap.size (by simp) (by have h1:=HL.out;(try simp only [vab,zap,vas,vbu]);omega) (by simp;omega) 140;have A16:=hid ha16;have S16:=hid hs16;have D16:=hid ((D15.out.trans ((al1 v15 (.cells #[.int .u8 (x.kind % 256)] 5)).mono D15.out.size)).trans hc16);have hz16:=D16.out.size;clear ha16 hs16 hc16;obtain ⟨p0,p1,p2,p3,p4,p5,p6,pz⟩:=HX.out v16 D16.out;obtain ⟨hbm,d0,d1,d2,_,_,_⟩:=HC.out v16 D16.out
           go_wp2_with (at_builtin;refine Lib.wpList_append_run _ rfl _ _ _ _ rfl _ _ rfl rfl _ v16 A16.out ?_)
           clear A16 q0 q1 q2 q3 q4 q5 q6 qz hw16 hbl c0 c1 c2
           have q0:=p0;have q1:=p1;have q2:=p2;have q3:=p3;have q4:=p4;have q5:=p5;have q6:=p6;have qz:=pz
           have hbl:=hbm;have c0:=d0;have c1:=d1;have c2:=d2
           clear p0 p1 p2 p3 p4 p5 p6 pz hbm d0 d1 d2
           try go_wp2_with fail
           refine (Fx.zbj x.m _).mono ?_;rintro e c17 ⟨rfl,hb17⟩;obtain ⟨rv17,v17,ha17,hs17,hc17⟩:=Fx.zfe (S16.out.later hb17) (Fx.numB x.m) (by have h1:=HL.out;simp only [vab,zap,vas,vbu];omega) (vai D16.out.size hb17.size) 140;have A17:=hid ha17;have S17:=hid hs17;have D17:=hid ((D16.out.trans (hb17.mono D16.out.size)).trans hc17);have hz17:=D17.out.size;clear q0 q1 q2 q3 q4 q5 q6 qz hb17 ha17 hs17 hc17;obtain ⟨q0,q1,q2,q3,q4,q5,q6,qz⟩:=HX.out v17 D17.out;clear hbl c0 c1 c2;obtain ⟨hbl,c0,c1,c2,_,_,_⟩:=HC.out v17 D17.out
           go_wp2_with (at_builtin;refine Lib.wpList_append_run _ rfl _ _ _ _ rfl _ _ rfl rfl _ v17 A17.out ?_)
           clear A17;go_roundw
           case rel=>exact ⟨j+1,by omega,by go_num,by rw [HS.out];unfold fixBy;have h9:=S17.out;simp only [vaq,vcn,vcw] at h9;(try simp only [vaq,vcn,vcw]);exact h9,D17.out⟩
           case measure=>simp [intOf];omega
         . obtain rfl:j=o.fixes.length:=by omega
           rw [vaz] at HR HL
           obtain ⟨l18,e18⟩:∃ l,l=l13++o.fixes.flatMap fixBy:=⟨_,rfl⟩
           rw [← e18] at HR HL;have E18:=hid e18;clear e18;have R18:=HR;have HB18:=HB;have L18:=HL;clear HR HB HL
           try go_wp2_with fail
           refine (Fx.zbj (o.entries.length:Int) _).mono ?_;rintro e c19 ⟨rfl,hb19⟩;obtain ⟨rv19,v19,ha19,hs19,hc19⟩:=Fx.zfe (R18.out.later hb19) (Fx.numB (o.entries.length:Int)) (by have h1:=L18.out;rw [zap];omega) (vai HB18.out.size hb19.size) 140;have A19:=hid ha19;have S19:=hid hs19;have D19:=hid ((HB18.out.trans (hb19.mono HB18.out.size)).trans hc19);have hz19:=D19.out.size;clear q0 q1 q2 q3 q4 q5 q6 qz hb19 ha19 hs19 hc19;obtain ⟨q0,q1,q2,q3,q4,q5,q6,qz⟩:=HX.out v19 D19.out
           go_wp2_with (at_builtin;refine Lib.wpList_append_run _ rfl _ _ _ _ rfl _ _ rfl rfl _ v19 A19.out ?_)
           clear A19
           obtain ⟨l19,e19⟩:∃ l,l=l18++Fx.numB (o.entries.length:Int):=⟨_,rfl⟩
           rw [← e19] at S19
           have L19:Hid (l19.length<=70449):=by
            show _<=_;rw [e19,vab,zap];have:=L18.out;omega
           have E19:=hid e19;clear e19
           try go_wp2_with fail
           have HG20:Hid (∀ j,((o.entries.take j).flatMap Fx.numB).length<=8*o.entries.length):=fun j=>vai (zf1 Fx.numB 8 (o.entries.take j) (fun x _=>vcy (zap x))) (vcb _ (by rw [vbb];omega))
           clear q0 q1 q2 q3 q4 q5 q6 qz
           go_loopw [3,7] (fun u i wr=>∃ j:Nat,j<=o.entries.length/\i = .int .i64 j/\Fx.zlo W0.heap.size wr u (l19++(o.entries.take j).flatMap Fx.numB)/\Below W0.heap.size W0 wr) (fun _ i _=>o.entries.length - (intOf i).toNat)
           case atStart=>exact ⟨0,vae _,rfl,by rw [vcg,vco,vbe];exact S19.out,D19.out⟩
           case round=>
            obtain ⟨j,hj,rfl,hr,hb⟩:=hrel;have HR:=hid hr;have HB:=hid hb;have hzr:=hb.size
            have HL:Hid ((l19++(o.entries.take j).flatMap Fx.numB).length<=70497):=by
             have h1:=HG20.out j;have h2:=L19.out;show _<=_;rw [vab];omega
            obtain ⟨q0,q1,q2,q3,q4,q5,q6,qz⟩:=HX.out wr hb;clear hr hb
            by_cases hlt:j<o.entries.length
            . obtain ⟨b,off,rfl,hbl,c0,_⟩:=(HO.out.later HB.out).entries.num j hlt
              have HS:Hid (l19++(o.entries.take (j+1)).flatMap Fx.numB=(l19++(o.entries.take j).flatMap Fx.numB)++Fx.numB o.entries[j]):=by show _=_;rw [zes Fx.numB o.entries j hlt,vaq]
              generalize (l19++(o.entries.take j).flatMap Fx.numB)=lj at *;generalize o.entries[j]=x at *
              try go_wp2_with fail
              refine (Fx.zbj x _).mono ?_;rintro e c21 ⟨rfl,hb21⟩;obtain ⟨rv21,v21,ha21,hs21,hc21⟩:=Fx.zfe (HR.out.later hb21) (Fx.numB x) (by have h1:=HL.out;rw [zap];omega) (vai HB.out.size hb21.size) 140;have A21:=hid ha21;have S21:=hid hs21;have D21:=hid ((HB.out.trans (hb21.mono HB.out.size)).trans hc21);have hz21:=D21.out.size;clear q0 q1 q2 q3 q4 q5 q6 qz hb21 ha21 hs21 hc21;obtain ⟨q0,q1,q2,q3,q4,q5,q6,qz⟩:=HX.out v21 D21.out
              go_wp2_with (at_builtin;refine Lib.wpList_append_run _ rfl _ _ _ _ rfl _ _ rfl rfl _ v21 A21.out ?_)
              clear A21;go_roundw
              case rel=>exact ⟨j+1,by omega,by go_num,by rw [HS.out];exact S21.out,D21.out⟩
              case measure=>simp [intOf];omega
            . obtain rfl:j=o.entries.length:=by omega
              rw [vaz] at HR HL
              obtain ⟨l22,e22⟩:∃ l,l=l19++o.entries.flatMap Fx.numB:=⟨_,rfl⟩
              rw [← e22] at HR HL;have E22:=hid e22;clear e22;have R22:=HR;have HB22:=HB;have L22:=HL;clear HR HB HL
              try go_wp2_with fail
              refine (Fx.zbj o.main _).mono ?_;rintro e c23 ⟨rfl,hb23⟩;obtain ⟨rv23,v23,ha23,hs23,hc23⟩:=Fx.zfe (R22.out.later hb23) (Fx.numB o.main) (by have h1:=L22.out;rw [zap];omega) (vai HB22.out.size hb23.size) 140;have A23:=hid ha23;have S23:=hid hs23;have D23:=hid ((HB22.out.trans (hb23.mono HB22.out.size)).trans hc23);have hz23:=D23.out.size;clear q0 q1 q2 q3 q4 q5 q6 qz hb23 ha23 hs23 hc23;obtain ⟨q0,q1,q2,q3,q4,q5,q6,qz⟩:=HX.out v23 D23.out;have hcv:=S23.out.conv;obtain ⟨cp9,g9,rfl,_,_⟩:=S23.out.lt;rw [vab] at hcv
              go_wp2_with (at_builtin;refine Lib.wpList_append_run _ rfl _ _ _ _ rfl _ _ rfl rfl _ v23 A23.out ?_)
              clear A23
              obtain ⟨l23,e23⟩:∃ l,l=l22++Fx.numB o.main:=⟨_,rfl⟩
              rw [← e23] at S23
              have L23:Hid (l23.length<=70505):=by
               show _<=_;rw [e23,vab,zap];have:=L22.out;omega
              have E23:=hid e23;clear e23
              have HE:Hid (l23=objB o):=by
               show _=_;rw [E23.out,E22.out,E19.out,E18.out,E13.out,E12.out,E7.out,E6.out,E5.out,E2.out];unfold objB listB;simp only [vaq]
              try go_wp2_with fail
              go_ret;exact ⟨by rw [← HE.out,E23.out];rfl,thenB HB0.out D23.out⟩
end Go.Proofs.YtndkhgakfodldaaGreatDoor

namespace Go.Proofs.YtndkhgakfodldaaGreatDoor
set_option maxRecDepth 100000
set_option maxHeartbeats 12800000
open Go.RowKit Go.Maps Go.WideMaps
set_option linter.unusedSimpArgs false
set_option linter.unusedVariables false
theorem z9l {W:World} {b:Nat} {v0 v1 v2 v3 v4 v5 v6:Value} {t:TypeId} (h:W.heap[b]? = some (.cells #[v0,v1,v2,v3,v4,v5,v6] t (0,0))):W.cell? ⟨b,0,none⟩=some v0/\W.cell? ⟨b,1,none⟩=some v1/\W.cell? ⟨b,2,none⟩=some v2/\W.cell? ⟨b,3,none⟩=some v3/\W.cell? ⟨b,4,none⟩=some v4/\W.cell? ⟨b,5,none⟩=some v5/\W.cell? ⟨b,6,none⟩=some v6:=
 have h:=zaj h
 ⟨h.1,h.2.1,h.2.2.1,h.2.2.2.1,h.2.2.2.2.1,h.2.2.2.2.2.1,h.2.2.2.2.2.2.1⟩
def z5b (o p:Ob):Prop:=∀ w:World,Calls Tryz.prog 85 #[] w fun e w'=>∃ a,e = .returned (.slice (some a) 2 2)/\zrc w' (some a) [o,p]/\Below w.heap.size w w'
theorem z55 {o p:Ob} (h:z5b o p) (w:World):Calls Tryz.prog 85 #[] w fun e w'=>∃ b off x1 y1 x3 y3 x4 y4 x5 y5 u1 v1 u3 v3 u4 v4 u5 v5,e = .returned (.slice (some ⟨b,off,none⟩) 2 2)/\(ObAt w' b off o x1 y1 x3 y3 x4 y4 x5 y5/\o.uses.length<=y1)/\(ObAt w' b (off+7) p u1 v1 u3 v3 u4 v4 u5 v5/\p.uses.length<=v1)/\Below w.heap.size w w':=
 (h w).mono fun e w' ⟨a,he,hO,hb⟩=>by
   obtain ⟨b,off,x1,y1,x3,y3,x4,y4,x5,y5,ha,h0,c0⟩:=hO.ob 0 (by simp);obtain ⟨b',off',u1,v1,u3,v3,u4,v4,u5,v5,ha',h1,c1⟩:=hO.ob 1 (by simp);obtain rfl:=vac ha
   cases vac ha'
   simp only [vbx,vby,vbo,vbw,vdn] at h0 h1 c0 c1;exact ⟨b,off,x1,y1,x3,y3,x4,y4,x5,y5,u1,v1,u3,v3,u4,v4,u5,v5,he,⟨h0,c0⟩,⟨h1,c1⟩,hb⟩
theorem zza {l:L8} {o:Ob} (hr:rdO l=some o) (hl:l.length<=32768) (w:World):Calls Tryz.prog 37 #[.string (Fx.strOf l)] w fun e w'=>∃ x1 y1 x3 y3 x4 y4 x5 y5,e = .returned (.tuple #[.agg #[.string o.name,.slice x1 o.uses.length y1,.int .i64 o.data,.slice x3 o.code.length y3,.slice x4 o.fixes.length y4,.slice x5 o.entries.length y5,.int .i64 o.main],.int .i64 0])/\OvAt w' o x1 x3 x4 x5/\o.uses.length<=y1/\Below w.heap.size w w':=
 (zia l w (by omega)).mono fun e w' ⟨hb,h⟩=>by
   rcases h with ⟨h,_⟩ | ⟨_,h,_⟩ | ⟨_,o',v,h,he,x1,y1,x3,y3,x4,y4,x5,y5,hv,hO,hc⟩
   . omega
   . rw [hr] at h;cases h
   . rw [hr] at h
     cases h;subst hv;exact ⟨x1,y1,x3,y3,x4,y4,x5,y5,he,hO.ov,hc,hb⟩
theorem zzb {l:L8} (hr:rdO l=none) (hl:l.length<=32768) (w:World):Calls Tryz.prog 37 #[.string (Fx.strOf l)] w fun e w'=>e = .returned (.tuple #[zV,.int .i64 1])/\Below w.heap.size w w':=
 (zia l w (by omega)).mono fun e w' ⟨hb,h⟩=>by
   rcases h with ⟨h,_⟩ | ⟨_,h,he⟩ | ⟨_,o',v,h,_⟩
   . omega
   . exact ⟨he,hb⟩
   . rw [hr] at h;cases h
theorem zry (o p:Ob) (l:L8) (hT:z5b o p) (hp:oChk p=0) (hw:wrO o=(l,0)) (hr:rdO l=some o) (hx:rdO (l++[120])=none) (hl:l.length=519) (w:World) :
 Calls Tryz.prog 33 #[] w fun e w'=>e = .returned (.bool true)/\Below w.heap.size w w':=by
 have HT:=hid (fun W=>z55 hT W);have HWr:=hid (fun (W:World) (x1:OA) (y1:Nat) (x3:OA) (y3:Nat) (x4:OA) (y4:Nat) (x5:OA) (y5:Nat) (h:OvAt W o x1 x3 x4 x5) (hc:o.uses.length<=y1)=>zkr o x1 y1 x3 y3 x4 y4 x5 y5 W h hc);rw [hw] at HWr;have HCk:=hid (fun (W:World) (x1:OA) (y1:Nat) (x3:OA) (y3:Nat) (x4:OA) (y4:Nat) (x5:OA) (y5:Nat) (h:OvAt W p x1 x3 x4 x5) (hc:p.uses.length<=y1)=>zg2 p x1 y1 x3 y3 x4 y4 x5 y5 W h hc);rw [hp] at HCk;have HRd:=hid (fun (W:World)=>zza hr (by omega) W);have HRx:=hid (fun (W:World)=>zzb hx (by rw [vab];simp;omega) W);have e1:Fx.strOf (l++[120])=Fx.strOf l++⟨#[120]⟩:=(Fx.strOf_append l [120]).symm;rw [e1] at HRx
 have hz:(Fx.strOf l).size=519:=by rw [Fx.strOf_size,hl]
 have hln:¬ 9223372036854775807<(Fx.strOf l).size+(⟨#[120]⟩:ByteArray).size:=by rw [hz];decide
 simp only at HWr;clear hT hp hw hr hx hl e1;generalize Fx.strOf l=st at *;go_enter Tryz.func33,Tryz.ntmps33;go_wp2_with fail;refine (HT.out _).mono ?_;rintro e w1 ⟨b,off,g1,h1,g3,h3,g4,h4,g5,h5,_,_,_,_,_,_,_,_,rfl,⟨hO,hcp⟩,_,hb1⟩;have HB1:=hid hb1;have HW1:=hid (HWr.out w1 _ _ g3 h3 g4 h4 g5 h5 hO.ov hcp);obtain ⟨z,c0,c1,c2,c3,c4,c5,c6,_⟩:=hO;clear hb1 hcp;go_wp2_with fail;refine HW1.out.mono ?_;rintro e w2 ⟨rfl,hb2⟩;have HB2:=hid (thenB HB1.out hb2);clear hb2 HB1 HW1 z c0 c1 c2 c3 c4 c5 c6;go_wp2_with fail;refine (HRd.out _).mono ?_;rintro e w3 ⟨x1,y1,x3,y3,x4,y4,x5,y5,rfl,hO,hcp,hb3⟩;have hBa:=al1 w3 (oC o x1 y1 x3 y3 x4 y4 x5 y5);have HB3:=hid (thenB HB2.out (thenB hb3 hBa));have HO3:=hid (hO.later hBa);have HX3:=hid (heap_newP w3 (oC o x1 y1 x3 y3 x4 y4 x5 y5));clear hO hcp hb3 hBa HB2;go_wp2_with fail
 obtain ⟨W3,hW3⟩:∃ W3,W3=w3.alloc (oC o x1 y1 x3 y3 x4 y4 x5 y5):=⟨_,rfl⟩
 rw [← hW3] at HB3 HO3 HX3 ⊢;clear hW3;refine (HRx.out _).mono ?_;rintro e w4 ⟨rfl,hb4⟩;have hBa:=thenB hb4 (al1 w4 zC);have HB4:=hid (thenB HB3.out hBa);have HO4:=hid (HO3.out.later hBa);have HX4:=hid (zak HX3.out hBa);clear hb4 hBa HB3 HO3 HX3;go_upto_region 4 with fail
 obtain ⟨W4,hW4⟩:∃ W4,W4=w4.alloc zC:=⟨_,rfl⟩
 rw [← hW4] at HB4 HO4 HX4
 try rw [← hW4]
 clear hW4
 have HX:Hid (∀ W,Below W4.heap.size W4 W->W.cell? ⟨w3.heap.size,0,none⟩=some (.string o.name)/\W.cell? ⟨w3.heap.size,1,none⟩=some (.slice x1 o.uses.length y1)/\W.cell? ⟨w3.heap.size,2,none⟩=some (.int .i64 o.data)/\W.cell? ⟨w3.heap.size,3,none⟩=some (.slice x3 o.code.length y3)/\W.cell? ⟨w3.heap.size,4,none⟩=some (.slice x4 o.fixes.length y4)/\W.cell? ⟨w3.heap.size,5,none⟩=some (.slice x5 o.entries.length y5)/\W.cell? ⟨w3.heap.size,6,none⟩=some (.int .i64 o.main)):=fun W hW=>z9l (zak HX4.out hW)
 have FF:=hid (HX.out _ (bdrew W4));refine wp_region_held_drew (S:=(fun W=>W.cell? ⟨w3.heap.size,0,none⟩=some (.string o.name)/\W.cell? ⟨w3.heap.size,1,none⟩=some (.slice x1 o.uses.length y1)/\W.cell? ⟨w3.heap.size,2,none⟩=some (.int .i64 o.data)/\W.cell? ⟨w3.heap.size,3,none⟩=some (.slice x3 o.code.length y3)/\W.cell? ⟨w3.heap.size,4,none⟩=some (.slice x4 o.fixes.length y4)/\W.cell? ⟨w3.heap.size,5,none⟩=some (.slice x5 o.entries.length y5)/\W.cell? ⟨w3.heap.size,6,none⟩=some (.int .i64 o.main))) (by kernel_rfl) FF.out (fun hHeld=>?_);refine wpAnyH_ready (rs:=[0]) (by kernel_rfl) (by simp) ?_;refine AllReadyH.cons rfl (fun K hK=>?_) AllReadyH.nil;go_simp
 go_wp2_with (go_at_call 85;refine (HT.out _).mono ?_;rintro e w5 ⟨b5,off5,_,_,_,_,_,_,_,_,u1,v1,u3,v3,u4,v4,u5,v5,rfl,_,⟨hP5,hc5⟩,hb5⟩;have D5:=hid (thenB (bdrew W4) hb5);have HP5:=hid hP5.ov;have HC5:=hid hc5;obtain ⟨z5,p0,p1,p2,p3,p4,p5,p6,_⟩:=hP5;clear hb5 hc5 FF;have FF:=hid (HX.out _ D5.out))
 refine hK.out _ _ FF.out (fun hHeld=>?_);clear hK K;refine wpAnyH_take (i:=1) (oi:=⟨some 26,_,_,_,_,_⟩) (v:=.pointer (some ⟨b5,off5+7,none⟩)) rfl (by kernel_rfl) (by kernel_rfl) (by kernel_rfl) (fun _ _ _ h=>h) (Or.inl ⟨by kernel_rfl,fun W _=>by kernel_rfl⟩) (by assumption) ?_;refine wpAnyH_ready (rs:=[2]) (by kernel_rfl) (by simp) ?_;refine AllReadyH.cons rfl (fun K hK=>?_) AllReadyH.nil;go_simp
 go_wp2_with (fail)
 refine hK.out _ _ FF.out (fun hHeld=>?_);clear hK K;clear z5 p0 p1 p2 p3 p4 p5 p6;refine wpAnyH_ready (rs:=[3]) (by kernel_rfl) (by simp) ?_;refine AllReadyH.cons rfl (fun K hK=>?_) AllReadyH.nil;go_simp
 go_wp2_with (go_at_call 32;refine (HCk.out _ _ _ _ _ _ _ _ _ HP5.out HC5.out).mono ?_;rintro e w7 ⟨rfl,hb7⟩;have D7:=hid (thenB D5.out hb7);clear hb7 FF;have FF:=hid (HX.out _ D7.out))
 refine hK.out _ _ FF.out (fun hHeld=>?_);clear hK K;refine wpAnyH_take (i:=4) (oi:=⟨some 29,_,_,_,_,_⟩) (v:=.bool true) rfl (by kernel_rfl) (by kernel_rfl) (by kernel_rfl) (fun _ _ _ h=>h) (Or.inl ⟨by kernel_rfl,fun W _=>by kernel_rfl⟩) (by assumption) ?_;refine wpAnyH_take (i:=5) (oi:=⟨some 30,_,_,_,_,_⟩) (v:=.bool true) rfl (by kernel_rfl) (by kernel_rfl) (by kernel_rfl) (fun _ _ _ h=>h) (Or.inl ⟨by kernel_rfl,fun W _=>by kernel_rfl⟩) (by assumption) ?_;refine wpAnyH_take (i:=6) (oi:=⟨some 31,_,_,_,_,_⟩) (v:=.int .i64 0) rfl (by kernel_rfl) (by kernel_rfl) (by kernel_rfl) (fun _ _ _ h=>h) (Or.inl ⟨by kernel_rfl,fun W _=>by kernel_rfl⟩) (by assumption) ?_;refine wpAnyH_take (i:=7) (oi:=⟨some 32,_,_,_,_,_⟩) (v:=.bool true) rfl (by kernel_rfl) (by kernel_rfl) (by kernel_rfl) (fun _ _ _ h=>h) (Or.inl ⟨by kernel_rfl,fun W _=>by kernel_rfl⟩) (by assumption) ?_
 refine wpAnyH_take (i:=8) (oi:=⟨some 33,_,_,_,_,_⟩) (v:=.bool true) rfl (by kernel_rfl) (by kernel_rfl) (by kernel_rfl) (fun _ _ _ h=>h) (Or.inl ⟨by kernel_rfl,fun W _=>by kernel_rfl⟩) (by assumption) ?_;refine wpAnyH_take (i:=9) (oi:=⟨some 34,_,_,_,_,_⟩) (v:=.bool true) rfl (by kernel_rfl) (by kernel_rfl) (by kernel_rfl) (fun _ _ _ h=>h) (Or.inl ⟨by kernel_rfl,fun W _=>by kernel_rfl⟩) (by assumption) ?_;refine wpAnyH_take (i:=10) (oi:=⟨some 35,_,_,_,_,_⟩) (v:=.int .i64 0) rfl (by kernel_rfl) (by kernel_rfl) (by kernel_rfl) (fun _ _ _ h=>h) (Or.inl ⟨by kernel_rfl,fun W _=>by kernel_rfl⟩) (by assumption) ?_;refine wpAnyH_take (i:=11) (oi:=⟨some 36,_,_,_,_,_⟩) (v:=.bool true) rfl (by kernel_rfl) (by kernel_rfl) (by kernel_rfl) (fun _ _ _ h=>h) (Or.inl ⟨by kernel_rfl,fun W _=>by kernel_rfl⟩) (by assumption) ?_;refine wpAnyH_take (i:=12) (oi:=⟨some 37,_,_,_,_,_⟩) (v:=.bool true) rfl (by kernel_rfl) (by kernel_rfl) (by kernel_rfl) (fun _ _ _ h=>h) (Or.inl ⟨by kernel_rfl,fun W _=>by kernel_rfl⟩) (by assumption) ?_
 refine wpAnyH_take (i:=13) (oi:=⟨some 38,_,_,_,_,_⟩) (v:=.bool true) rfl (by kernel_rfl) (by kernel_rfl) (by kernel_rfl) (fun _ _ _ h=>h) (Or.inl ⟨by kernel_rfl,fun W _=>by kernel_rfl⟩) (by assumption) ?_;refine wpAnyH_take (i:=14) (oi:=⟨some 39,_,_,_,_,_⟩) (v:=.int .i64 1) rfl (by kernel_rfl) (by kernel_rfl) (by kernel_rfl) (fun _ _ _ h=>h) (Or.inl ⟨by kernel_rfl,fun W _=>by kernel_rfl⟩) (by assumption) ?_;refine wpAnyH_take (i:=15) (oi:=⟨some 40,_,_,_,_,_⟩) (v:=.bool true) rfl (by kernel_rfl) (by kernel_rfl) (by kernel_rfl) (fun _ _ _ h=>h) (Or.inl ⟨by kernel_rfl,fun W _=>by kernel_rfl⟩) (by assumption) ?_;refine wpAnyH_take (i:=16) (oi:=⟨some 41,_,_,_,_,_⟩) (v:=.bool true) rfl (by kernel_rfl) (by kernel_rfl) (by kernel_rfl) (fun _ _ _ h=>h) (Or.inl ⟨by kernel_rfl,fun W _=>by kernel_rfl⟩) (by assumption) ?_;refine wpAnyH_take (i:=17) (oi:=⟨some 42,_,_,_,_,_⟩) (v:=.bool true) rfl (by kernel_rfl) (by kernel_rfl) (by kernel_rfl) (fun _ _ _ h=>h) (Or.inl ⟨by kernel_rfl,fun W _=>by kernel_rfl⟩) (by assumption) ?_
 refine wpAnyH_take (i:=18) (oi:=⟨some 43,_,_,_,_,_⟩) (v:=.string st) rfl (by kernel_rfl) (by kernel_rfl) (by kernel_rfl) (fun _ _ _ h=>h) (Or.inl ⟨by kernel_rfl,fun W _=>by kernel_rfl⟩) (by assumption) ?_;refine wpAnyH_take (i:=19) (oi:=⟨some 44,_,_,_,_,_⟩) (v:=.int .i64 519) rfl (by kernel_rfl) (by kernel_rfl) (by kernel_rfl) (fun _ _ _ h=>h) (Or.inl ⟨by kernel_rfl,fun W _=>by go_simp⟩) (by assumption) ?_;refine wpAnyH_take (i:=20) (oi:=⟨some 45,_,_,_,_,_⟩) (v:=.bool true) rfl (by kernel_rfl) (by kernel_rfl) (by kernel_rfl) (fun _ _ _ h=>h) (Or.inl ⟨by kernel_rfl,fun W _=>by kernel_rfl⟩) (by assumption) ?_;refine wpAnyH_take (i:=21) (oi:=⟨some 46,_,_,_,_,_⟩) (v:=.bool true) rfl (by kernel_rfl) (by kernel_rfl) (by kernel_rfl) (fun _ _ _ h=>h) (Or.inl ⟨by kernel_rfl,fun W _=>by kernel_rfl⟩) (by assumption) ?_;refine wpAnyH_take (i:=22) (oi:=⟨some 47,_,_,_,_,_⟩) (v:=.bool true) rfl (by kernel_rfl) (by kernel_rfl) (by kernel_rfl) (fun _ _ _ h=>h) (Or.inl ⟨by kernel_rfl,fun W _=>by kernel_rfl⟩) (by assumption) ?_
 refine wpAnyH_take (i:=23) (oi:=⟨some 48,_,_,_,_,_⟩) (v:=.agg #[.string o.name,.slice x1 o.uses.length y1,.int .i64 o.data,.slice x3 o.code.length y3,.slice x4 o.fixes.length y4,.slice x5 o.entries.length y5,.int .i64 o.main]) rfl (by kernel_rfl) (by kernel_rfl) (by kernel_rfl) (fun _ _ _ h=>h) (Or.inl ⟨by kernel_rfl,fun W hSW=>by (obtain ⟨s0,s1,s2,s3,s4,s5,s6⟩:=hSW;go_simp)⟩) (by assumption) ?_;refine wpAnyH_ready (rs:=[24]) (by kernel_rfl) (by simp) ?_;refine AllReadyH.cons rfl (fun K hK=>?_) AllReadyH.nil;go_simp
 go_wp2_with (go_at_call 85;refine (HT.out _).mono ?_;rintro e w8 ⟨b8,off8,s1,t1,s3,t3,s4,t4,s5,t5,_,_,_,_,_,_,_,_,rfl,⟨hO8,_⟩,_,hb8⟩;have D8:=hid (thenB D7.out hb8);have HS8:=hid hO8.ov;obtain ⟨z8,f0,f1,f2,f3,f4,f5,f6,_⟩:=hO8;clear hb8 FF;have FF:=hid (HX.out _ D8.out))
 refine hK.out _ _ FF.out (fun hHeld=>?_);clear hK K;refine wpAnyH_take (i:=25) (oi:=⟨some 50,_,_,_,_,_⟩) (v:=.pointer (some ⟨b8,off8,none⟩)) rfl (by kernel_rfl) (by kernel_rfl) (by kernel_rfl) (fun _ _ _ h=>h) (Or.inl ⟨by kernel_rfl,fun W _=>by kernel_rfl⟩) (by assumption) ?_;refine wpAnyH_ready (rs:=[26]) (by kernel_rfl) (by simp) ?_;refine AllReadyH.cons rfl (fun K hK=>?_) AllReadyH.nil;go_simp
 go_wp2_with (fail)
 refine hK.out _ _ FF.out (fun hHeld=>?_);clear hK K;clear z8 f0 f1 f2 f3 f4 f5 f6;refine wpAnyH_ready (rs:=[27]) (by kernel_rfl) (by simp) ?_;refine AllReadyH.cons rfl (fun K hK=>?_) AllReadyH.nil;go_simp
 go_wp2_with (go_at_call 38;refine (zc5 o x1 y1 x3 y3 x4 y4 x5 y5 _ _ _ _ _ _ _ _ _ (HO4.out.later D8.out) HS8.out).mono ?_;rintro e w9 ⟨rfl,hb9⟩;have D9:=hid (thenB D8.out hb9);clear hb9 FF;have FF:=hid (HX.out _ D9.out))
 refine hK.out _ _ FF.out (fun hHeld=>?_);clear hK K;refine wpAnyH_take (i:=28) (oi:=⟨some 53,_,_,_,_,_⟩) (v:=.bool true) rfl (by kernel_rfl) (by kernel_rfl) (by kernel_rfl) (fun _ _ _ h=>h) (Or.inl ⟨by kernel_rfl,fun W _=>by kernel_rfl⟩) (by assumption) ?_;refine wpAnyH_take (i:=29) (oi:=⟨some 0,_,_,_,_,_⟩) (v:=.bool true) rfl (by kernel_rfl) (by kernel_rfl) (by kernel_rfl) (fun _ _ _ h=>h) (Or.inl ⟨by kernel_rfl,fun W _=>by kernel_rfl⟩) (by assumption) ?_;refine wpAnyH_done (by kernel_rfl) ?_ _
 try simp only [Act.put,van,vat,vau]
 go_wp2_with fail;go_ret;exact ⟨rfl,thenB HB4.out D9.out⟩
def zzc:L8:=objB zu5
theorem z73:wrO zu5=(zzc,0):=by kernel_rfl
theorem z56:zzc.length=519:=by kernel_rfl
theorem z74:rdO zzc=some zu5:=by kernel_rfl
theorem z75:rdO (zzc++[120])=none:=by kernel_rfl
theorem z57:oChk z1w=0:=by kernel_rfl
theorem zg0 (w:World):Calls Tryz.prog 33 #[] w fun e w'=>e = .returned (.bool true)/\Below w.heap.size w w':=
 zry zu5 z1w zzc zu9 z57 z73 z74 z75 z56 w
end Go.Proofs.YtndkhgakfodldaaGreatDoor
