import Derived.Test.YtndkhgakfodldaaGreatDoorLeaf
import Derived.Shelf.Abstract
import Derived.Handy
namespace Go.Proofs.YtndkhgakfodldaaGreatDoor
set_option maxRecDepth 100000
set_option maxHeartbeats 400000
namespace Fx
open Go.RowKit Go.Shelf
theorem hid {p:Prop} (h:p):Hid p:=h
theorem zio (s:ByteArray) (w:World) (hs:s.size<=maxLen) :
 qc 160 #[.agg #[qi 1,qi 0,.string s]] w fun e w'=>e = .returned (.bool (nameOk s))/\qb w w':=by
 go_enter Tryz.func160,Tryz.ntmps160
 go_wp2_with (go_at_call 202;refine (zeu s _ hs).mono ?_;rintro e w' ⟨rfl,rfl⟩)
 go_ret;exact ⟨rfl,(Below.refl _ _).alloc (vaa _) _⟩
theorem zlv (s:ByteArray) (b:Nat) (w:World) (hs:s.size<=maxLen) (hb:b<w.heap.size) (h0:w.cell? (qa b 0)=some (qi 1)) (h1:w.cell? (qa b 1)=some (qi 0)) (h2:w.cell? (qa b 2)=some (.string s)) (hn:nameOk s=true) :
 qc 116 #[.slice (some (qa b 0)) 1 1] w fun e w'=>e = .returned (qi 0)/\qb w w':=by
 have H0:=hid h0;have H1:=hid h1;have H2:=hid h2
 have HC:Hid (∀ W,qc 160 #[.agg #[qi 1,qi 0,.string s]] W fun e w'=>e = .returned (.bool true)/\qb W w'):=fun W=>by
  have:=zio s W hs;rw [hn] at this;exact this
 clear h0 h1 h2 hn;go_enter Tryz.func116,Tryz.ntmps116;go_wp2_with fail
 go_loopw [9,4] (fun i _ wr=>∃ k:Nat,k<=1/\i=qi k/\qb w wr) (fun i _ _=>1 - (intOf i).toNat)
 case atStart=>exact ⟨0,vae _,rfl,Below.refl _ _⟩
 case round=>
  obtain ⟨k,hk,rfl,Au⟩:=hrel
  by_cases A0:k<1
  . obtain rfl:k=0:=by omega
    have h0:=(Au.cell (p:=(qa b 0)) hb).trans H0.out;have h1:=(Au.cell (p:=(qa b 1)) hb).trans H1.out;have h2:=(Au.cell (p:=(qa b 2)) hb).trans H2.out;have AZ:b<wr.heap.size:=vah hb Au.size;go_wp2_with fail;go_roundw
    case rel=>exact ⟨1,by omega,rfl,Au.alloc Au.size _⟩
    case measure=>simp [intOf]
  . go_wp2_with fail
    go_loopw [24,6] (fun i _ wr=>∃ k:Nat,k<=1/\i=qi k/\Hid (k<=2)/\qb w wr) (fun i _ _=>1 - (intOf i).toNat)
    case atStart=>exact ⟨0,vae _,rfl,(by decide:0<=2),Au⟩
    case round=>
     obtain ⟨k,hk,rfl, -,A5⟩:=hrel
     by_cases A0:k<1
     . obtain rfl:k=0:=by omega
       have h0:=(A5.cell (p:=(qa b 0)) hb).trans H0.out;have h1:=(A5.cell (p:=(qa b 1)) hb).trans H1.out;have h2:=(A5.cell (p:=(qa b 2)) hb).trans H2.out;have AZ:b<wr.heap.size:=vah hb A5.size
       go_wp2_with (go_at_call 160;refine (HC.out _).mono ?_;rintro e w' ⟨rfl,Aa⟩)
       go_roundw
       case rel=>exact ⟨1,by omega,rfl,(by decide:1<=2),(A5.alloc A5.size _).trans (Aa.mono (by have:=A5.size;simp;omega))⟩
       case measure=>simp [intOf]
     . obtain rfl:k=1:=by omega
       go_wp2_with fail;go_ret;exact ⟨rfl,A5⟩
theorem zoi (s:ByteArray) (b:Nat) (w:World) (hs:s.size<=maxLen) (hb:b<w.heap.size) (h0:w.cell? (qa b 0)=some (qi 1)) (h1:w.cell? (qa b 1)=some (qi 0)) (h2:w.cell? (qa b 2)=some (.string s)) (hn:nameOk s=false) :
 qc 116 #[.slice (some (qa b 0)) 1 1] w fun e w'=>e = .returned (qi 1)/\qb w w':=by
 have H0:=hid h0;have H1:=hid h1;have H2:=hid h2
 have HC:Hid (∀ W,qc 160 #[.agg #[qi 1,qi 0,.string s]] W fun e w'=>e = .returned (.bool false)/\qb W w'):=fun W=>by
  have:=zio s W hs;rw [hn] at this;exact this
 clear h0 h1 h2 hn;go_enter Tryz.func116,Tryz.ntmps116;go_wp2_with fail
 go_loopw [9,4] (fun i _ wr=>∃ k:Nat,k<=1/\i=qi k/\qb w wr) (fun i _ _=>1 - (intOf i).toNat)
 case atStart=>exact ⟨0,vae _,rfl,Below.refl _ _⟩
 case round=>
  obtain ⟨k,hk,rfl,Au⟩:=hrel
  by_cases A0:k<1
  . obtain rfl:k=0:=by omega
    have h0:=(Au.cell (p:=(qa b 0)) hb).trans H0.out;have h1:=(Au.cell (p:=(qa b 1)) hb).trans H1.out;have h2:=(Au.cell (p:=(qa b 2)) hb).trans H2.out;have AZ:b<wr.heap.size:=vah hb Au.size;go_wp2_with fail;go_roundw
    case rel=>exact ⟨1,by omega,rfl,Au.alloc Au.size _⟩
    case measure=>simp [intOf]
  . go_wp2_with fail
    go_loopw [24,6] (fun i _ wr=>∃ k:Nat,k<=1/\i=qi k/\k=0/\qb w wr) (fun i _ _=>1 - (intOf i).toNat)
    case atStart=>exact ⟨0,vae _,rfl,rfl,Au⟩
    case round=>
     obtain ⟨k,hk,rfl,GG,A5⟩:=hrel;subst GG;have h0:=(A5.cell (p:=(qa b 0)) hb).trans H0.out;have h1:=(A5.cell (p:=(qa b 1)) hb).trans H1.out;have h2:=(A5.cell (p:=(qa b 2)) hb).trans H2.out;have AZ:b<wr.heap.size:=vah hb A5.size
     go_wp2_with (go_at_call 160;refine (HC.out _).mono ?_;rintro e w' ⟨rfl,Aa⟩)
     go_ret;exact ⟨rfl,(A5.alloc A5.size _).trans (Aa.mono (by have:=A5.size;simp;omega))⟩
theorem zc0 (s:ByteArray) (w:World) (hs:s.size<=maxLen) :
 qc 58 #[.string s] w fun e w'=>e = .returned (.bool (nameOk s))/\qb w w':=by
 cases hn:nameOk s with
 | true=>
   have HC:=hid (zlv s w.heap.size (w.alloc (.cells #[qi 1,qi 0,.string s] 184)) hs (by simp) (by simp) (by simp) (by simp) hn);clear hn;go_enter Tryz.func58,Tryz.ntmps58;go_wp2_with fail;refine HC.out.mono ?_;rintro e w' ⟨rfl,hb⟩;go_wp2_with fail;go_ret;exact ⟨rfl,((Below.refl _ _).alloc (vaa _) _).trans (hb.mono (by simp))⟩
 | false=>
   have HC:=hid (zoi s w.heap.size (w.alloc (.cells #[qi 1,qi 0,.string s] 184)) hs (by simp) (by simp) (by simp) (by simp) hn);clear hn;go_enter Tryz.func58,Tryz.ntmps58;go_wp2_with fail;refine HC.out.mono ?_;rintro e w' ⟨rfl,hb⟩;go_wp2_with fail;go_ret;exact ⟨rfl,((Below.refl _ _).alloc (vaa _) _).trans (hb.mono (by simp))⟩
end Fx
set_option maxHeartbeats 800000
namespace Fx
open Go.RowKit Go.Shelf
set_option linter.unusedSimpArgs false
def It.val (i:It):Value:=.agg #[qi i.kind,qi i.n,qi i.at_,.string i.name]
theorem bel {w w':World} {o:Obj} (hb:Below (w.alloc o).heap.size (w.alloc o) w'):qb w w':=((Below.refl _ _).alloc (vaa _) _).trans (hb.mono (by simp))
theorem zse (n at_:Int) (s:ByteArray) (w:World) (hs:s.size<=maxLen) :
 qc 61 #[.agg #[qi 1,qi n,qi at_,.string s]] w fun e w'=>e = .returned (.bool (nameOk s&&(decide (0<=n)&&decide (n<=1099511627775)&&decide (0<=at_)&&decide (at_<=0))))/\qb w w':=by
 have HN:Hid (∀ W,qc 58 #[.string s] W fun e w'=>e = .returned (.bool (nameOk s))/\qb W w'):=fun W=>zc0 s W hs
 generalize nameOk s=nb at *;generalize hR:(nb&&_)=R;have HR:=hid hR;clear hR
 have hf:∀ (w':World) (o:Obj),Below (w.alloc o).heap.size (w.alloc o) w'->(∀ j,w'.cell? (qa w.heap.size j)=(w.alloc o).cell? (qa w.heap.size j)):=fun w' o hb j=>hb.cell (p:=(qa w.heap.size j)) (by simp)
 have EQ:=hid hf;clear hf
 cases nb with
 | false=>
   go_enter Tryz.func61,Tryz.ntmps61;go_wp2_with fail;refine (HN.out _).mono ?_;rintro e w' ⟨rfl,hb⟩;have HB:=hid (bel hb);clear hb;go_wp2_with fail;go_ret;exact ⟨ret_bool HR.out,HB.out⟩
 | true=>
   go_enter Tryz.func61,Tryz.ntmps61;go_wp2_with fail;refine (HN.out _).mono ?_;rintro e w' ⟨rfl,hb⟩;have HB:=hid (bel hb);have e1:w'.cell? (qa w.heap.size 1)=some (qi n):=(EQ.out _ _ hb 1).trans (by simp);have e2:w'.cell? (qa w.heap.size 2)=some (qi at_):=(EQ.out _ _ hb 2).trans (by simp);clear hb
   by_cases h1:0<=n
   . by_cases h2:n<=1099511627775
     . by_cases h3:0<=at_
       . by_cases h4:at_<=0
         . go_wp2_with fail
           go_ret;exact ⟨ret_bool (by rw [← HR.out];first | (simp;omega) | (simp;done) | (simp [*];done)),HB.out⟩
         . go_wp2_with fail
           go_ret;exact ⟨ret_bool (by rw [← HR.out];first | (simp;omega) | (simp;done) | (simp [*];done)),HB.out⟩
       . go_wp2_with fail
         go_ret;exact ⟨ret_bool (by rw [← HR.out];first | (simp;omega) | (simp;done) | (simp [*];done)),HB.out⟩
     . go_wp2_with fail
       go_ret;exact ⟨ret_bool (by rw [← HR.out];first | (simp;omega) | (simp;done) | (simp [*];done)),HB.out⟩
   . go_wp2_with fail
     go_ret;exact ⟨ret_bool (by rw [← HR.out];first | (simp;omega) | (simp;done) | (simp [*];done)),HB.out⟩
theorem zsf (n at_:Int) (s:ByteArray) (w:World) (hs:s.size<=maxLen) :
 qc 61 #[.agg #[qi 2,qi n,qi at_,.string s]] w fun e w'=>e = .returned (.bool (nameOk s&&(decide (0<=n)&&decide (n<=0)&&decide (0<=at_)&&decide (at_<=320))))/\qb w w':=by
 have HN:Hid (∀ W,qc 58 #[.string s] W fun e w'=>e = .returned (.bool (nameOk s))/\qb W w'):=fun W=>zc0 s W hs
 generalize nameOk s=nb at *;generalize hR:(nb&&_)=R;have HR:=hid hR;clear hR
 have hf:∀ (w':World) (o:Obj),Below (w.alloc o).heap.size (w.alloc o) w'->(∀ j,w'.cell? (qa w.heap.size j)=(w.alloc o).cell? (qa w.heap.size j)):=fun w' o hb j=>hb.cell (p:=(qa w.heap.size j)) (by simp)
 have EQ:=hid hf;clear hf
 cases nb with
 | false=>
   go_enter Tryz.func61,Tryz.ntmps61;go_wp2_with fail;refine (HN.out _).mono ?_;rintro e w' ⟨rfl,hb⟩;have HB:=hid (bel hb);clear hb;go_wp2_with fail;go_ret;exact ⟨ret_bool HR.out,HB.out⟩
 | true=>
   go_enter Tryz.func61,Tryz.ntmps61;go_wp2_with fail;refine (HN.out _).mono ?_;rintro e w' ⟨rfl,hb⟩;have HB:=hid (bel hb);have e1:w'.cell? (qa w.heap.size 1)=some (qi n):=(EQ.out _ _ hb 1).trans (by simp);have e2:w'.cell? (qa w.heap.size 2)=some (qi at_):=(EQ.out _ _ hb 2).trans (by simp);clear hb
   by_cases h1:0<=n
   . by_cases h2:n<=0
     . by_cases h3:0<=at_
       . by_cases h4:at_<=320
         . go_wp2_with fail
           go_ret;exact ⟨ret_bool (by rw [← HR.out];first | (simp;omega) | (simp;done) | (simp [*];done)),HB.out⟩
         . go_wp2_with fail
           go_ret;exact ⟨ret_bool (by rw [← HR.out];first | (simp;omega) | (simp;done) | (simp [*];done)),HB.out⟩
       . go_wp2_with fail
         go_ret;exact ⟨ret_bool (by rw [← HR.out];first | (simp;omega) | (simp;done) | (simp [*];done)),HB.out⟩
     . go_wp2_with fail
       go_ret;exact ⟨ret_bool (by rw [← HR.out];first | (simp;omega) | (simp;done) | (simp [*];done)),HB.out⟩
   . go_wp2_with fail
     go_ret;exact ⟨ret_bool (by rw [← HR.out];first | (simp;omega) | (simp;done) | (simp [*];done)),HB.out⟩
theorem zsg (n at_:Int) (s:ByteArray) (w:World) (hs:s.size<=maxLen) :
 qc 61 #[.agg #[qi 3,qi n,qi at_,.string s]] w fun e w'=>e = .returned (.bool (nameOk s&&(decide (1<=n)&&decide (n<=32)&&decide (0<=at_)&&decide (at_<=320))))/\qb w w':=by
 have HN:Hid (∀ W,qc 58 #[.string s] W fun e w'=>e = .returned (.bool (nameOk s))/\qb W w'):=fun W=>zc0 s W hs
 generalize nameOk s=nb at *;generalize hR:(nb&&_)=R;have HR:=hid hR;clear hR
 have hf:∀ (w':World) (o:Obj),Below (w.alloc o).heap.size (w.alloc o) w'->(∀ j,w'.cell? (qa w.heap.size j)=(w.alloc o).cell? (qa w.heap.size j)):=fun w' o hb j=>hb.cell (p:=(qa w.heap.size j)) (by simp)
 have EQ:=hid hf;clear hf
 cases nb with
 | false=>
   go_enter Tryz.func61,Tryz.ntmps61;go_wp2_with fail;refine (HN.out _).mono ?_;rintro e w' ⟨rfl,hb⟩;have HB:=hid (bel hb);clear hb;go_wp2_with fail;go_ret;exact ⟨ret_bool HR.out,HB.out⟩
 | true=>
   go_enter Tryz.func61,Tryz.ntmps61;go_wp2_with fail;refine (HN.out _).mono ?_;rintro e w' ⟨rfl,hb⟩;have HB:=hid (bel hb);have e1:w'.cell? (qa w.heap.size 1)=some (qi n):=(EQ.out _ _ hb 1).trans (by simp);have e2:w'.cell? (qa w.heap.size 2)=some (qi at_):=(EQ.out _ _ hb 2).trans (by simp);clear hb
   by_cases h1:1<=n
   . by_cases h2:n<=32
     . by_cases h3:0<=at_
       . by_cases h4:at_<=320
         . go_wp2_with fail
           go_ret;exact ⟨ret_bool (by rw [← HR.out];first | (simp;omega) | (simp;done) | (simp [*];done)),HB.out⟩
         . go_wp2_with fail
           go_ret;exact ⟨ret_bool (by rw [← HR.out];first | (simp;omega) | (simp;done) | (simp [*];done)),HB.out⟩
       . go_wp2_with fail
         go_ret;exact ⟨ret_bool (by rw [← HR.out];first | (simp;omega) | (simp;done) | (simp [*];done)),HB.out⟩
     . go_wp2_with fail
       go_ret;exact ⟨ret_bool (by rw [← HR.out];first | (simp;omega) | (simp;done) | (simp [*];done)),HB.out⟩
   . go_wp2_with fail
     go_ret;exact ⟨ret_bool (by rw [← HR.out];first | (simp;omega) | (simp;done) | (simp [*];done)),HB.out⟩
theorem zsh (n at_:Int) (s:ByteArray) (w:World) (hs:s.size<=maxLen) :
 qc 61 #[.agg #[qi 4,qi n,qi at_,.string s]] w fun e w'=>e = .returned (.bool (nameOk s&&(decide (0<=n)&&decide (n<=3)&&decide (0<=at_)&&decide (at_<=320))))/\qb w w':=by
 have HN:Hid (∀ W,qc 58 #[.string s] W fun e w'=>e = .returned (.bool (nameOk s))/\qb W w'):=fun W=>zc0 s W hs
 generalize nameOk s=nb at *;generalize hR:(nb&&_)=R;have HR:=hid hR;clear hR
 have hf:∀ (w':World) (o:Obj),Below (w.alloc o).heap.size (w.alloc o) w'->(∀ j,w'.cell? (qa w.heap.size j)=(w.alloc o).cell? (qa w.heap.size j)):=fun w' o hb j=>hb.cell (p:=(qa w.heap.size j)) (by simp)
 have EQ:=hid hf;clear hf
 cases nb with
 | false=>
   go_enter Tryz.func61,Tryz.ntmps61;go_wp2_with fail;refine (HN.out _).mono ?_;rintro e w' ⟨rfl,hb⟩;have HB:=hid (bel hb);clear hb;go_wp2_with fail;go_ret;exact ⟨ret_bool HR.out,HB.out⟩
 | true=>
   go_enter Tryz.func61,Tryz.ntmps61;go_wp2_with fail;refine (HN.out _).mono ?_;rintro e w' ⟨rfl,hb⟩;have HB:=hid (bel hb);have e1:w'.cell? (qa w.heap.size 1)=some (qi n):=(EQ.out _ _ hb 1).trans (by simp);have e2:w'.cell? (qa w.heap.size 2)=some (qi at_):=(EQ.out _ _ hb 2).trans (by simp);clear hb
   by_cases h1:0<=n
   . by_cases h2:n<=3
     . by_cases h3:0<=at_
       . by_cases h4:at_<=320
         . go_wp2_with fail
           go_ret;exact ⟨ret_bool (by rw [← HR.out];first | (simp;omega) | (simp;done) | (simp [*];done)),HB.out⟩
         . go_wp2_with fail
           go_ret;exact ⟨ret_bool (by rw [← HR.out];first | (simp;omega) | (simp;done) | (simp [*];done)),HB.out⟩
       . go_wp2_with fail
         go_ret;exact ⟨ret_bool (by rw [← HR.out];first | (simp;omega) | (simp;done) | (simp [*];done)),HB.out⟩
     . go_wp2_with fail
       go_ret;exact ⟨ret_bool (by rw [← HR.out];first | (simp;omega) | (simp;done) | (simp [*];done)),HB.out⟩
   . go_wp2_with fail
     go_ret;exact ⟨ret_bool (by rw [← HR.out];first | (simp;omega) | (simp;done) | (simp [*];done)),HB.out⟩
theorem zoj (i:It) (w:World) (hs:i.name.size<=maxLen) :
 qc 61 #[i.val] w fun e w'=>e = .returned (.bool (zfi i))/\qb w w':=by
 obtain ⟨kind,n,at_,s⟩:=i
 by_cases k1:kind=1
 . subst k1
   refine (zse n at_ s w hs).mono fun e w' ⟨h1,h2⟩=>⟨h1.trans (ret_bool ?_),h2⟩
   show _=(nameOk s&&numOkB ⟨1,n,at_,s⟩);simp only [numOkB,if_true]
   congr 1
   rw [vcj];simp only [vab,decide_eq_true_eq];omega
 by_cases k2:kind=2
 . subst k2
   refine (zsf n at_ s w hs).mono fun e w' ⟨h1,h2⟩=>⟨h1.trans (ret_bool ?_),h2⟩
   show _=(nameOk s&&numOkB ⟨2,n,at_,s⟩)
   congr 1
   rw [vcj];simp [numOkB];omega
 by_cases k3:kind=3
 . subst k3
   refine (zsg n at_ s w hs).mono fun e w' ⟨h1,h2⟩=>⟨h1.trans (ret_bool ?_),h2⟩
   show _=(nameOk s&&numOkB ⟨3,n,at_,s⟩)
   congr 1
 by_cases k4:kind=4
 . subst k4
   refine (zsh n at_ s w hs).mono fun e w' ⟨h1,h2⟩=>⟨h1.trans (ret_bool ?_),h2⟩
   show _=(nameOk s&&numOkB ⟨4,n,at_,s⟩)
   congr 1
 have HF:Hid (zfi ⟨kind,n,at_,s⟩=false):=by
  show (nameOk s&&numOkB ⟨kind,n,at_,s⟩)=false;simp [numOkB,k1,k2,k3,k4]
 have b1:(kind == 1)=false:=beq_eq_false_iff_ne.2 k1;have b2:(kind == 2)=false:=beq_eq_false_iff_ne.2 k2;have b3:(kind == 3)=false:=beq_eq_false_iff_ne.2 k3;have b4:(kind == 4)=false:=beq_eq_false_iff_ne.2 k4;clear k1 k2 k3 k4;unfold It.val;go_enter Tryz.func61,Tryz.ntmps61;go_wp2_with fail;go_ret;exact ⟨ret_bool HF.out.symm,(Below.refl _ _).alloc (vaa _) _⟩
structure ItCells (w:World) (b off:Nat) (l:List It):Prop where
 lt:b<w.heap.size
 kind:∀ i (h:i<l.length),w.cell? ⟨b,off+i*4,none⟩=some (qi l[i].kind)
 num:∀ i (h:i<l.length),w.cell? ⟨b,off+i*4+1,none⟩=some (qi l[i].n)
 at_:∀ i (h:i<l.length),w.cell? ⟨b,off+i*4+2,none⟩=some (qi l[i].at_)
 name:∀ i (h:i<l.length),w.cell? ⟨b,off+i*4+3,none⟩=some (.string l[i].name)
def zcj (w:World) (a:OA) (l:List It):Prop:=l=[]\/∃ b off,a=some (qa b off)/\ItCells w b off l
def AllFit (l:List It):Prop:=∀ i ∈ l,i.name.size<=maxLen
theorem ItCells.below {B:Nat} {w w':World} {b off:Nat} {l:List It} (h:ItCells w b off l) (hb:Below B w w') (hB:b<B):ItCells w' b off l:=
 ⟨vah h.lt hb.size,fun i hi=>(hb.cell (p:=⟨b,off+i*4,none⟩) hB).trans (h.kind i hi),fun i hi=>(hb.cell (p:=⟨b,off+i*4+1,none⟩) hB).trans (h.num i hi),fun i hi=>(hb.cell (p:=⟨b,off+i*4+2,none⟩) hB).trans (h.at_ i hi),fun i hi=>(hb.cell (p:=⟨b,off+i*4+3,none⟩) hB).trans (h.name i hi)⟩
theorem zcj.later {w w':World} {a:OA} {l:List It} (h:zcj w a l) (hb:qb w w'):zcj w' a l:=by
 rcases h with h | ⟨b,off,e,h⟩
 . exact Or.inl h
 . exact Or.inr ⟨b,off,e,h.below hb h.lt⟩
theorem zcj.place {w:World} {a:OA} {l:List It} (h:zcj w a l) {k:Nat} (hk:k<l.length):∃ b off,a=some (qa b off)/\b<w.heap.size/\w.cell? ⟨b,off+k*4,none⟩=some (qi l[k].kind)/\w.cell? ⟨b,off+k*4+1,none⟩=some (qi l[k].n)/\w.cell? ⟨b,off+k*4+2,none⟩=some (qi l[k].at_)/\w.cell? ⟨b,off+k*4+3,none⟩=some (.string l[k].name):=by
 rcases h with h | ⟨b,off,e,h⟩
 . subst h;simp at hk
 . exact ⟨b,off,e,h.lt,h.kind k hk,h.num k hk,h.at_ k hk,h.name k hk⟩
end Fx
end Go.Proofs.YtndkhgakfodldaaGreatDoor
