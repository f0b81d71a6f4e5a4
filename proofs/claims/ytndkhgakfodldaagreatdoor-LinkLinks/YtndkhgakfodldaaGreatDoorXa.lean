import Derived.Test.YtndkhgakfodldaaGreatDoorLeaf
import Derived.Shelf.Abstract
import Derived.Handy
set_option maxRecDepth 100000
set_option maxHeartbeats 800000
set_option linter.unusedSimpArgs false
open Go.Proofs.Tryz
namespace Go.Proofs.YtndkhgakfodldaaGreatDoor
namespace Fx
open Go.RowKit Go.Shelf
variable {a:OA} {w r:World}
theorem hid {p:Prop} (h:p):Hid p:=h
theorem B9 (s:ByteArray) (w:World) (Z:s.size<=maxLen) :
 ew 160 #[.agg #[em 1,em 0,.string s]] w fun e r=>e = .returned (.bool (nameOk s))/\et w r:=by
 go_enter func160,ntmps160
 go_wp2_with (go_at_call 202;refine (r3 s _ Z).mono ?_;rintro e r ⟨rfl,rfl⟩)
 go_ret;exact ⟨rfl,(Below.refl _ _).alloc (eD _) _⟩
theorem Jt (s:ByteArray) (b:Nat) (w:World) (Z:s.size<=maxLen) (F:b<w.heap.size) (a3:w.cell? (ep b 0)=some (em 1)) (G:w.cell? (ep b 1)=some (em 0)) (J:w.cell? (ep b 2)=some (.string s)) (U:nameOk s=true) :
 ew 116 #[.slice (some (ep b 0)) 1 1] w fun e r=>e = .returned (em 0)/\et w r:=by
 have c:=hid a3;have aP:=hid G;have ac:=hid J
 have ao:Hid (∀ M,ew 160 #[.agg #[em 1,em 0,.string s]] M fun e r=>e = .returned (.bool true)/\et M r):=fun M=>by
  have:=B9 s M Z;rw [U] at this;exact this
 clear a3 G J U;go_enter func116,ntmps116;go_wp2_with fail
 go_loopw [9,4] (fun i _ wr=>∃ k:Nat,k<=1/\i=em k/\et w wr) (fun i _ _=>1 - (intOf i).toNat)
 case atStart=>exact ⟨0,eY _,rfl,Below.refl _ _⟩
 case round=>
  obtain ⟨k,N,rfl,ap⟩:=hrel
  by_cases a0:k<1
  . obtain rfl:k=0:=by omega
    have a3:=(ap.cell (p:=(ep b 0)) F).trans c;have G:=(ap.cell (p:=(ep b 1)) F).trans aP;have J:=(ap.cell (p:=(ep b 2)) F).trans ac;have aJ:b<wr.heap.size:=gl F ap.size;go_wp2_with fail;go_roundw
    case rel=>exact ⟨1,by omega,rfl,ap.alloc ap.size _⟩
    case measure=>simp [intOf]
  . go_wp2_with fail
    go_loopw [24,6] (fun i _ wr=>∃ k:Nat,k<=1/\i=em k/\Hid (k<=2)/\et w wr) (fun i _ _=>1 - (intOf i).toNat)
    case atStart=>exact ⟨0,eY _,rfl,(by decide:0<=2),ap⟩
    case round=>
     obtain ⟨k,N,rfl, -,ai⟩:=hrel
     by_cases a0:k<1
     . obtain rfl:k=0:=by omega
       have a3:=(ai.cell (p:=(ep b 0)) F).trans c;have G:=(ai.cell (p:=(ep b 1)) F).trans aP;have J:=(ai.cell (p:=(ep b 2)) F).trans ac;have aJ:b<wr.heap.size:=gl F ai.size
       go_wp2_with (go_at_call 160;refine (ao _).mono ?_;rintro e r ⟨rfl,aB⟩)
       go_roundw
       case rel=>exact ⟨1,by omega,rfl,(by decide:1<=2),(ai.alloc ai.size _).trans (aB.mono (by have:=ai.size;simp;omega))⟩
       case measure=>simp [intOf]
     . obtain rfl:k=1:=by omega
       go_wp2_with fail;go_ret;exact ⟨rfl,ai⟩
theorem Ju (s:ByteArray) (b:Nat) (w:World) (Z:s.size<=maxLen) (F:b<w.heap.size) (a3:w.cell? (ep b 0)=some (em 1)) (G:w.cell? (ep b 1)=some (em 0)) (J:w.cell? (ep b 2)=some (.string s)) (U:nameOk s=false) :
 ew 116 #[.slice (some (ep b 0)) 1 1] w fun e r=>e = .returned (em 1)/\et w r:=by
 have c:=hid a3;have aP:=hid G;have ac:=hid J
 have ao:Hid (∀ M,ew 160 #[.agg #[em 1,em 0,.string s]] M fun e r=>e = .returned (.bool false)/\et M r):=fun M=>by
  have:=B9 s M Z;rw [U] at this;exact this
 clear a3 G J U;go_enter func116,ntmps116;go_wp2_with fail
 go_loopw [9,4] (fun i _ wr=>∃ k:Nat,k<=1/\i=em k/\et w wr) (fun i _ _=>1 - (intOf i).toNat)
 case atStart=>exact ⟨0,eY _,rfl,Below.refl _ _⟩
 case round=>
  obtain ⟨k,N,rfl,ap⟩:=hrel
  by_cases a0:k<1
  . obtain rfl:k=0:=by omega
    have a3:=(ap.cell (p:=(ep b 0)) F).trans c;have G:=(ap.cell (p:=(ep b 1)) F).trans aP;have J:=(ap.cell (p:=(ep b 2)) F).trans ac;have aJ:b<wr.heap.size:=gl F ap.size;go_wp2_with fail;go_roundw
    case rel=>exact ⟨1,by omega,rfl,ap.alloc ap.size _⟩
    case measure=>simp [intOf]
  . go_wp2_with fail
    go_loopw [24,6] (fun i _ wr=>∃ k:Nat,k<=1/\i=em k/\k=0/\et w wr) (fun i _ _=>1 - (intOf i).toNat)
    case atStart=>exact ⟨0,eY _,rfl,rfl,ap⟩
    case round=>
     obtain ⟨k,N,rfl,l,ai⟩:=hrel;subst l;have a3:=(ai.cell (p:=(ep b 0)) F).trans c;have G:=(ai.cell (p:=(ep b 1)) F).trans aP;have J:=(ai.cell (p:=(ep b 2)) F).trans ac;have aJ:b<wr.heap.size:=gl F ai.size
     go_wp2_with (go_at_call 160;refine (ao _).mono ?_;rintro e r ⟨rfl,aB⟩)
     go_ret;exact ⟨rfl,(ai.alloc ai.size _).trans (aB.mono (by have:=ai.size;simp;omega))⟩
theorem sP (s:ByteArray) (w:World) (Z:s.size<=maxLen) :
 ew 58 #[.string s] w fun e r=>e = .returned (.bool (nameOk s))/\et w r:=by
 cases U:nameOk s with
 | true=>
   have ao:=hid (Jt s w.heap.size (w.alloc (.cells #[em 1,em 0,.string s] 184)) Z (by simp) (by simp) (by simp) (by simp) U);clear U;go_enter func58,ntmps58;go_wp2_with fail;refine ao.mono ?_;rintro e r ⟨rfl,F⟩;go_wp2_with fail;go_ret;exact ⟨rfl,((Below.refl _ _).alloc (eD _) _).trans (F.mono (by simp))⟩
 | false=>
   have ao:=hid (Ju s w.heap.size (w.alloc (.cells #[em 1,em 0,.string s] 184)) Z (by simp) (by simp) (by simp) (by simp) U);clear U;go_enter func58,ntmps58;go_wp2_with fail;refine ao.mono ?_;rintro e r ⟨rfl,F⟩;go_wp2_with fail;go_ret;exact ⟨rfl,((Below.refl _ _).alloc (eD _) _).trans (F.mono (by simp))⟩
open Go.RowKit Go.Shelf
def It.val (i:It):Value:=.agg #[em i.kind,em i.n,em i.at_,.string i.name]
theorem ni {o:Obj} (F:Below (w.alloc o).heap.size (w.alloc o) r):et w r:=((Below.refl _ _).alloc (eD _) _).trans (F.mono (by simp))
theorem Jv (n g:Int) (s:ByteArray) (w:World) (Z:s.size<=maxLen) :
 ew 61 #[.agg #[em 1,em n,em g,.string s]] w fun e r=>e = .returned (.bool (nameOk s&&(decide (0<=n)&&decide (n<=1099511627775)&&decide (0<=g)&&decide (g<=0))))/\et w r:=by
 have aF:Hid (∀ M,ew 58 #[.string s] M fun e r=>e = .returned (.bool (nameOk s))/\et M r):=fun M=>sP s M Z
 generalize nameOk s=x at *;generalize bb:(x&&_)=q;have z:=hid bb;clear bb
 have ag:∀ (r:World) (o:Obj),Below (w.alloc o).heap.size (w.alloc o) r->(∀ j,r.cell? (ep w.heap.size j)=(w.alloc o).cell? (ep w.heap.size j)):=fun r o F j=>F.cell (p:=(ep w.heap.size j)) (by simp)
 have a:=hid ag;clear ag
 cases x with
 | false=>
   go_enter func61,ntmps61;go_wp2_with fail;refine (aF _).mono ?_;rintro e r ⟨rfl,F⟩;have ad:=hid (ni F);clear F;go_wp2_with fail;go_ret;exact ⟨ret_bool z,ad⟩
 | true=>
   go_enter func61,ntmps61;go_wp2_with fail;refine (aF _).mono ?_;rintro e r ⟨rfl,F⟩;have ad:=hid (ni F);have aw:r.cell? (ep w.heap.size 1)=some (em n):=(a _ _ F 1).trans (by simp);have aE:r.cell? (ep w.heap.size 2)=some (em g):=(a _ _ F 2).trans (by simp);clear F
   by_cases G:0<=n
   . by_cases J:n<=1099511627775
     . by_cases S:0<=g
       . by_cases a6:g<=0
         . go_wp2_with fail
           go_ret;exact ⟨ret_bool (by rw [← z.out];first | (simp;omega) | (simp;done) | (simp [*];done)),ad⟩
         . go_wp2_with fail
           go_ret;exact ⟨ret_bool (by rw [← z.out];first | (simp;omega) | (simp;done) | (simp [*];done)),ad⟩
       . go_wp2_with fail
         go_ret;exact ⟨ret_bool (by rw [← z.out];first | (simp;omega) | (simp;done) | (simp [*];done)),ad⟩
     . go_wp2_with fail
       go_ret;exact ⟨ret_bool (by rw [← z.out];first | (simp;omega) | (simp;done) | (simp [*];done)),ad⟩
   . go_wp2_with fail
     go_ret;exact ⟨ret_bool (by rw [← z.out];first | (simp;omega) | (simp;done) | (simp [*];done)),ad⟩
theorem Jw (n g:Int) (s:ByteArray) (w:World) (Z:s.size<=maxLen) :
 ew 61 #[.agg #[em 2,em n,em g,.string s]] w fun e r=>e = .returned (.bool (nameOk s&&(decide (0<=n)&&decide (n<=0)&&decide (0<=g)&&decide (g<=320))))/\et w r:=by
 have aF:Hid (∀ M,ew 58 #[.string s] M fun e r=>e = .returned (.bool (nameOk s))/\et M r):=fun M=>sP s M Z
 generalize nameOk s=x at *;generalize bb:(x&&_)=q;have z:=hid bb;clear bb
 have ag:∀ (r:World) (o:Obj),Below (w.alloc o).heap.size (w.alloc o) r->(∀ j,r.cell? (ep w.heap.size j)=(w.alloc o).cell? (ep w.heap.size j)):=fun r o F j=>F.cell (p:=(ep w.heap.size j)) (by simp)
 have a:=hid ag;clear ag
 cases x with
 | false=>
   go_enter func61,ntmps61;go_wp2_with fail;refine (aF _).mono ?_;rintro e r ⟨rfl,F⟩;have ad:=hid (ni F);clear F;go_wp2_with fail;go_ret;exact ⟨ret_bool z,ad⟩
 | true=>
   go_enter func61,ntmps61;go_wp2_with fail;refine (aF _).mono ?_;rintro e r ⟨rfl,F⟩;have ad:=hid (ni F);have aw:r.cell? (ep w.heap.size 1)=some (em n):=(a _ _ F 1).trans (by simp);have aE:r.cell? (ep w.heap.size 2)=some (em g):=(a _ _ F 2).trans (by simp);clear F
   by_cases G:0<=n
   . by_cases J:n<=0
     . by_cases S:0<=g
       . by_cases a6:g<=320
         . go_wp2_with fail
           go_ret;exact ⟨ret_bool (by rw [← z.out];first | (simp;omega) | (simp;done) | (simp [*];done)),ad⟩
         . go_wp2_with fail
           go_ret;exact ⟨ret_bool (by rw [← z.out];first | (simp;omega) | (simp;done) | (simp [*];done)),ad⟩
       . go_wp2_with fail
         go_ret;exact ⟨ret_bool (by rw [← z.out];first | (simp;omega) | (simp;done) | (simp [*];done)),ad⟩
     . go_wp2_with fail
       go_ret;exact ⟨ret_bool (by rw [← z.out];first | (simp;omega) | (simp;done) | (simp [*];done)),ad⟩
   . go_wp2_with fail
     go_ret;exact ⟨ret_bool (by rw [← z.out];first | (simp;omega) | (simp;done) | (simp [*];done)),ad⟩
theorem Jx (n g:Int) (s:ByteArray) (w:World) (Z:s.size<=maxLen) :
 ew 61 #[.agg #[em 3,em n,em g,.string s]] w fun e r=>e = .returned (.bool (nameOk s&&(decide (1<=n)&&decide (n<=32)&&decide (0<=g)&&decide (g<=320))))/\et w r:=by
 have aF:Hid (∀ M,ew 58 #[.string s] M fun e r=>e = .returned (.bool (nameOk s))/\et M r):=fun M=>sP s M Z
 generalize nameOk s=x at *;generalize bb:(x&&_)=q;have z:=hid bb;clear bb
 have ag:∀ (r:World) (o:Obj),Below (w.alloc o).heap.size (w.alloc o) r->(∀ j,r.cell? (ep w.heap.size j)=(w.alloc o).cell? (ep w.heap.size j)):=fun r o F j=>F.cell (p:=(ep w.heap.size j)) (by simp)
 have a:=hid ag;clear ag
 cases x with
 | false=>
   go_enter func61,ntmps61;go_wp2_with fail;refine (aF _).mono ?_;rintro e r ⟨rfl,F⟩;have ad:=hid (ni F);clear F;go_wp2_with fail;go_ret;exact ⟨ret_bool z,ad⟩
 | true=>
   go_enter func61,ntmps61;go_wp2_with fail;refine (aF _).mono ?_;rintro e r ⟨rfl,F⟩;have ad:=hid (ni F);have aw:r.cell? (ep w.heap.size 1)=some (em n):=(a _ _ F 1).trans (by simp);have aE:r.cell? (ep w.heap.size 2)=some (em g):=(a _ _ F 2).trans (by simp);clear F
   by_cases G:1<=n
   . by_cases J:n<=32
     . by_cases S:0<=g
       . by_cases a6:g<=320
         . go_wp2_with fail
           go_ret;exact ⟨ret_bool (by rw [← z.out];first | (simp;omega) | (simp;done) | (simp [*];done)),ad⟩
         . go_wp2_with fail
           go_ret;exact ⟨ret_bool (by rw [← z.out];first | (simp;omega) | (simp;done) | (simp [*];done)),ad⟩
       . go_wp2_with fail
         go_ret;exact ⟨ret_bool (by rw [← z.out];first | (simp;omega) | (simp;done) | (simp [*];done)),ad⟩
     . go_wp2_with fail
       go_ret;exact ⟨ret_bool (by rw [← z.out];first | (simp;omega) | (simp;done) | (simp [*];done)),ad⟩
   . go_wp2_with fail
     go_ret;exact ⟨ret_bool (by rw [← z.out];first | (simp;omega) | (simp;done) | (simp [*];done)),ad⟩
theorem Jy (n g:Int) (s:ByteArray) (w:World) (Z:s.size<=maxLen) :
 ew 61 #[.agg #[em 4,em n,em g,.string s]] w fun e r=>e = .returned (.bool (nameOk s&&(decide (0<=n)&&decide (n<=3)&&decide (0<=g)&&decide (g<=320))))/\et w r:=by
 have aF:Hid (∀ M,ew 58 #[.string s] M fun e r=>e = .returned (.bool (nameOk s))/\et M r):=fun M=>sP s M Z
 generalize nameOk s=x at *;generalize bb:(x&&_)=q;have z:=hid bb;clear bb
 have ag:∀ (r:World) (o:Obj),Below (w.alloc o).heap.size (w.alloc o) r->(∀ j,r.cell? (ep w.heap.size j)=(w.alloc o).cell? (ep w.heap.size j)):=fun r o F j=>F.cell (p:=(ep w.heap.size j)) (by simp)
 have a:=hid ag;clear ag
 cases x with
 | false=>
   go_enter func61,ntmps61;go_wp2_with fail;refine (aF _).mono ?_;rintro e r ⟨rfl,F⟩;have ad:=hid (ni F);clear F;go_wp2_with fail;go_ret;exact ⟨ret_bool z,ad⟩
 | true=>
   go_enter func61,ntmps61;go_wp2_with fail;refine (aF _).mono ?_;rintro e r ⟨rfl,F⟩;have ad:=hid (ni F);have aw:r.cell? (ep w.heap.size 1)=some (em n):=(a _ _ F 1).trans (by simp);have aE:r.cell? (ep w.heap.size 2)=some (em g):=(a _ _ F 2).trans (by simp);clear F
   by_cases G:0<=n
   . by_cases J:n<=3
     . by_cases S:0<=g
       . by_cases a6:g<=320
         . go_wp2_with fail
           go_ret;exact ⟨ret_bool (by rw [← z.out];first | (simp;omega) | (simp;done) | (simp [*];done)),ad⟩
         . go_wp2_with fail
           go_ret;exact ⟨ret_bool (by rw [← z.out];first | (simp;omega) | (simp;done) | (simp [*];done)),ad⟩
       . go_wp2_with fail
         go_ret;exact ⟨ret_bool (by rw [← z.out];first | (simp;omega) | (simp;done) | (simp [*];done)),ad⟩
     . go_wp2_with fail
       go_ret;exact ⟨ret_bool (by rw [← z.out];first | (simp;omega) | (simp;done) | (simp [*];done)),ad⟩
   . go_wp2_with fail
     go_ret;exact ⟨ret_bool (by rw [← z.out];first | (simp;omega) | (simp;done) | (simp [*];done)),ad⟩
theorem Jz (i:It) (w:World) (Z:i.name.size<=maxLen) :
 ew 61 #[i.val] w fun e r=>e = .returned (.bool (mu i))/\et w r:=by
 obtain ⟨y,n,g,s⟩:=i
 by_cases ak:y=1
 . subst ak
   refine (Jv n g s w Z).mono fun e r ⟨G,J⟩=>⟨G.trans (ret_bool ?_),J⟩
   show _=(nameOk s&&numOkB ⟨1,n,g,s⟩);simp only [numOkB,if_true]
   congr 1
   rw [ow];simp only [fs,decide_eq_true_eq];omega
 by_cases au:y=2
 . subst au
   refine (Jw n g s w Z).mono fun e r ⟨G,J⟩=>⟨G.trans (ret_bool ?_),J⟩
   show _=(nameOk s&&numOkB ⟨2,n,g,s⟩)
   congr 1
   rw [ow];simp [numOkB];omega
 by_cases aI:y=3
 . subst aI
   refine (Jx n g s w Z).mono fun e r ⟨G,J⟩=>⟨G.trans (ret_bool ?_),J⟩
   show _=(nameOk s&&numOkB ⟨3,n,g,s⟩)
   congr 1
 by_cases bq:y=4
 . subst bq
   refine (Jy n g s w Z).mono fun e r ⟨G,J⟩=>⟨G.trans (ret_bool ?_),J⟩
   show _=(nameOk s&&numOkB ⟨4,n,g,s⟩)
   congr 1
 have p:Hid (mu ⟨y,n,g,s⟩=false):=by
  show (nameOk s&&numOkB ⟨y,n,g,s⟩)=false;simp [numOkB,ak,au,aI,bq]
 have b7:(y == 1)=false:=beq_eq_false_iff_ne.2 ak;have V:(y == 2)=false:=beq_eq_false_iff_ne.2 au;have b9:(y == 3)=false:=beq_eq_false_iff_ne.2 aI;have aa:(y == 4)=false:=beq_eq_false_iff_ne.2 bq;clear ak au aI bq;unfold It.val;go_enter func61,ntmps61;go_wp2_with fail;go_ret;exact ⟨ret_bool p.symm,(Below.refl _ _).alloc (eD _) _⟩
structure uN (w:World) (b off:Nat) (l:List It):Prop where
 lt:b<w.heap.size
 kind:∀ i (h:i<l.length),w.cell? ⟨b,off+i*4,none⟩=some (em l[i].kind)
 num:∀ i (h:i<l.length),w.cell? ⟨b,off+i*4+1,none⟩=some (em l[i].n)
 at_:∀ i (h:i<l.length),w.cell? ⟨b,off+i*4+2,none⟩=some (em l[i].at_)
 name:∀ i (h:i<l.length),w.cell? ⟨b,off+i*4+3,none⟩=some (.string l[i].name)
def zcy (w:World) (a:OA) (l:List It):Prop:=l=[]\/∃ V C,a=some (ep V C)/\uN w V C l
def AllFit (l:List It):Prop:=∀ i ∈ l,i.name.size<=maxLen
theorem uN.below {B:Nat} {b C:Nat} {l:List It} (h:uN w b C l) (F:Below B w r) (ab:b<B):uN r b C l:=
 ⟨gl h.lt F.size,fun i X=>(F.cell (p:=⟨b,C+i*4,none⟩) ab).trans (h.kind i X),fun i X=>(F.cell (p:=⟨b,C+i*4+1,none⟩) ab).trans (h.num i X),fun i X=>(F.cell (p:=⟨b,C+i*4+2,none⟩) ab).trans (h.at_ i X),fun i X=>(F.cell (p:=⟨b,C+i*4+3,none⟩) ab).trans (h.name i X)⟩
theorem zcy.later {l:List It} (h:zcy w a l) (F:et w r):zcy r a l:=by
 rcases h with h | ⟨V,C,e,h⟩
 . exact Or.inl h
 . exact Or.inr ⟨V,C,e,h.below F h.lt⟩
theorem zcy.place {l:List It} (h:zcy w a l) {k:Nat} (N:k<l.length):∃ V C,a=some (ep V C)/\V<w.heap.size/\w.cell? ⟨V,C+k*4,none⟩=some (em l[k].kind)/\w.cell? ⟨V,C+k*4+1,none⟩=some (em l[k].n)/\w.cell? ⟨V,C+k*4+2,none⟩=some (em l[k].at_)/\w.cell? ⟨V,C+k*4+3,none⟩=some (.string l[k].name):=by
 rcases h with h | ⟨V,C,e,h⟩
 . subst h;simp at N
 . exact ⟨V,C,e,h.lt,h.kind k N,h.num k N,h.at_ k N,h.name k N⟩
end Fx
end Go.Proofs.YtndkhgakfodldaaGreatDoor
