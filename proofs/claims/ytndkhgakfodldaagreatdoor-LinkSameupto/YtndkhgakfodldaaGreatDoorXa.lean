import Derived.Test.YtndkhgakfodldaaGreatDoorLeaf
import Derived.Shelf.Abstract
import Derived.Handy
set_option maxRecDepth 100000
set_option maxHeartbeats 800000
set_option linter.unusedSimpArgs false
open Go.Proofs.Tryz
namespace Go.Proofs.YtndkhgakfodldaaGreatDoor
theorem QP{P:Prop}(h:P:=by
 obtain rfl:k=0:=by omega
 have ab:=(bb.cell (p:=(dj b 0)) I).trans c;have F:=(bb.cell (p:=(dj b 1)) I).trans d;have J:=(bb.cell (p:=(dj b 2)) I).trans j;have aB:b<wr.heap.size:=e4 I bb.size;go_wp2_with fail;go_roundw
 case rel=>exact ⟨1,N7,rfl,bb.alloc bb.size _⟩
 case measure=>simp [intOf]):P:=h
theorem QR{P:Prop}(h:P:=by
 intro bL av dJ bP bu bV;have T:=hid bP;have s:=hid bu;clear bP bu u aa;go_wp2_with fail;go_roundw
 case rel=>exact ⟨j+1,H++[x],N7,Ou,by rw [eM];simp;omega,aZ.symm,by rw [sl,eM];exact T,(s.block _ N7).trans bl,r.trans (s.mono N7)⟩
 case measure=>simp [intOf];omega):P:=h
theorem Rk{P:Prop}(h:P:=by
 rw [k] at u bl r;clear l hbx ak;rw [k] at xp;go_wp2_with fail;go_roundw
 case rel=>exact ⟨j+1,H,N7,Ou,N7,aZ.symm,u,bl,r⟩
 case measure=>simp [intOf];omega):P:=h
theorem RQ{P:Prop}(h:P:=by
 go_wp2_with fail;go_roundw
 case rel=>exact ⟨j+1,N7,Ou,ar,B,bl⟩
 case measure=>simp [intOf];omega):P:=h
theorem RS{P:Prop}(h:P:=by
 go_wp2_with fail;go_roundw
 case rel=>exact ⟨j+1,N7,Ou,ar,dp ag (dn _ _),eR aZ⟩
 case measure=>simp [intOf];omega):P:=h
theorem RW{P:Prop}(h:P:=by
 go_wp2_with fail;go_roundw
 case rel=>exact ⟨j+1,N7,Ou,q3 aR aM,bJ⟩
 case measure=>simp [intOf];omega):P:=h
namespace Fx
open Go.RowKit Go.Shelf
variable {a:OA} {w G:World}
theorem hid {p:Prop} (h:p):Hid p:=h
theorem Ds (s:ByteArray) (w:World) (a8:s.size<=maxLen) :
 dw 160 #[.agg #[di 1,di 0,.string s]] w fun e G=>e = .returned (.bool (nameOk s))/\dm w G:=by
 go_enter func160,ntmps160
 go_wp2_with (go_at_call 202;refine (sK s _ a8).mono ?_;rintro e G ⟨rfl,rfl⟩)
 go_ret;exact ⟨rfl,(Below.refl _ _).alloc (dA _) _⟩
theorem Ma (s:ByteArray) (b:Nat) (w:World) (a8:s.size<=maxLen) (I:b<w.heap.size) (ab:w.cell? (dj b 0)=some (di 1)) (F:w.cell? (dj b 1)=some (di 0)) (J:w.cell? (dj b 2)=some (.string s)) (Z:nameOk s=true) :
 dw 116 #[.slice (some (dj b 0)) 1 1] w fun e G=>e = .returned (di 0)/\dm w G:=by
 have c:=hid ab;have d:=hid F;have j:=hid J
 have ao:Hid (∀ M,dw 160 #[.agg #[di 1,di 0,.string s]] M fun e G=>e = .returned (.bool true)/\dm M G):=fun M=>by
  have:=Ds s M a8;rw [Z] at this;exact this
 clear ab F J Z;go_enter func116,ntmps116;go_wp2_with fail
 go_loopw [9,4] (fun i _ wr=>∃ k:Nat,k<=1/\i=di k/\dm w wr) (fun i _ _=>1 - (intOf i).toNat)
 case atStart=>exact ⟨0,dY _,rfl,Below.refl _ _⟩
 case round=>
  obtain ⟨k,N,rfl,bb⟩:=hrel
  by_cases ac:k<1
  . exact QP
  . go_wp2_with fail
    go_loopw [24,6] (fun i _ wr=>∃ k:Nat,k<=1/\i=di k/\Hid (k<=2)/\dm w wr) (fun i _ _=>1 - (intOf i).toNat)
    case atStart=>exact ⟨0,dY _,rfl,(by decide:0<=2),bb⟩
    case round=>
     obtain ⟨k,N,rfl, -,aq⟩:=hrel
     by_cases ac:k<1
     . obtain rfl:k=0:=by omega
       have ab:=(aq.cell (p:=(dj b 0)) I).trans c;have F:=(aq.cell (p:=(dj b 1)) I).trans d;have J:=(aq.cell (p:=(dj b 2)) I).trans j;have aB:b<wr.heap.size:=e4 I aq.size
       go_wp2_with (go_at_call 160;refine (ao _).mono ?_;rintro e G ⟨rfl,aN⟩)
       go_roundw
       case rel=>exact ⟨1,N7,rfl,(by decide:1<=2),(aq.alloc aq.size _).trans (aN.mono PN)⟩
       case measure=>simp [intOf]
     . obtain rfl:k=1:=by omega
       go_wp2_with fail;go_ret;exact ⟨rfl,aq⟩
theorem Mb (s:ByteArray) (b:Nat) (w:World) (a8:s.size<=maxLen) (I:b<w.heap.size) (ab:w.cell? (dj b 0)=some (di 1)) (F:w.cell? (dj b 1)=some (di 0)) (J:w.cell? (dj b 2)=some (.string s)) (Z:nameOk s=false) :
 dw 116 #[.slice (some (dj b 0)) 1 1] w fun e G=>e = .returned (di 1)/\dm w G:=by
 have c:=hid ab;have d:=hid F;have j:=hid J
 have ao:Hid (∀ M,dw 160 #[.agg #[di 1,di 0,.string s]] M fun e G=>e = .returned (.bool false)/\dm M G):=fun M=>by
  have:=Ds s M a8;rw [Z] at this;exact this
 clear ab F J Z;go_enter func116,ntmps116;go_wp2_with fail
 go_loopw [9,4] (fun i _ wr=>∃ k:Nat,k<=1/\i=di k/\dm w wr) (fun i _ _=>1 - (intOf i).toNat)
 case atStart=>exact ⟨0,dY _,rfl,Below.refl _ _⟩
 case round=>
  obtain ⟨k,N,rfl,bb⟩:=hrel
  by_cases ac:k<1
  . exact QP
  . go_wp2_with fail
    go_loopw [24,6] (fun i _ wr=>∃ k:Nat,k<=1/\i=di k/\k=0/\dm w wr) (fun i _ _=>1 - (intOf i).toNat)
    case atStart=>exact ⟨0,dY _,rfl,rfl,bb⟩
    case round=>
     obtain ⟨k,N,rfl,x,aq⟩:=hrel;subst x;have ab:=(aq.cell (p:=(dj b 0)) I).trans c;have F:=(aq.cell (p:=(dj b 1)) I).trans d;have J:=(aq.cell (p:=(dj b 2)) I).trans j;have aB:b<wr.heap.size:=e4 I aq.size
     go_wp2_with (go_at_call 160;refine (ao _).mono ?_;rintro e G ⟨rfl,aN⟩)
     go_ret;exact ⟨rfl,(aq.alloc aq.size _).trans (aN.mono PN)⟩
theorem tx (s:ByteArray) (w:World) (a8:s.size<=maxLen) :
 dw 58 #[.string s] w fun e G=>e = .returned (.bool (nameOk s))/\dm w G:=by
 cases Z:nameOk s with
 | true=>
   have ao:=hid (Ma s w.heap.size (w.alloc (.cells #[di 1,di 0,.string s] 184)) a8 Ob Ob Ob Ob Z);clear Z;go_enter func58,ntmps58;go_wp2_with fail;refine ao.mono ?_;rintro e G ⟨rfl,I⟩;go_wp2_with fail;go_ret;exact Rj
 | false=>
   have ao:=hid (Mb s w.heap.size (w.alloc (.cells #[di 1,di 0,.string s] 184)) a8 Ob Ob Ob Ob Z);clear Z;go_enter func58,ntmps58;go_wp2_with fail;refine ao.mono ?_;rintro e G ⟨rfl,I⟩;go_wp2_with fail;go_ret;exact Rj
open Go.RowKit Go.Shelf
def It.val (i:It):Value:=.agg #[di i.kind,di i.n,di i.at_,.string i.name]
theorem mY {o:Obj} (I:Below (w.alloc o).heap.size (w.alloc o) G):dm w G:=((Below.refl _ _).alloc (dA _) _).trans (I.mono Ob)
theorem Md (n g:Int) (s:ByteArray) (w:World) (a8:s.size<=maxLen) :
 dw 61 #[.agg #[di 1,di n,di g,.string s]] w fun e G=>e = .returned (.bool (nameOk s&&(decide (0<=n)&&decide (n<=1099511627775)&&decide (0<=g)&&decide (g<=0))))/\dm w G:=by
 have aV:Hid (∀ M,dw 58 #[.string s] M fun e G=>e = .returned (.bool (nameOk s))/\dm M G):=fun M=>tx s M a8
 generalize nameOk s=d at *;generalize H:(d&&_)=u;have z:=hid H;clear H
 have Y:∀ (G:World) (aj:Obj),Below (w.alloc aj).heap.size (w.alloc aj) G->(∀ j,G.cell? (dj w.heap.size j)=(w.alloc aj).cell? (dj w.heap.size j)):=fun G aj I j=>I.cell (p:=(dj w.heap.size j)) Ob
 have a:=hid Y;clear Y
 cases d with
 | false=>
   exact QE
 | true=>
   go_enter func61,ntmps61;go_wp2_with fail;refine (aV _).mono ?_;rintro e G ⟨rfl,I⟩;have ag:=hid (mY I);have aJ:G.cell? (dj w.heap.size 1)=some (di n):=(a _ _ I 1).trans Ob;have aI:G.cell? (dj w.heap.size 2)=some (di g):=(a _ _ I 2).trans Ob;clear I
   by_cases F:0<=n
   . by_cases J:n<=1099511627775
     . by_cases U:0<=g
       . by_cases aa:g<=0
         . exact Qt
         . exact Qt
       . exact Qt
     . exact Qt
   . exact Qt
theorem Me (n g:Int) (s:ByteArray) (w:World) (a8:s.size<=maxLen) :
 dw 61 #[.agg #[di 2,di n,di g,.string s]] w fun e G=>e = .returned (.bool (nameOk s&&(decide (0<=n)&&decide (n<=0)&&decide (0<=g)&&decide (g<=320))))/\dm w G:=by
 have aV:Hid (∀ M,dw 58 #[.string s] M fun e G=>e = .returned (.bool (nameOk s))/\dm M G):=fun M=>tx s M a8
 generalize nameOk s=d at *;generalize H:(d&&_)=u;have z:=hid H;clear H
 have Y:∀ (G:World) (aj:Obj),Below (w.alloc aj).heap.size (w.alloc aj) G->(∀ j,G.cell? (dj w.heap.size j)=(w.alloc aj).cell? (dj w.heap.size j)):=fun G aj I j=>I.cell (p:=(dj w.heap.size j)) Ob
 have a:=hid Y;clear Y
 cases d with
 | false=>
   exact QE
 | true=>
   go_enter func61,ntmps61;go_wp2_with fail;refine (aV _).mono ?_;rintro e G ⟨rfl,I⟩;have ag:=hid (mY I);have aJ:G.cell? (dj w.heap.size 1)=some (di n):=(a _ _ I 1).trans Ob;have aI:G.cell? (dj w.heap.size 2)=some (di g):=(a _ _ I 2).trans Ob;clear I
   by_cases F:0<=n
   . by_cases J:n<=0
     . by_cases U:0<=g
       . by_cases aa:g<=320
         . exact Qt
         . exact Qt
       . exact Qt
     . exact Qt
   . exact Qt
theorem Mf (n g:Int) (s:ByteArray) (w:World) (a8:s.size<=maxLen) :
 dw 61 #[.agg #[di 3,di n,di g,.string s]] w fun e G=>e = .returned (.bool (nameOk s&&(decide (1<=n)&&decide (n<=32)&&decide (0<=g)&&decide (g<=320))))/\dm w G:=by
 have aV:Hid (∀ M,dw 58 #[.string s] M fun e G=>e = .returned (.bool (nameOk s))/\dm M G):=fun M=>tx s M a8
 generalize nameOk s=d at *;generalize H:(d&&_)=u;have z:=hid H;clear H
 have Y:∀ (G:World) (aj:Obj),Below (w.alloc aj).heap.size (w.alloc aj) G->(∀ j,G.cell? (dj w.heap.size j)=(w.alloc aj).cell? (dj w.heap.size j)):=fun G aj I j=>I.cell (p:=(dj w.heap.size j)) Ob
 have a:=hid Y;clear Y
 cases d with
 | false=>
   exact QE
 | true=>
   go_enter func61,ntmps61;go_wp2_with fail;refine (aV _).mono ?_;rintro e G ⟨rfl,I⟩;have ag:=hid (mY I);have aJ:G.cell? (dj w.heap.size 1)=some (di n):=(a _ _ I 1).trans Ob;have aI:G.cell? (dj w.heap.size 2)=some (di g):=(a _ _ I 2).trans Ob;clear I
   by_cases F:1<=n
   . by_cases J:n<=32
     . by_cases U:0<=g
       . by_cases aa:g<=320
         . exact Qt
         . exact Qt
       . exact Qt
     . exact Qt
   . exact Qt
theorem Mh (n g:Int) (s:ByteArray) (w:World) (a8:s.size<=maxLen) :
 dw 61 #[.agg #[di 4,di n,di g,.string s]] w fun e G=>e = .returned (.bool (nameOk s&&(decide (0<=n)&&decide (n<=3)&&decide (0<=g)&&decide (g<=320))))/\dm w G:=by
 have aV:Hid (∀ M,dw 58 #[.string s] M fun e G=>e = .returned (.bool (nameOk s))/\dm M G):=fun M=>tx s M a8
 generalize nameOk s=d at *;generalize H:(d&&_)=u;have z:=hid H;clear H
 have Y:∀ (G:World) (aj:Obj),Below (w.alloc aj).heap.size (w.alloc aj) G->(∀ j,G.cell? (dj w.heap.size j)=(w.alloc aj).cell? (dj w.heap.size j)):=fun G aj I j=>I.cell (p:=(dj w.heap.size j)) Ob
 have a:=hid Y;clear Y
 cases d with
 | false=>
   exact QE
 | true=>
   go_enter func61,ntmps61;go_wp2_with fail;refine (aV _).mono ?_;rintro e G ⟨rfl,I⟩;have ag:=hid (mY I);have aJ:G.cell? (dj w.heap.size 1)=some (di n):=(a _ _ I 1).trans Ob;have aI:G.cell? (dj w.heap.size 2)=some (di g):=(a _ _ I 2).trans Ob;clear I
   by_cases F:0<=n
   . by_cases J:n<=3
     . by_cases U:0<=g
       . by_cases aa:g<=320
         . exact Qt
         . exact Qt
       . exact Qt
     . exact Qt
   . exact Qt
theorem Mi (i:It) (w:World) (a8:i.name.size<=maxLen) :
 dw 61 #[i.val] w fun e G=>e = .returned (.bool (me i))/\dm w G:=by
 obtain ⟨p,n,g,o⟩:=i
 by_cases a9:p=1
 . subst a9
   refine (Md n g o w a8).mono fun e G ⟨F,J⟩=>⟨F.trans (ret_bool ?_),J⟩
   show _=(nameOk o&&numOkB ⟨1,n,g,o⟩);simp only [numOkB,if_true]
   congr 1
   rw [qC];simp only [dO,decide_eq_true_eq];omega
 by_cases au:p=2
 . subst au
   refine (Me n g o w a8).mono fun e G ⟨F,J⟩=>⟨F.trans (ret_bool ?_),J⟩
   show _=(nameOk o&&numOkB ⟨2,n,g,o⟩)
   congr 1
   rw [qC];simp [numOkB];omega
 by_cases bn:p=3
 . subst bn
   refine (Mf n g o w a8).mono fun e G ⟨F,J⟩=>⟨F.trans (ret_bool ?_),J⟩
   show _=(nameOk o&&numOkB ⟨3,n,g,o⟩)
   congr 1
 by_cases aH:p=4
 . subst aH
   refine (Mh n g o w a8).mono fun e G ⟨F,J⟩=>⟨F.trans (ret_bool ?_),J⟩
   show _=(nameOk o&&numOkB ⟨4,n,g,o⟩)
   congr 1
 have aD:Hid (me ⟨p,n,g,o⟩=false):=by
  show (nameOk o&&numOkB ⟨p,n,g,o⟩)=false;simp [numOkB,a9,au,bn,aH]
 have bt:(p == 1)=false:=beq_eq_false_iff_ne.2 a9;have bv:(p == 2)=false:=beq_eq_false_iff_ne.2 au;have aR:(p == 3)=false:=beq_eq_false_iff_ne.2 bn;have u:(p == 4)=false:=beq_eq_false_iff_ne.2 aH;clear a9 au bn aH;unfold It.val;go_enter func61,ntmps61;go_wp2_with fail;go_ret;exact ⟨ret_bool aD.symm,(Below.refl _ _).alloc (dA _) _⟩
structure vI (w:World) (b off:Nat) (l:List It):Prop where
 lt:b<w.heap.size
 kind:∀ i (h:i<l.length),w.cell? ⟨b,off+i*4,none⟩=some (di l[i].kind)
 num:∀ i (h:i<l.length),w.cell? ⟨b,off+i*4+1,none⟩=some (di l[i].n)
 at_:∀ i (h:i<l.length),w.cell? ⟨b,off+i*4+2,none⟩=some (di l[i].at_)
 name:∀ i (h:i<l.length),w.cell? ⟨b,off+i*4+3,none⟩=some (.string l[i].name)
def zct (w:World) (a:OA) (l:List It):Prop:=l=[]\/∃ p C,a=some (dj p C)/\vI w p C l
def AllFit (l:List It):Prop:=∀ i ∈ l,i.name.size<=maxLen
theorem vI.below {B:Nat} {b C:Nat} {l:List It} (h:vI w b C l) (I:Below B w G) (aF:b<B):vI G b C l:=
 ⟨e4 h.lt I.size,fun i V=>(I.cell (p:=⟨b,C+i*4,none⟩) aF).trans (h.kind i V),fun i V=>(I.cell (p:=⟨b,C+i*4+1,none⟩) aF).trans (h.num i V),fun i V=>(I.cell (p:=⟨b,C+i*4+2,none⟩) aF).trans (h.at_ i V),fun i V=>(I.cell (p:=⟨b,C+i*4+3,none⟩) aF).trans (h.name i V)⟩
theorem zct.later {l:List It} (h:zct w a l) (I:dm w G):zct G a l:=by
 rcases h with h | ⟨p,C,e,h⟩
 . exact Or.inl h
 . exact Or.inr ⟨p,C,e,h.below I h.lt⟩
theorem zct.place {l:List It} (h:zct w a l) {k:Nat} (N:k<l.length):∃ p C,a=some (dj p C)/\p<w.heap.size/\w.cell? ⟨p,C+k*4,none⟩=some (di l[k].kind)/\w.cell? ⟨p,C+k*4+1,none⟩=some (di l[k].n)/\w.cell? ⟨p,C+k*4+2,none⟩=some (di l[k].at_)/\w.cell? ⟨p,C+k*4+3,none⟩=some (.string l[k].name):=by
 rcases h with h | ⟨p,C,e,h⟩
 . subst h;simp at N
 . exact ⟨p,C,e,h.lt,h.kind k N,h.num k N,h.at_ k N,h.name k N⟩
end Fx
end Go.Proofs.YtndkhgakfodldaaGreatDoor
