import Derived.Test.YtndkhgakfodldaaGreatDoorUc
import Derived.Test.YtndkhgakfodldaaGreatDoorXc
import Derived.Test.YtndkhgakfodldaaGreatDoorLex
set_option maxRecDepth 100000
set_option maxHeartbeats 3200000
set_option linter.unusedSimpArgs false
set_option linter.unusedVariables false
open Go.Proofs.Tryz
namespace Go.Proofs.YtndkhgakfodldaaGreatDoor
open Go.RowKit Go.Maps Go.WideMaps
theorem QB{P:Prop}(h:P:=by
 rintro e dk ⟨rfl,F⟩;have d:=hid F;clear F;go_wp2_with fail;go_end0;exact ⟨rfl,d.tail⟩):P:=h
theorem QG{P:Prop}(h:P:=by
 rintro e w2 ⟨rfl,J⟩;have j:=hid J;clear J;go_wp2_with fail;go_end0;exact ⟨rfl,j.tail⟩):P:=h
theorem Sj{P:Prop}(h:P:=by
 obtain rfl:j=l.length:=by omega
 rw [gu] at d;go_wp2_with fail;go_end0;exact ⟨rfl,d⟩):P:=h
theorem Sv{P:Prop}(h:P:=by
 rintro e w2 ⟨rfl,J⟩;have j:=hid J;clear J;go_wp2_with fail;go_end0;exact ⟨rfl,j⟩):P:=h
variable {A:Nat->Prop} {a:OA} {m:ec} {v:Value} {w:World}
abbrev pU (p:fa) (a:OA) (b:Nat) (c:OA) (e:Nat) (f:OA) (g:Nat):Obj:=mI p.name p.pub a p.params.length b c p.locals.length e f p.body.length g
abbrev It:=Fx.It
def js (i:It):List D:=[.int i.kind,.int i.n,.int i.at_,.str i.name]
def gp (l:List It):List D:=l.flatMap js
def lL (g:Int) (d:gG):It:=⟨d.kind,d.n,if d.kind=2\/d.kind=3 then g else 0,d.name⟩
def iX (g:Int) (d:gG):Int:=if d.kind=2 then g+1 else if d.kind=3 then g+d.n else g
def jf:Int->List gG->List It × Int
 | a,[]=>([],a)
 | a,d :: r=>(lL a d :: (jf (iX a d) r).1,(jf (iX a d) r).2)
def pM (i:Nat) (p:fa):It:=⟨4,p.params.length,i,p.name⟩
def oT:Nat->List fa->List It
 | _,[]=>[]
 | i,D :: r=>pM i D :: oT (i+1) r
def iF (m:ec):List It:=(jf 0 m.decls).1++oT 0 m.procs
def jJ (m:ec):Int:=(jf 0 m.decls).2
theorem CM:∀ (g:List gG) (a:Int) (d:gG),jf a (g++[d])=((jf a g).1++[lL (jf a g).2 d],iX (jf a g).2 d)
 | [],a,d=>rfl
 | x :: r,a,d=>by
   show (lL a x :: (jf (iX a x) (r++[d])).1,(jf (iX a x) (r++[d])).2)=_
   rw [CM r];rfl
theorem CN:∀ (g:List gG) (a:Int),(jf a g).1.length=g.length
 | [],_=>rfl
 | x :: r,a=>by show (_ :: _).length=_;rw [gY,CN r,gY]
theorem CO:∀ (g:List fa) (i:Nat) (D:fa),oT i (g++[D])=oT i g++[pM (i+g.length) D]
 | [],i,D=>rfl
 | x :: r,i,D=>by
   show pM i x :: oT (i+1) (r++[D])=_
   rw [CO r,show i+1+r.length=i+(x :: r).length from Of];rfl
theorem CP:∀ (g:List fa) (i:Nat),(oT i g).length=g.length
 | [],_=>rfl
 | x :: r,i=>by show (_ :: _).length=_;rw [gY,CP r,gY]
theorem ya (m:ec):(iF m).length=m.decls.length+m.procs.length:=by unfold iF;rw [eM,CN,CP]
structure yb (m:ec):Prop where
 decls:m.decls.length<=10
 procs:m.procs.length<=6
 kinds:∀ d ∈ m.decls,1<=d.kind/\d.kind<=3/\(d.kind=3->1<=d.n/\d.n<=32)
theorem th (h:m.err=0):m.uses.length<=3/\m.decls.length<=10/\m.procs.length<=6/\(∀ D ∈ m.procs,D.params.length<=3/\D.locals.length<=4/\gx 6 D.body=false)/\gx 6 m.main=false:=by
 obtain ⟨_,a1,_⟩:=AO h;unfold ec.many at a1;simp only [hG] at a1;obtain ⟨F,J,U,aa,aB⟩:=a1;have F:=of_decide_eq_false F;have J:=of_decide_eq_false J;have U:=of_decide_eq_false U;rw [ma] at aa aB;refine ⟨N7,N7,N7,fun D aA=>?_,by simpa using aB m.main (by unfold ec.bodies;simp)⟩;have:=aa D aA;simp only [nE,hG] at this;have a9:=of_decide_eq_false this.1;have au:=of_decide_eq_false this.2;exact ⟨N7,N7,by simpa using aB D.body (by unfold ec.bodies;simp;exact Or.inl ⟨D,aA,rfl⟩)⟩
theorem yc (h:m.err=0):yb m:=by
 have aA:=th h;refine ⟨aA.2.1,aA.2.2.1,fun d hd=>?_⟩;obtain ⟨_,a8,F,J⟩:=(Gl h).decls d hd;refine ⟨F,J,fun U=>?_⟩;unfold nG at a8;rw [U,if_neg N9,if_pos rfl] at a8;simpa using a8
theorem CQ:∀ (g:List gG) (a:Int),(∀ d ∈ g,1<=d.kind/\d.kind<=3/\(d.kind=3->1<=d.n/\d.n<=32))->a<=(jf a g).2/\(jf a g).2<=a+32*g.length
 | [],a,_=>⟨mN _,by simp [jf]⟩
 | x :: r,a,h=>by
   have S:=h x Ob;have ay:=CQ r (iX a x) (fun d hd=>h d (by simp [hd]));show a<=(jf (iX a x) r).2/\(jf (iX a x) r).2<=a+32*((x :: r).length:Nat);rw [gY]
   have Z:a<=iX a x/\iX a x<=a+32:=by
    unfold iX;split
    . omega
    . split
      . rename_i U;have:=S.2.2 U;omega
      . omega
   omega
theorem Tryz.infoItem:(prog.info? 98).map (fun i=>(i.zero,i.size,i.bytes))=some (some (.agg #[di 0,di 0,di 0,.string ⟨#[]⟩]),4,40):=by kernel_rfl
theorem sk {k n a:Int} {s:ByteArray} (h:s.size<=maxLen):eI w A (js ⟨k,n,a,s⟩) [di k,di n,di a,.string s]:=.cons kl (.cons kl (.cons kl (.cons (qG h) .nil)))
theorem sl (l:List It) (x:It):gp (l++[x])=gp l++js x:=by simp [gp]
theorem yd {l:List It} (h:ee w A a l.length (gp l)):Fx.zct w a l/\Fx.AllFit l:=by
 rcases h with h | ⟨b,C,s,a7,_,I,W,S⟩
 . exact SL
 . have al:∀ i (V:i<l.length) j d,j<4->(js l[i])[j]? = some d->∃ v,w.cell? ⟨b,C+i*4+j,none⟩=some v/\gH w A d v:=fun i V j d a2 hd=>by
    exact R1
   refine ⟨Or.inr ⟨b,C,a7,I,fun i V=>?_,fun i V=>?_,fun i V=>?_,fun i V=>?_⟩,fun x D=>?_⟩
   . obtain ⟨v,af,hd⟩:=al i V 0 (.int l[i].kind) N7 rfl
     rw [vg hd] at af;exact af
   . obtain ⟨v,af,hd⟩:=al i V 1 (.int l[i].n) N7 rfl
     rw [vg hd] at af;exact af
   . obtain ⟨v,af,hd⟩:=al i V 2 (.int l[i].at_) N7 rfl
     rw [vg hd] at af;exact af
   . obtain ⟨v,af,hd⟩:=al i V 3 (.str l[i].name) N7 rfl
     rw [(B2 hd).1] at af;exact af
   . obtain ⟨i,V,rfl⟩:=kI D
     obtain ⟨v,af,hd⟩:=al i V 3 (.str l[i].name) N7 rfl;exact (B2 hd).2
theorem ye (m:ec) (v:Value) (E:OA) (ah:Nat) (a0:OA) (ae:Nat) (a6:OA) (c3:Nat) (c:OA) (K:Nat) (w:World) (a7:gS w dQ m v E ah a0 ae a6 c3 c K) (aP:yb m) :
 dw 49 #[v] w fun e G=>(∃ a q,e = .returned (.tuple #[.slice a (iF m).length q,di (jJ m)])/\ee G (w.heap.size<=·) a (iF m).length (gp (iF m)))/\dm w G:=by
 obtain rfl:=a7.val;have F:=hid a7.decls;have R:=hid a7.procs;have bC:=hid aP;have cP:=aP.decls;have cE:=aP.procs;clear a7 aP;go_enter func49,ntmps49;go_wp2_with fail
 go_loopw [4,5,7,8,14] (fun v dv _ _ i wr=>∃ (j:Nat) (H:List It) (f:Int),j<=m.decls.length/\i=di j/\dv=di f/\H.length=j/\jf 0 (m.decls.take j)=(H,f)/\Row (w.heap.size+1) 98 4 wr v H.length (gp H)/\wr.heap[w.heap.size]? = some (jl m.name E m.uses.length ah a0 m.decls.length ae a6 m.procs.length c3 c m.main.length K)/\dm w wr) (fun _ _ _ _ i _=>m.decls.length - (intOf i).toNat)
 case atStart=>exact ⟨0,[],0,dY _,rfl,rfl,rfl,rfl,Row.nil _ _ _ _,dX _ _,dn _ _⟩
 case round=>
  obtain ⟨j,H,f,a2,rfl,rfl,hacc,l,b5,hbx,I⟩:=hrel;have P:=hid b5;have L:=hid hbx;have ag:=hid I;have x:=hid l;have bj:=I.size;have J:=lt_of_heap hbx;clear b5 I l
  by_cases ac:j<m.decls.length
  . obtain ⟨b,C,rfl,S⟩:=(F.later ag).de j ac
    obtain ⟨bb,af,a4,am,a5,_,_,bF⟩:=S
    have ak:Hid (jf 0 (m.decls.take (j+1))=(H++[lL f m.decls[j]],iX f m.decls[j])):=by
     show jf 0 (m.decls.take (j+1))=_;rw [gn ac,CM,x.out]
    have z:=bC.kinds m.decls[j] (eb _)
    have bK:0<=f/\f<=320:=by
     have:=CQ (m.decls.take j) 0 (fun d hd=>bC.kinds d (List.mem_of_mem_take hd));rw [x.out] at this;simp only [jE] at this;omega
    generalize m.decls[j]=d at *;have Q:=z.1;have p:=z.2.1;have A:=z.2.2;clear z hbx
    by_cases o:d.kind=2
    . have c7:IntKind.i64.wrap (f+1)=f+1:=by simp only [IntKind.wrap,IntKind.bits,IntKind.signed];simp;omega
      have aZ:Hid (lL f d=⟨d.kind,d.n,f,d.name⟩):=by show lL f d=_;unfold lL;rw [if_pos (Or.inl o)]
      have aV:Hid (iX f d=f+1):=by show iX f d=_;unfold iX;rw [if_pos o]
      have u:Hid (Row (w.heap.size+1) 98 4 ((wr.alloc (ip d.kind d.name d.pub d.n)).alloc (kd d.kind d.n f d.name)) u4 H.length (gp H)):=(P.alloc _).alloc _;have aa:Hid (eI ((wr.alloc (ip d.kind d.name d.pub d.n)).alloc (kd d.kind d.n f d.name)) (fun _=>False) (js ⟨d.kind,d.n,f,d.name⟩) [di d.kind,di d.n,di f,.string d.name]):=sk bF;have r:Hid (dm w ((wr.alloc (ip d.kind d.name d.pub d.n)).alloc (kd d.kind d.n f d.name))):=dp ag (e6 _ _ _);have bl:Hid (((wr.alloc (ip d.kind d.name d.pub d.n)).alloc (kd d.kind d.n f d.name)).heap[w.heap.size]? = some (jl m.name E m.uses.length ah (some (dj b C)) m.decls.length ae a6 m.procs.length c3 c m.main.length K)):=eR (eR L)
      have bv:(d.kind == 2)=true:=by rw [o];rfl
      clear bF Q p A o
      exact Qy
    by_cases n:d.kind=3
    . have U:=A n
      have c7:IntKind.i64.wrap (f+d.n)=f+d.n:=Oj
      have aZ:Hid (lL f d=⟨d.kind,d.n,f,d.name⟩):=by show lL f d=_;unfold lL;rw [if_pos (Or.inr n)]
      have aV:Hid (iX f d=f+d.n):=by show iX f d=_;unfold iX;rw [if_neg o,if_pos n]
      have u:Hid (Row (w.heap.size+1) 98 4 ((wr.alloc (ip d.kind d.name d.pub d.n)).alloc (kd d.kind d.n f d.name)) u4 H.length (gp H)):=(P.alloc _).alloc _;have aa:Hid (eI ((wr.alloc (ip d.kind d.name d.pub d.n)).alloc (kd d.kind d.n f d.name)) (fun _=>False) (js ⟨d.kind,d.n,f,d.name⟩) [di d.kind,di d.n,di f,.string d.name]):=sk bF;have r:Hid (dm w ((wr.alloc (ip d.kind d.name d.pub d.n)).alloc (kd d.kind d.n f d.name))):=dp ag (e6 _ _ _);have bl:Hid (((wr.alloc (ip d.kind d.name d.pub d.n)).alloc (kd d.kind d.n f d.name)).heap[w.heap.size]? = some (jl m.name E m.uses.length ah (some (dj b C)) m.decls.length ae a6 m.procs.length c3 c m.main.length K)):=eR (eR L)
      have bv:(d.kind == 2)=false:=by rw [n];rfl
      have aR:(d.kind == 3)=true:=by rw [n];rfl
      clear bF Q p A o n U
      exact Qy
    have aZ:Hid (lL f d=⟨d.kind,d.n,0,d.name⟩):=by show lL f d=_;unfold lL;rw [if_neg N7]
    have aV:Hid (iX f d=f):=by show iX f d=_;unfold iX;rw [if_neg o,if_neg n]
    have u:Hid (Row (w.heap.size+1) 98 4 ((wr.alloc (ip d.kind d.name d.pub d.n)).alloc (kd d.kind d.n 0 d.name)) u4 H.length (gp H)):=(P.alloc _).alloc _;have aa:Hid (eI ((wr.alloc (ip d.kind d.name d.pub d.n)).alloc (kd d.kind d.n 0 d.name)) (fun _=>False) (js ⟨d.kind,d.n,0,d.name⟩) [di d.kind,di d.n,di 0,.string d.name]):=sk bF;have r:Hid (dm w ((wr.alloc (ip d.kind d.name d.pub d.n)).alloc (kd d.kind d.n 0 d.name))):=dp ag (e6 _ _ _);have bl:Hid (((wr.alloc (ip d.kind d.name d.pub d.n)).alloc (kd d.kind d.n 0 d.name)).heap[w.heap.size]? = some (jl m.name E m.uses.length ah (some (dj b C)) m.decls.length ae a6 m.procs.length c3 c m.main.length K)):=eR (eR L);have bv:(d.kind == 2)=false:=beq_eq_false_iff_ne.2 o;have aR:(d.kind == 3)=false:=beq_eq_false_iff_ne.2 n;clear bF Q p A o n
    go_wp2_with (at_builtin;refine nx rfl (.tmp 41) (.tmp 43) 28 rfl (w.heap.size+1) 98 _ 4 40 Tryz.underlying28 Tryz.infoItem rfl N9 ((wr.alloc (ip d.kind d.name d.pub d.n)).alloc (kd d.kind d.n 0 d.name)) u4 H.length (gp H) (js ⟨d.kind,d.n,0,d.name⟩) rfl u #[di d.kind,di d.n,di 0,.string d.name] _ Ob rfl rfl (fun _=>False) aa (fun b _ h=>h.elim) N7 N9 Of ?_)
    intro bL av dJ bP bu bV;have T:=hid bP;have s:=hid bu;clear bP bu u aa;go_wp2_with fail;go_roundw
    case rel=>exact ⟨j+1,H++[_],_,N7,Ou,rfl,Qn,ak.trans (by rw [aZ.out,aV.out]),by rw [sl,eM,hacc];exact T,(s.block _ N7).trans bl,r.trans (s.mono N7)⟩
    case measure=>simp [intOf];omega
  . obtain rfl:j=m.decls.length:=by omega
    have N:Hid (jf 0 m.decls=(H,f)):=by have:=x.out;rw [gu] at this;exact this
    have O:Hid (Row (w.heap.size+1) 98 4 wr u4 m.decls.length (gp H)):=hacc ▸ P.out;obtain ⟨g,a9,au,bn,aH,B⟩:=ep L;clear x hbx P;go_wp2_with fail;clear g a9 au bn aH B
    go_loopw [4,9,10,49] (fun v _ _ i wr=>∃ (j:Nat) (k:List It),j<=m.procs.length/\i=di j/\k.length=m.decls.length+j/\k=H++oT 0 (m.procs.take j)/\Row (w.heap.size+1) 98 4 wr v k.length (gp k)/\wr.heap[w.heap.size]? = some (jl m.name E m.uses.length ah a0 m.decls.length ae a6 m.procs.length c3 c m.main.length K)/\dm w wr) (fun _ _ _ i _=>m.procs.length - (intOf i).toNat)
    case atStart=>exact ⟨0,H,dY _,rfl,by rw [hacc,gQ],by simp [oT],hacc ▸ O.out,L,ag⟩
    case round=>
     clear O L ag bj J;obtain ⟨j,k,hj2,rfl,hac2,hdef,b5,hbx,I⟩:=hrel;have P:=hid b5;have L:=hid hbx;have ag:=hid I;have t:=hid hdef;have bj:=I.size;have J:=lt_of_heap hbx;clear b5 I hdef
     by_cases ac:j<m.procs.length
     . obtain ⟨b,C,az,aT,aK,aU,aW,bh,rfl,S⟩:=(R.later ag).pr j ac
       obtain ⟨bb,af,a4,am,a5,ax,_,_,_,bF⟩:=S
       have ak:Hid (k++[pM j m.procs[j]]=H++oT 0 (m.procs.take (j+1))):=by
        show k++[pM j m.procs[j]]=_;rw [gn ac,CO,t.out,oE,jE,uW N7,fY]
       generalize m.procs[j]=D at *;have u:Hid (Row (w.heap.size+1) 98 4 (wr.alloc (pU D az aT aK aU aW bh)) u4 k.length (gp k)):=P.alloc _;have aa:Hid (eI (wr.alloc (pU D az aT aK aU aW bh)) (fun _=>False) (js (pM j D)) [di 4,di D.params.length,di j,.string D.name]):=sk bF;have r:Hid (dm w (wr.alloc (pU D az aT aK aU aW bh))):=dp ag (dn _ _);have bl:Hid ((wr.alloc (pU D az aT aK aU aW bh)).heap[w.heap.size]? = some (jl m.name E m.uses.length ah a0 m.decls.length ae (some (dj b C)) m.procs.length c3 c m.main.length K)):=eR L;clear bF hbx
       go_wp2_with (at_builtin;refine nx rfl (.tmp 54) (.tmp 62) 28 rfl (w.heap.size+1) 98 _ 4 40 Tryz.underlying28 Tryz.infoItem rfl N9 (wr.alloc (pU D az aT aK aU aW bh)) u4 k.length (gp k) (js (pM j D)) rfl u #[di 4,di D.params.length,di j,.string D.name] _ Ob rfl rfl (fun _=>False) aa (fun b _ h=>h.elim) N7 N9 Of ?_)
       intro bL av dJ bP bu bV;have T:=hid bP;have s:=hid bu;clear bP bu u aa;go_wp2_with fail;go_roundw
       case rel=>exact ⟨j+1,k++[pM j D],N7,Ou,by simp [hac2];omega,ak,by rw [sl,eM,hac2];exact T,(s.block _ N7).trans bl,r.trans (s.mono N7)⟩
       case measure=>simp [intOf];omega
     . obtain rfl:j=m.procs.length:=by omega
       have y:Hid (iF m=k):=by
        show iF m=k;rw [t.out,gu];unfold iF;rw [N.out]
       have cD:Hid (jJ m=f):=by show jJ m=f;unfold jJ;rw [N.out]
       obtain ⟨V,av,rfl,hea⟩:=P.slice;have M:=hid hea;clear hea hbx;go_wp2_with fail;go_ret2;refine ⟨⟨V,av,?_,?_⟩,ag⟩
       . rw [y.out,cD.out,hac2];rfl
       . rw [y.out]
         exact M.moves ⟨dA _,fun b _ h=>⟨OW,rfl⟩⟩
def iY (m:ec):Int:=if m.err≠0 then m.err else if Fx.zhf (Fx.lists m.uses)||Fx.zhf (Fx.zec (iF m)) then 6 else 0
theorem mm {l:List ByteArray} (h:dx w A a l.length (eH l)):Fx.zfd w a l/\∀ o ∈ l,o.size<=maxLen:=by
 refine ⟨?_,fun o a8=>?_⟩
 . rcases h.2.2 with ab | ⟨b,C,s,a7,_,I,W,S⟩
   . exact Or.inl (hF ab)
   . refine Or.inr ⟨b,C,a7,I,fun i V=>?_⟩
     obtain ⟨v,af,hd⟩:=S.get i (.str l[i]) (by simp [eH,V]);rw [(k9 hd).1] at af;exact W i _ af
 . obtain ⟨i,V,rfl⟩:=kI a8
   obtain ⟨b,C,_,_,_,aa⟩:=h.str i V;exact aa
theorem Kp {E a0 a6 c:OA} {ah ae c3 K:Nat} (a7:gS w dQ m v E ah a0 ae a6 c3 c K) (U:m.uses.length<=3) :
 dw 59 #[.slice E m.uses.length ah] w fun e G=>e = .returned (.bool (Fx.zhf (Fx.lists m.uses)))/\dm w G:=
 Fx.zfu E ah m.uses w (mm a7.uses).1 N7 (mm a7.uses).2
theorem Kq {B:Nat} {l:List It} (h:w.ownsRow B 9 1 v l.length (Fx.zze l)) (X:l.length<=1000000) (Y:Fx.AllFit l) :
 dw 59 #[v] w fun e G=>e = .returned (.bool (Fx.zhf (Fx.zec l)))/\dm w G:=by
 obtain ⟨a,an,rfl,aE⟩:=Fx.zxi h;rw [← Fx.zmg]
 exact Fx.zfu a an _ w aE P0 (fun o h=>by
  obtain ⟨i,V,rfl⟩:=ig.1 h
  exact Y i V)
theorem CR (m:ec) (v:Value) (E:OA) (ah:Nat) (a0:OA) (ae:Nat) (a6:OA) (c3:Nat) (c:OA) (K:Nat) (w:World) (a7:gS w dQ m v E ah a0 ae a6 c3 c K) (a:kK m) :
 dw 48 #[v] w fun e G=>e = .returned (di (iY m))/\dm w G:=by
 obtain rfl:=a7.val;have L:=hid a7;have ao:=hid (Cw m _ E ah a0 ae a6 c3 c K (w.alloc (jl m.name E m.uses.length ah a0 m.decls.length ae a6 m.procs.length c3 c m.main.length K)) (a7.later (dn _ _)) a);clear a7 a
 obtain ⟨r,Q⟩:∃ r,r=iY m:=⟨_,rfl⟩
 rw [← Q];have z:=hid Q;clear Q;go_enter func48,ntmps48;go_wp2_with fail;refine ao.mono ?_;rintro e dk ⟨rfl,aq⟩;have B:=hid (dp (dn w _) aq);have ba:=aq.size;simp at ba;have az:=(aq.block _ Ob).trans (dX w _);have i:=hid az;obtain ⟨af,a4,am,a5,ax,a1⟩:=ep az;have bg:=lt_of_heap az;clear aq az ao
 by_cases ar:m.err=0
 . have l:=yc ar
   have cp:=(th ar).1;have aG:=hid (ye m _ E ah a0 ae a6 c3 c K dk (L.later B) l);have aY:Hid (r=if Fx.zhf (Fx.lists m.uses)||Fx.zhf (Fx.zec (iF m)) then 6 else 0):=z.trans (if_neg (by simp [ar]))
   have b:Hid ((iF m).length<=16):=by have F:=l.decls;have J:=l.procs;show (iF m).length<=16;rw [ya];omega
   clear l z;go_wp2_with fail;refine aG.mono ?_;rintro e w2 ⟨⟨bD,p,rfl,hit⟩,aN⟩;have O:=hid (dp B aN);have bA:=aN.size;have d:=hid ((aN.block _ bg).trans i);obtain ⟨y,aD⟩:=yd hit;have ci:=hid y;have ck:=hid aD;clear aN aG hit y aD af a4 am a5 ax a1;obtain ⟨af,a4,am,a5,ax,a1⟩:=ep d;have a9:=lt_of_heap d;have aZ:=hid (Kp (L.later O) cp)
   cases aJ:Fx.zhf (Fx.lists m.uses) with
   | true=>
     rw [aJ] at aZ aY;have b3:Hid (r=6):=aY.out;clear aJ aY;go_wp2_with fail;refine aZ.mono ?_;rintro e dC ⟨rfl,T⟩;have t:=hid (dp O T);clear T;go_wp2_with fail;go_ret;exact ⟨ret_int b3.symm,t⟩
   | false=>
     rw [aJ] at aZ aY;clear aJ;go_wp2_with fail;refine aZ.mono ?_;rintro e dC ⟨rfl,T⟩;have t:=hid (dp O T);have aV:=hid (Fx.zi0 bD p (iF m) dC (ci.later T) (by have:=b.out;omega));clear T;go_wp2_with fail;refine aV.mono ?_;rintro e dD ⟨a8,rfl,ho4,bc⟩;have X:=hid (dp t bc);have b9:=hid (Kq ho4 (by have:=b.out;omega) ck);clear bc ho4;go_wp2_with fail;refine b9.mono ?_;rintro e dJ ⟨rfl,br⟩;have bu:=hid (dp X br);clear br
     cases V:Fx.zhf (Fx.zec (iF m)) with
     | true=>
       have b3:Hid (r=6):=aY.trans (by rw [V];rfl);exact SY
     | false=>
       have b3:Hid (r=0):=aY.trans (by rw [V];rfl);exact SY
 . have aY:Hid (r=m.err):=z.trans (if_pos ar)
   go_wp2_with fail;go_ret;exact ⟨ret_int aY.symm,B⟩
def pick (t:List Bool) (l:List It):List It:=(t.zip l).filterMap fun D=>if D.1 then some D.2 else none
def ii (m:ec):List Bool:=m.decls.map gG.pub++m.procs.map fa.pub
def vr (m:ec):List It:=pick (ii m) (iF m)
theorem ti (m:ec):(ii m).length=m.decls.length+m.procs.length:=by simp [ii]
theorem Kr (m:ec) (j:Nat) (h:j<m.decls.length):(ii m)[j]' Qj=m.decls[j].pub:=by
 unfold ii;rw [lE OU];simp
theorem Ks (m:ec) (j:Nat) (h:j<m.procs.length):(ii m)[m.decls.length+j]' Qj=m.procs[j].pub:=by
 unfold ii;rw [List.getElem_append_right Ob];simp
theorem CS (t:List Bool) (l:List It) (k:Nat) (I:k<t.length) (X:k<l.length):pick (t.take (k+1)) (l.take (k+1))=pick (t.take k) (l.take k)++if t[k] then [l[k]] else []:=by
 unfold pick;rw [gn I,gn X,List.zip_append Of,List.filterMap_append]
 congr 1
 cases t[k]<;>rfl
theorem Kt (m:ec) (v:Value) (E:OA) (ah:Nat) (a0:OA) (ae:Nat) (a6:OA) (c3:Nat) (c:OA) (K:Nat) (f:List It) (bD:OA) (p:Nat) (w:World) (a7:gS w dQ m v E ah a0 ae a6 c3 c K) (aP:yb m) (b1:f.length=m.decls.length+m.procs.length) (A:Fx.zct w bD f) (b7:Fx.AllFit f) :
 dw 50 #[v,.slice bD f.length p] w fun e G=>(∃ a q,e = .returned (.slice a (pick (ii m) f).length q)/\ee G (w.heap.size<=·) a (pick (ii m) f).length (gp (pick (ii m) f)))/\dm w G:=by
 obtain rfl:=a7.val;have F:=hid a7.decls;have R:=hid a7.procs;have ci:=hid A;have ck:=hid b7;have n:=hid b1;have cP:=aP.decls;have cE:=aP.procs;clear a7 aP A b7 b1;go_enter func50,ntmps50;go_wp2_with fail
 go_loopw [5,6,7,13] (fun v _ _ i wr=>∃ (j:Nat) (H:List It),j<=m.decls.length/\i=di j/\H.length<=j/\H=pick ((ii m).take j) (f.take j)/\Row (w.heap.size+1) 98 4 wr v H.length (gp H)/\wr.heap[w.heap.size]? = some (jl m.name E m.uses.length ah a0 m.decls.length ae a6 m.procs.length c3 c m.main.length K)/\dm w wr) (fun _ _ _ i _=>m.decls.length - (intOf i).toNat)
 case atStart=>exact ⟨0,[],dY _,rfl,dA _,by simp [pick],Row.nil _ _ _ _,dX _ _,dn _ _⟩
 case round=>
  obtain ⟨j,H,a2,rfl,hacc,hdef,b5,hbx,I⟩:=hrel;have P:=hid b5;have L:=hid hbx;have ag:=hid I;have t:=hid hdef;have bj:=I.size;have J:=lt_of_heap hbx;clear b5 I hdef
  by_cases ac:j<m.decls.length
  . have N:j<f.length:=by have:=n.out;omega
    have ak:Hid (pick ((ii m).take (j+1)) (f.take (j+1))=H++if m.decls[j].pub then [f[j]] else []):=by
     show pick ((ii m).take (j+1)) (f.take (j+1))=_;rw [CS _ _ j Qj N,Kr m j ac,← t.out]
    have l:=ck f[j] (eb _);have b8:=hid ((ci.later ag).place N);obtain ⟨b,C,rfl,S⟩:=(F.later ag).de j ac;obtain ⟨bb,af,a4,xp,a5,_,_,bF⟩:=S;obtain ⟨bv,off2,rfl,bm,aY,aE,O,y⟩:=b8.out
    have c6:(j:Int)<f.length:=N7
    clear b8;generalize m.decls[j]=d at *;generalize f[j]=x at *
    cases k:d.pub with
    | true=>
      have u:Hid (Row (w.heap.size+1) 98 4 (wr.alloc (ip d.kind d.name d.pub d.n)) u5 H.length (gp H)):=P.alloc _;have aa:Hid (eI (wr.alloc (ip d.kind d.name d.pub d.n)) (fun _=>False) (js x) [di x.kind,di x.n,di x.at_,.string x.name]):=sk l;have bl:Hid ((wr.alloc (ip d.kind d.name d.pub d.n)).heap[w.heap.size]? = some (jl m.name E m.uses.length ah (some (dj b C)) m.decls.length ae a6 m.procs.length c3 c m.main.length K)):=eR L;have r:Hid (dm w (wr.alloc (ip d.kind d.name d.pub d.n))):=dp ag (dn _ _);have aZ:Hid (pick ((ii m).take (j+1)) (f.take (j+1))=H++[x]):=ak.trans (by rw [k];rfl);rw [k] at u aa bl r;clear l hbx ak;rw [k] at xp
      go_wp2_with (at_builtin;refine nx rfl (.tmp 20) (.tmp 25) 28 rfl (w.heap.size+1) 98 _ 4 40 Tryz.underlying28 Tryz.infoItem rfl N9 (wr.alloc (ip d.kind d.name true d.n)) u5 H.length (gp H) (js x) rfl u #[di x.kind,di x.n,di x.at_,.string x.name] _ Ob rfl rfl (fun _=>False) aa (fun b _ h=>h.elim) N7 N9 Of ?_)
      exact QR
    | false=>
      have u:Hid (Row (w.heap.size+1) 98 4 (wr.alloc (ip d.kind d.name d.pub d.n)) u5 H.length (gp H)):=P.alloc _;have bl:Hid ((wr.alloc (ip d.kind d.name d.pub d.n)).heap[w.heap.size]? = some (jl m.name E m.uses.length ah (some (dj b C)) m.decls.length ae a6 m.procs.length c3 c m.main.length K)):=eR L;have r:Hid (dm w (wr.alloc (ip d.kind d.name d.pub d.n))):=dp ag (dn _ _);have aZ:Hid (pick ((ii m).take (j+1)) (f.take (j+1))=H):=ak.trans (by rw [k];simp);exact Rk
  . obtain rfl:j=m.decls.length:=by omega
    have o:Hid (H=pick ((ii m).take m.decls.length) (f.take m.decls.length)):=t.out;obtain ⟨g,a9,au,bn,aH,B⟩:=ep L;clear t hbx;go_wp2_with fail;clear g a9 au bn aH B
    go_loopw [5,8,9,31] (fun v _ _ i wr=>∃ (j:Nat) (H:List It),j<=m.procs.length/\i=di j/\H.length<=m.decls.length+j/\H=pick ((ii m).take (m.decls.length+j)) (f.take (m.decls.length+j))/\Row (w.heap.size+1) 98 4 wr v H.length (gp H)/\wr.heap[w.heap.size]? = some (jl m.name E m.uses.length ah a0 m.decls.length ae a6 m.procs.length c3 c m.main.length K)/\dm w wr) (fun _ _ _ i _=>m.procs.length - (intOf i).toNat)
    case atStart=>exact ⟨0,H,dY _,rfl,hacc,o,P,L,ag⟩
    case round=>
     clear P L ag bj J o hacc;obtain ⟨j,H,hj2,rfl,hacc,hdef,b5,hbx,I⟩:=hrel;have P:=hid b5;have L:=hid hbx;have ag:=hid I;have t:=hid hdef;have bj:=I.size;have J:=lt_of_heap hbx;clear b5 I hdef
     by_cases ac:j<m.procs.length
     . have N:m.decls.length+j<f.length:=by have:=n.out;omega
       have ak:Hid (pick ((ii m).take (m.decls.length+(j+1))) (f.take (m.decls.length+(j+1)))=H++if m.procs[j].pub then [f[m.decls.length+j]] else []):=by
        show pick ((ii m).take (m.decls.length+j+1)) (f.take (m.decls.length+j+1))=_;rw [CS _ _ (m.decls.length+j) Qj N,Ks m j ac,← t.out]
       have l:=ck f[m.decls.length+j] (eb _);have b8:=hid ((ci.later ag).place N);obtain ⟨b,C,az,aT,aK,aU,aW,bh,rfl,S⟩:=(R.later ag).pr j ac;obtain ⟨bb,af,xp,am,a5,ax,_,_,_,bF⟩:=S;obtain ⟨bv,off2,rfl,bm,aY,aE,O,y⟩:=b8.out
       have Q:((m.decls.length:Int)+(j:Int))=((m.decls.length+j:Nat):Int):=N7
       have c7:IntKind.i64.wrap ((m.decls.length:Int)+(j:Int))=((m.decls.length+j:Nat):Int):=Oj
       have c6:((m.decls.length+j:Nat):Int)<f.length:=N7
       have U:(0:Int)<=((m.decls.length+j:Nat):Int):=N7
       obtain ⟨g,a9,au,bn,aH,B⟩:=ep L;clear b8 Q;generalize m.procs[j]=D at *;generalize f[m.decls.length+j]=x at *
       cases k:D.pub with
       | true=>
         have u:Hid (Row (w.heap.size+1) 98 4 (wr.alloc (mI D.name D.pub az D.params.length aT aK D.locals.length aU aW D.body.length bh)) u5 H.length (gp H)):=P.alloc _;have aa:Hid (eI (wr.alloc (mI D.name D.pub az D.params.length aT aK D.locals.length aU aW D.body.length bh)) (fun _=>False) (js x) [di x.kind,di x.n,di x.at_,.string x.name]):=sk l;have bl:Hid ((wr.alloc (mI D.name D.pub az D.params.length aT aK D.locals.length aU aW D.body.length bh)).heap[w.heap.size]? = some (jl m.name E m.uses.length ah a0 m.decls.length ae (some (dj b C)) m.procs.length c3 c m.main.length K)):=eR L;have r:Hid (dm w (wr.alloc (mI D.name D.pub az D.params.length aT aK D.locals.length aU aW D.body.length bh))):=dp ag (dn _ _);have aZ:Hid (pick ((ii m).take (m.decls.length+(j+1))) (f.take (m.decls.length+(j+1)))=H++[x]):=ak.trans (by rw [k];rfl)
         rw [k] at u aa bl r;clear l hbx ak;rw [k] at xp
         go_wp2_with (at_builtin;refine nx rfl (.tmp 38) (.tmp 47) 28 rfl (w.heap.size+1) 98 _ 4 40 Tryz.underlying28 Tryz.infoItem rfl N9 (wr.alloc (mI D.name true az D.params.length aT aK D.locals.length aU aW D.body.length bh)) u5 H.length (gp H) (js x) rfl u #[di x.kind,di x.n,di x.at_,.string x.name] _ Ob rfl rfl (fun _=>False) aa (fun b _ h=>h.elim) N7 N9 Of ?_)
         exact QR
       | false=>
         have u:Hid (Row (w.heap.size+1) 98 4 (wr.alloc (mI D.name D.pub az D.params.length aT aK D.locals.length aU aW D.body.length bh)) u5 H.length (gp H)):=P.alloc _;have bl:Hid ((wr.alloc (mI D.name D.pub az D.params.length aT aK D.locals.length aU aW D.body.length bh)).heap[w.heap.size]? = some (jl m.name E m.uses.length ah a0 m.decls.length ae (some (dj b C)) m.procs.length c3 c m.main.length K)):=eR L;have r:Hid (dm w (wr.alloc (mI D.name D.pub az D.params.length aT aK D.locals.length aU aW D.body.length bh))):=dp ag (dn _ _);have aZ:Hid (pick ((ii m).take (m.decls.length+(j+1))) (f.take (m.decls.length+(j+1)))=H):=ak.trans (by rw [k];simp);exact Rk
     . obtain rfl:j=m.procs.length:=by omega
       have z:Hid (pick (ii m) f=H):=by
        show pick (ii m) f=H;rw [t.out,iq Qj,iq (by rw [n.out];omega)]
       obtain ⟨V,av,rfl,hea⟩:=P.slice;have M:=hid hea;clear hea hbx;go_wp2_with fail;go_ret;refine ⟨⟨V,av,?_,?_⟩,ag⟩
       . rw [z.out];rfl
       . rw [z.out]
         exact M.moves ⟨dA _,fun b _ h=>⟨OW,rfl⟩⟩
end Go.Proofs.YtndkhgakfodldaaGreatDoor

namespace Go.Proofs.YtndkhgakfodldaaGreatDoor
open Go.RowKit Go.Maps Go.WideMaps Go.Shelf
variable {b:Nat} {af a4 am a5 ax:Value}
def yg (lo:Nat) (m:ec) (e:Ending) (w:World):Prop:=
 (iY m≠0/\e = .returned (.tuple #[.agg #[.string ⟨#[]⟩,dt],di (iY m)]))\/
 (iY m=0/\∃ a q,e = .returned (.tuple #[.agg #[.string m.name,.slice a (vr m).length q],di 0])/\ee w (lo<=·) a (vr m).length (gp (vr m)))
theorem tj {m:ec} (h:iY m=0):m.err=0:=by
 unfold iY at h
 by_cases ar:m.err=0
 . exact ar
 . rw [if_pos ar] at h;exact h
theorem Ku {w:World} {t:TypeId} (h:w.heap[b]? = some (.cells #[af,a4,am,a5,ax] t (0,0))):w.cell? (dj b 0)=some af/\w.cell? (dj b 1)=some a4/\w.cell? (dj b 2)=some am/\w.cell? (dj b 3)=some a5/\w.cell? (dj b 4)=some ax:=by
 obtain ⟨ab,F,J,U,aa,_⟩:=ep h;exact ⟨ab,F,J,U,aa⟩
theorem Kv {M:World} {c:Nat} (Z:b≠c) (h:M.cell? (dj b 0)=some af/\M.cell? (dj b 1)=some a4/\M.cell? (dj b 2)=some am/\M.cell? (dj b 3)=some a5/\M.cell? (dj b 4)=some ax) (u v:Value) :
 ((M.setCell (dj c 0) u).setCell (dj c 1) v).cell? (dj b 0)=some af/\((M.setCell (dj c 0) u).setCell (dj c 1) v).cell? (dj b 1)=some a4/\((M.setCell (dj c 0) u).setCell (dj c 1) v).cell? (dj b 2)=some am/\((M.setCell (dj c 0) u).setCell (dj c 1) v).cell? (dj b 3)=some a5/\((M.setCell (dj c 0) u).setCell (dj c 1) v).cell? (dj b 4)=some ax:=by
 have e:((M.setCell (dj c 0) u).setCell (dj c 1) v).heap[b]? = M.heap[b]?:=(eh Z _).trans (eh Z _)
 have al:∀ aj,((M.setCell (dj c 0) u).setCell (dj c 1) v).cell? (dj b aj)=M.cell? (dj b aj):=fun aj=>lY (w:=M) (a:=(dj b aj)) e
 exact ⟨(al 0).trans h.1,(al 1).trans h.2.1,(al 2).trans h.2.2.1,(al 3).trans h.2.2.2.1,(al 4).trans h.2.2.2.2⟩
theorem Kw (m:ec) (v:Value) (E:OA) (ah:Nat) (a0:OA) (ae:Nat) (a6:OA) (c3:Nat) (c:OA) (K:Nat) (w:World) (a7:gS w dQ m v E ah a0 ae a6 c3 c K) (a:kK m) :
 dw 15 #[v] w fun e G=>yg w.heap.size m e G/\dm w G:=by
 obtain rfl:=a7.val;have L:=hid a7;have ao:=hid (CR m _ E ah a0 ae a6 c3 c K ((w.alloc (jl m.name E m.uses.length ah a0 m.decls.length ae a6 m.procs.length c3 c m.main.length K)).alloc (.cells #[.string ⟨#[]⟩,dt] 30)) (a7.later (e6 _ _ _)) a);clear a7 a;go_enter func15,ntmps15;go_wp2_with fail;refine ao.mono ?_;rintro e dk ⟨rfl,aq⟩;have B:=hid (dp (e6 w _ _) aq);have ba:=aq.size;simp at ba;have az:=(aq.block w.heap.size Of).trans (eR (dX w _));have aK:dk.heap[w.heap.size+1]? = some (.cells #[.string ⟨#[]⟩,dt] 30):=(aq.block (w.heap.size+1) Ob).trans PY;have i:=hid az;have d:=hid aK;obtain ⟨af,a4,am,a5,ax,a1⟩:=ep az;obtain ⟨D,ad,yf⟩:=ml aK;have bg:=lt_of_heap az;have a9:=lt_of_heap aK;clear aq az aK ao
 by_cases W:iY m=0
 . have l:=yc (tj W)
   have bn:=hid l;have aG:=hid (ye m _ E ah a0 ae a6 c3 c K dk (L.later B) l);have b6:=hid W;clear l;rw [W];clear W;go_wp2_with fail;refine aG.mono ?_;rintro e w2 ⟨⟨bD,p,rfl,hit⟩,aN⟩;have O:=hid (dp B aN);have bA:=aN.size;have f:=hid ((aN.block _ bg).trans i);have g:=hid ((aN.block _ a9).trans d);obtain ⟨y,aD⟩:=yd hit;have aZ:=hid (fun M (ai:dm w2 M)=>Kt m _ E ah a0 ae a6 c3 c K (iF m) bD p M (L.later (dp O ai)) bn (ya m) (y.later ai) aD);clear aN aG hit y aD af a4 am a5 ax a1 D ad yf;obtain ⟨af,a4,am,a5,ax,a1⟩:=ep f;obtain ⟨D,ad,yf⟩:=ml g;have n:=lt_of_heap f;have j:=lt_of_heap g;have aQ:=hid (fun M (ai:dm w2 M)=>Ku ((ai.block _ n).trans f))
   have be:=hid (aQ _ (Below.refl _ w2).drew);have k:=hid (fun M (ai:dm w2 M)=>ml ((ai.block _ j).trans g));go_wp2_with fail;clear af a4 am a5 ax a1 D ad yf
   go_region_held (fun M=>M.cell? (dj w.heap.size 0)=some (.string m.name)/\M.cell? (dj w.heap.size 1)=some (.slice E m.uses.length ah)/\M.cell? (dj w.heap.size 2)=some (.slice a0 m.decls.length ae)/\M.cell? (dj w.heap.size 3)=some (.slice a6 m.procs.length c3)/\M.cell? (dj w.heap.size 4)=some (.slice c m.main.length K)) (first | exact be | exact Kv N7 be _ _)
    (first | (go_at_call 50;refine (aZ _ (Below.refl _ w2).drew).mono ?_;rintro e dC ⟨⟨V,av,rfl,he5⟩,T⟩;have t:=hid (dp (Below.refl _ w2).drew T);have x:=hid he5;clear he5 T;have be:=hid (aQ _ t);obtain ⟨D,ad,yf⟩:=k _ t;have bf:w.heap.size+1<dC.heap.size:=e4 j t.size))
   all_goals
    go_wp2_with fail;refine bodyPost_ret (v:=.tuple #[.agg #[.string m.name,.slice V (pick (ii m) (iF m)).length av],di 0]) (by simp [results,results15,go_sem,D,ad,bf]) rfl ⟨Or.inr ⟨b6,V,av,rfl,?_⟩,?_⟩
    . exact (x.moves (((dU.refl dC _).set (p:=⟨w.heap.size+1,0,none⟩) Pr _).set (p:=⟨w.heap.size+1,1,none⟩) Pr _)).moves ⟨dA _,fun b _ h=>⟨by have:w2.heap.size<=b:=h;show w.heap.size<=b;omega,rfl⟩⟩
    . exact ((dp O t).setCell (p:=⟨w.heap.size+1,0,none⟩) ON _).setCell (p:=⟨w.heap.size+1,1,none⟩) ON _
 . have aD:Hid (yg w.heap.size m (.returned (.tuple #[.agg #[.string ⟨#[]⟩,dt],di (iY m)])) ((dk.setCell ⟨w.heap.size+1,0,none⟩ (.string ⟨#[]⟩)).setCell ⟨w.heap.size+1,1,none⟩ (dt))):=Or.inl ⟨W,rfl⟩
   go_wp2_with fail;refine bodyPost_ret (v:=.tuple #[.agg #[.string ⟨#[]⟩,dt],di (iY m)]) (by simp [results,results15,go_sem,D,ad,a9]) rfl ⟨aD,?_⟩;exact (B.setCell (p:=⟨w.heap.size+1,0,none⟩) ON _).setCell (p:=⟨w.heap.size+1,1,none⟩) ON _
end Go.Proofs.YtndkhgakfodldaaGreatDoor

namespace Go.Proofs.YtndkhgakfodldaaGreatDoor
open Go.RowKit
variable {A:Nat->Prop} {a:OA} {w:World}
theorem CT:∀ (g:List dB) (i:Nat) (h:i<g.length) (j:Nat),j<5->(es g)[i*5+j]? = (g[i].ds)[j]?
 | [],i,h,_,_=>Pq
 | x :: r,0,_,j,a2=>by
   have:=x.ds_len;simp only [es,oz];rw [kh N7,gF,fY]
 | x :: r,i+1,h,j,a2=>by
   have:=x.ds_len;simp only [es,nD];rw [lC N7,show (i+1)*5+j - x.ds.length=i*5+j from N7];exact CT r i OU j a2
theorem CU:∀ (g:List du) (i:Nat) (h:i<g.length) (j:Nat),j<7->(eJ g)[i*7+j]? = (g[i].ds)[j]?
 | [],i,h,_,_=>Pq
 | x :: r,0,_,j,a2=>by
   have:=x.ds_len;simp only [eJ,oz];rw [kh N7,gF,fY]
 | x :: r,i+1,h,j,a2=>by
   have:=x.ds_len;simp only [eJ,nD];rw [lC N7,show (i+1)*7+j - x.ds.length=i*7+j from N7];exact CU r i OU j a2
def dN.ds (u:dN):List D:=[.str u.name,.list u.uses.length (eH u.uses),.int u.data,.list u.parts.length (ih u.parts),.list u.main.length (eJ u.main)]
def gJ (l:List dN):List D:=l.flatMap dN.ds
structure Kx (w:World) (A:Nat->Prop) (b o:Nat) (x:dB) (a1:OA) (k1:Nat):Prop where
 lt:b<w.heap.size
 c0:w.cell? (dj b o)=some (di x.op)
 c1:w.cell? ⟨b,o+1,none⟩=some (di x.n)
 c2:w.cell? ⟨b,o+2,none⟩=some (di x.m)
 c3:w.cell? ⟨b,o+3,none⟩=some (di x.at_)
 c4:w.cell? ⟨b,o+4,none⟩=some (.slice a1 x.args.length k1)
 args':dx w A a1 x.args.length (es x.args)
 w0:(Lit.int .i64 x.op).wf=true
 dk:(Lit.int .i64 x.n).wf=true
 w2:(Lit.int .i64 x.m).wf=true
 dC:(Lit.int .i64 x.at_).wf=true
theorem dx.nd {l:List dB} (h:dx w A a l.length (es l)) (i:Nat) (V:i<l.length):∃ b C E a9,a=some (dj b C)/\Kx w A b (C+i*5) l[i] E a9:=by
 obtain ⟨b,C,a7,I,W⟩:=h.cell N7;generalize S:l[i]=x;obtain ⟨T,n,m,g,O⟩:=x
 have al:∀ j d,j<5->(dB.mk T n m g O).ds[j]? = some d->∃ v,w.cell? ⟨b,C+i*5+j,none⟩=some v/\eO w A d v:=fun j d a2 hd=>by
  rw [ie];exact W (i*5+j) d ((CT l i V j a2).trans OQ)
 obtain ⟨aw,aH,bE⟩:=al 0 (.int T) N7 (by simp [dB.ds]);obtain ⟨aF,az,aT⟩:=al 1 (.int n) N7 (by simp [dB.ds]);obtain ⟨aM,aK,aU⟩:=al 2 (.int m) N7 (by simp [dB.ds]);obtain ⟨bl,aW,bh⟩:=al 3 (.int g) N7 (by simp [dB.ds]);obtain ⟨a8,bg,a3⟩:=al 4 (.list O.length (es O)) N7 (by simp [dB.ds]);obtain ⟨rfl,w0⟩:=gR bE;obtain ⟨rfl,dk⟩:=gR aT;obtain ⟨rfl,w2⟩:=gR aU;obtain ⟨rfl,dC⟩:=gR bh;obtain ⟨E,a9,rfl,F⟩:=ho a3;exact ⟨b,C,E,a9,a7,I,aH,az,aK,aW,bg,F,w0,dk,w2,dC⟩
structure Ky (w:World) (A:Nat->Prop) (b o:Nat) (x:du) (a1:OA) (k1:Nat) (a2:OA) (k2:Nat) (a3:OA) (k3:Nat):Prop where
 lt:b<w.heap.size
 c0:w.cell? (dj b o)=some (di x.op)
 c1:w.cell? ⟨b,o+1,none⟩=some (di x.n)
 c2:w.cell? ⟨b,o+2,none⟩=some (di x.m)
 c3:w.cell? ⟨b,o+3,none⟩=some (di x.at_)
 c4:w.cell? ⟨b,o+4,none⟩=some (.slice a1 x.args.length k1)
 c5:w.cell? ⟨b,o+5,none⟩=some (.slice a2 x.body.length k2)
 c6:w.cell? ⟨b,o+6,none⟩=some (.slice a3 x.other.length k3)
 args':dx w A a1 x.args.length (es x.args)
 body':dx w A a2 x.body.length (eJ x.body)
 other':dx w A a3 x.other.length (eJ x.other)
 w0:(Lit.int .i64 x.op).wf=true
 dk:(Lit.int .i64 x.n).wf=true
 w2:(Lit.int .i64 x.m).wf=true
 dC:(Lit.int .i64 x.at_).wf=true
theorem dx.ac {l:List du} (h:dx w A a l.length (eJ l)) (i:Nat) (V:i<l.length):∃ b C E a9 a0 au a6 bn,a=some (dj b C)/\Ky w A b (C+i*7) l[i] E a9 a0 au a6 bn:=by
 obtain ⟨b,C,a7,I,W⟩:=h.cell N7;generalize S:l[i]=x;obtain ⟨T,n,m,g,O,ac,Z⟩:=x
 have al:∀ j d,j<7->(du.mk T n m g O ac Z).ds[j]? = some d->∃ v,w.cell? ⟨b,C+i*7+j,none⟩=some v/\eO w A d v:=fun j d a2 hd=>by
  rw [ie];exact W (i*7+j) d ((CU l i V j a2).trans OQ)
 obtain ⟨aw,aH,bE⟩:=al 0 (.int T) N7 PS;obtain ⟨aF,az,aT⟩:=al 1 (.int n) N7 PS;obtain ⟨aM,aK,aU⟩:=al 2 (.int m) N7 PS;obtain ⟨bl,aW,bh⟩:=al 3 (.int g) N7 PS;obtain ⟨a8,bg,a3⟩:=al 4 (.list O.length (es O)) N7 PS;obtain ⟨u,q5,bp⟩:=al 5 (.list ac.length (eJ ac)) N7 PS;obtain ⟨o,q6,bL⟩:=al 6 (.list Z.length (eJ Z)) N7 PS;obtain ⟨rfl,w0⟩:=gR bE;obtain ⟨rfl,dk⟩:=gR aT;obtain ⟨rfl,w2⟩:=gR aU;obtain ⟨rfl,dC⟩:=gR bh;obtain ⟨E,a9,rfl,F⟩:=ho a3;obtain ⟨a0,au,rfl,J⟩:=ho bp;obtain ⟨a6,bn,rfl,U⟩:=ho bL;exact ⟨b,C,E,a9,a0,au,a6,bn,a7,I,aH,az,aK,aW,bg,q5,q6,F,J,U,w0,dk,w2,dC⟩
structure Kz (w:World) (A:Nat->Prop) (b o:Nat) (x:e5) (a1:OA) (k1:Nat):Prop where
 lt:b<w.heap.size
 c0:w.cell? (dj b o)=some (di x.params)
 c1:w.cell? ⟨b,o+1,none⟩=some (di x.locals)
 c2:w.cell? ⟨b,o+2,none⟩=some (.slice a1 x.body.length k1)
 body':dx w A a1 x.body.length (eJ x.body)
 w0:(Lit.int .i64 x.params).wf=true
 dk:(Lit.int .i64 x.locals).wf=true
theorem dx.pt {l:List e5} (h:dx w A a l.length (ih l)) (i:Nat) (V:i<l.length):∃ b C E a9,a=some (dj b C)/\Kz w A b (C+i*3) l[i] E a9:=by
 obtain ⟨b,C,a7,I,W⟩:=h.cell N7;generalize S:l[i]=x;obtain ⟨c,e,ac⟩:=x
 have al:∀ j d,j<3->(e5.mk c e ac).ds[j]? = some d->∃ v,w.cell? ⟨b,C+i*3+j,none⟩=some v/\eO w A d v:=fun j d a2 hd=>by
  rw [ie];exact W (i*3+j) d ((mg e5.ds 3 (fun _=>rfl) l i V j a2).trans OQ)
 obtain ⟨aw,aH,bE⟩:=al 0 (.int c) N7 (by simp [e5.ds]);obtain ⟨aF,az,aT⟩:=al 1 (.int e) N7 (by simp [e5.ds]);obtain ⟨aM,aK,aU⟩:=al 2 (.list ac.length (eJ ac)) N7 (by simp [e5.ds]);obtain ⟨rfl,w0⟩:=gR bE;obtain ⟨rfl,dk⟩:=gR aT;obtain ⟨E,a9,rfl,F⟩:=ho aU;exact ⟨b,C,E,a9,a7,I,aH,az,aK,F,w0,dk⟩
structure tp (w:World) (A:Nat->Prop) (b o:Nat) (x:dN) (a1:OA) (k1:Nat) (a2:OA) (k2:Nat) (a3:OA) (k3:Nat):Prop where
 lt:b<w.heap.size
 c0:w.cell? (dj b o)=some (.string x.name)
 c1:w.cell? ⟨b,o+1,none⟩=some (.slice a1 x.uses.length k1)
 c2:w.cell? ⟨b,o+2,none⟩=some (di x.data)
 c3:w.cell? ⟨b,o+3,none⟩=some (.slice a2 x.parts.length k2)
 c4:w.cell? ⟨b,o+4,none⟩=some (.slice a3 x.main.length k3)
 uses':dx w A a1 x.uses.length (eH x.uses)
 parts':dx w A a2 x.parts.length (ih x.parts)
 main':dx w A a3 x.main.length (eJ x.main)
 w0:x.name.size<=maxLen
 w2:(Lit.int .i64 x.data).wf=true
theorem dx.un {l:List dN} (h:dx w A a l.length (gJ l)) (i:Nat) (V:i<l.length):∃ b C E a9 a0 au a6 bn,a=some (dj b C)/\tp w A b (C+i*5) l[i] E a9 a0 au a6 bn:=by
 obtain ⟨b,C,a7,I,W⟩:=h.cell N7;generalize S:l[i]=x;obtain ⟨s,e,data,parts,main⟩:=x
 have al:∀ j d,j<5->(dN.mk s e data parts main).ds[j]? = some d->∃ v,w.cell? ⟨b,C+i*5+j,none⟩=some v/\eO w A d v:=fun j d a2 hd=>by
  rw [ie];exact W (i*5+j) d ((mg dN.ds 5 (fun _=>rfl) l i V j a2).trans OQ)
 obtain ⟨aw,aH,bE⟩:=al 0 (.str s) N7 P4;obtain ⟨aF,az,aT⟩:=al 1 (.list e.length (eH e)) N7 P4;obtain ⟨aM,aK,aU⟩:=al 2 (.int data) N7 P4;obtain ⟨bl,aW,bh⟩:=al 3 (.list parts.length (ih parts)) N7 P4;obtain ⟨a8,bg,a3⟩:=al 4 (.list main.length (eJ main)) N7 P4;obtain ⟨rfl,w0⟩:=k9 bE;obtain ⟨E,a9,rfl,F⟩:=ho aT;obtain ⟨rfl,w2⟩:=gR aU;obtain ⟨a0,au,rfl,J⟩:=ho bh;obtain ⟨a6,bn,rfl,U⟩:=ho a3;exact ⟨b,C,E,a9,a0,au,a6,bn,a7,I,aH,az,aK,aW,bg,F,J,U,w0,w2⟩
structure Ck where
 data:Int
 uses:Nat
 parts:List e5
 num:Int->Int->Int->Bool
 prt:Int->Int->Int->Bool
 locals:Int
def j5 (c:Ck) (m:Int):Bool:=decide (1<=m/\m<=c.uses)
def j6 (size g n:Int):Bool:=decide (0<=g/\g+n<=size)
def numB (c:Ck) (m g n:Int):Bool:=if m=0 then j6 c.data g n else j5 c m&&c.num m g n
def ij (l:List e5) (g k:Int):Bool:=decide (0<=g)&&(match l[g.toNat]? with | some D=>decide (D.params=k) | none=>false)
def f6 (c:Ck) (m g k:Int):Bool:=if m=0 then ij c.parts g k else j5 c m&&c.prt m g k
def kL (c:Ck) (n m g:Int):Bool:=decide (1<=n/\n<=32)&&numB c m g n
def kq (c:Ck) (g:Int):Bool:=decide (0<=g/\g<c.locals)
def kM (T:Int):Int:=if T=2 then 0 else if T=6 then 1 else if 7<=T/\T<=15 then 2 else -1
def eC (c:Ck) (x:dB):Bool:=
 if x.op=3 then decide (x.args.length=0)&&(decide (x.n=0)&&numB c x.m x.at_ 1)
 else if x.op=4 then decide (x.args.length=1)&&kL c x.n x.m x.at_
 else if x.op=5 then decide (x.n=0)&&f6 c x.m x.at_ x.args.length
 else if x.op=16 then decide (x.args.length=0)&&(decide (x.n=0)&&(decide (x.m=0)&&kq c x.at_))
 else if x.op=1 then decide (x.args.length=0)&&(decide (0<=x.n/\x.n<=1099511627775)&&(decide (x.m=0)&&decide (x.at_=0)))
 else decide ((x.args.length:Int)=kM x.op)&&(decide (x.n=0)&&(decide (x.m=0)&&decide (x.at_=0)))
def fO (c:Ck):Nat->List dB->Bool
 | 0,g=>decide (g.length=0)
 | k+1,g=>g.all fun x=>eC c x&&fO c k x.args
def eF (c:Ck) (a:du):Bool:=
 if a.op=1 then decide (a.args.length=1)&&(decide (a.n=0)&&(if a.m = -1 then kq c a.at_ else numB c a.m a.at_ 1))
 else if a.op=2 then decide (a.args.length=2)&&kL c a.n a.m a.at_
 else if a.op=3 then decide (a.n=0)&&f6 c a.m a.at_ a.args.length
 else if 4<=a.op/\a.op<=7 then decide (a.args.length=1)&&(decide (a.n=0)&&(decide (a.m=0)&&decide (a.at_=0)))
 else false
def fb (c:Ck):Nat->List du->Bool
 | 0,_=>false
 | k + 1,g=>decide (g.length<=10)&&g.all fun a=>eF c a&&(fO c 6 a.args &&
     (if a.op=4 then fb c k a.body&&fb c k a.other else if a.op=5 then fb c k a.body&&decide (a.other.length=0) else decide (a.body.length=0)&&decide (a.other.length=0)))
def iG (p:e5):Bool:=decide (0<=p.params/\p.params<=3)&&decide (0<=p.locals/\p.locals<=4)
def gb (u:dN):Bool:=decide (iY ⟨u.name,u.uses,[],[],[]⟩=0)&&(u.parts.all iG&&(decide (0<=u.data/\u.data<=512)&&decide (u.parts.length<=6)))
def fP (u:dN) (c a:Int->Int->Int->Bool) (e:Int):Ck:=⟨u.data,u.uses.length,u.parts,c,a,e⟩
def hf (u:dN) (c a:Int->Int->Int->Bool):Bool:=
 gb u&&(u.parts.all (fun D=>fb (fP u c a (D.params+D.locals)) 6 D.body)&&fb (fP u c a 0) 6 u.main)
end Go.Proofs.YtndkhgakfodldaaGreatDoor

namespace Go.Proofs.YtndkhgakfodldaaGreatDoor
open Go.RowKit Go.Maps Go.WideMaps
variable {K:Kn} {b n ad f y3:Nat} {w G:World} {a4 am a5:OA}
theorem KA {n:Int} (h:(Lit.int .i64 n).wf=true) : -9223372036854775808<=n/\n<=9223372036854775807:=by
 simp only [Lit.wf,dO,decide_eq_true_eq] at h;exact h
theorem tq (size g n:Int) (w:World) (F:0<=size) (J:size<=512) (U:1<=n) (aa:n<=32) (aj:(Lit.int .i64 g).wf=true) :
 dw 267 #[di size,di g,di n] w fun e G=>e = .returned (.bool (j6 size g n))/\G=w:=by
 obtain ⟨bd,bs⟩:=KA aj;clear aj
 by_cases a7:0<=g
 . by_cases I:g<=size - n
   . have z:Hid (j6 size g n=true):=decide_eq_true ⟨a7,N7⟩
     exact SF
   . have z:Hid (j6 size g n=false):=decide_eq_false N7
     have aB:size - n<g:=N7
     clear I;go_enter func267,ntmps267;go_wp2_with fail;go_ret;exact ⟨ret_bool Om,rfl⟩
 . have z:Hid (j6 size g n=false):=decide_eq_false N7
   have o:g<0:=N7
   clear a7;exact SF
theorem KB (T:Int) (w:World) :
 dw 269 #[di T] w fun e G=>e = .returned (di (kM T))/\G=w:=by
 by_cases J:T=2
 . subst J
   go_enter func269,ntmps269;exact RJ
 by_cases bj:T=6
 . subst bj
   go_enter func269,ntmps269;exact RJ
 by_cases ar:7<=T
 . by_cases c:T<=15
   . have z:Hid (kM T=2):=by show _=_;unfold kM;rw [if_neg J,if_neg bj,if_pos ⟨ar,c⟩]
     exact RG
   . have z:Hid (kM T = -1):=by show _=_;unfold kM;rw [if_neg J,if_neg bj,if_neg N7]
     have a:15<T:=N7
     clear c;exact RG
 . have z:Hid (kM T = -1):=by show _=_;unfold kM;rw [if_neg J,if_neg bj,if_neg N7]
   have b:T<7:=N7
   clear ar;exact RG
theorem CV (c:Ck) (s:ByteArray) (a4:OA) (ad:Nat) (am:OA) (f:Nat) (a5:OA) (r y3:Nat) (l:Value) (m:Int) (w:World) :
 dw 209 #[.agg #[.string s,.slice a4 c.uses ad,di c.data,.slice am c.parts.length f,.slice a5 r y3,l,di c.locals],di m] w fun e G=>e = .returned (.bool (kq c m))/\dm w G:=by
 by_cases a7:0<=m
 . by_cases I:m<c.locals
   . have z:Hid (kq c m=true):=decide_eq_true ⟨a7,I⟩
     go_enter func209,ntmps209;exact Qz
   . have z:Hid (kq c m=false):=decide_eq_false N7
     have aB:c.locals<=m:=N7
     clear I;go_enter func209,ntmps209;go_wp2_with fail;go_ret;exact ⟨ret_bool Om,dn _ _⟩
 . have z:Hid (kq c m=false):=decide_eq_false N7
   have o:m<0:=N7
   clear a7;go_enter func209,ntmps209;exact Qz
theorem vt (c:Ck) (s:ByteArray) (a4:OA) (ad:Nat) (am:OA) (f:Nat) (a5:OA) (r y3:Nat) (l:Value) (m:Int) (w:World) :
 dw 268 #[.agg #[.string s,.slice a4 c.uses ad,di c.data,.slice am c.parts.length f,.slice a5 r y3,l,di c.locals],di m] w fun e G=>e = .returned (.bool (j5 c m))/\dm w G:=by
 by_cases a7:1<=m
 . by_cases I:m<=c.uses
   . have z:Hid (j5 c m=true):=decide_eq_true ⟨a7,I⟩
     go_enter func268,ntmps268;exact Qz
   . have z:Hid (j5 c m=false):=decide_eq_false N7
     have aB:(c.uses:Int)<m:=N7
     clear I;go_enter func268,ntmps268;go_wp2_with fail;go_ret;exact ⟨ret_bool Om,dn _ _⟩
 . have z:Hid (j5 c m=false):=decide_eq_false N7
   have o:m<1:=N7
   clear a7;go_enter func268,ntmps268;exact Qz
structure mV (w:World) (c:Ck) (nf pf:FuncId) (v:Value):Prop where
 num:∀ W,dm w W->∀ m at_ n:Int,j5 c m=true->(Lit.int .i64 at_).wf=true->1<=n->n<=32->dw nf #[v,di m,di at_,di n] W fun e W'=>e = .returned (.bool (c.num m at_ n))/\dm W W'
 prt:∀ W,dm w W->∀ (m at_:Int) (k:Nat),j5 c m=true->(Lit.int .i64 at_).wf=true->k<=17592186044416->dw pf #[v,di m,di at_,di k] W fun e W'=>e = .returned (.bool (c.prt m at_ k))/\dm W W'
structure mp (w:World) (c:Ck) (cv:Value):Prop where
 num:∀ W,dm w W->∀ m at_ n:Int,(Lit.int .i64 m).wf=true->(Lit.int .i64 at_).wf=true->1<=n->n<=32->dw 210 #[cv,di m,di at_,di n] W fun e W'=>e = .returned (.bool (numB c m at_ n))/\dm W W'
 prt:∀ W,dm w W->∀ (m at_:Int) (k:Nat),(Lit.int .i64 m).wf=true->(Lit.int .i64 at_).wf=true->k<=17592186044416->dw 212 #[cv,di m,di at_,di k] W fun e W'=>e = .returned (.bool (f6 c m at_ k))/\dm W W'
theorem mp.later {c:Ck} {aA:Value} (h:mp w c aA) (I:dm w G):mp G c aA:=⟨fun M ai=>h.num M (dp I ai),fun M ai=>h.prt M (dp I ai)⟩
theorem mV.later {c:Ck} {a bV:FuncId} {v:Value} (h:mV w c a bV v) (I:dm w G):mV G c a bV v:=⟨fun M ai=>h.num M (dp I ai),fun M ai=>h.prt M (dp I ai)⟩
theorem fi {af a4 am a5 ax aG u:Value} {t:TypeId} (h:w.heap[b]? = some (.cells #[af,a4,am,a5,ax,aG,u] t (0,0))) :
 w.cell? (dj b 0)=some af/\w.cell? (dj b 1)=some a4/\w.cell? (dj b 2)=some am/\w.cell? (dj b 3)=some a5/\w.cell? (dj b 4)=some ax/\w.cell? (dj b 5)=some aG/\w.cell? (dj b 6)=some u/\b<w.heap.size:=by
 refine ⟨?_,?_,?_,?_,?_,?_,?_,lt_of_heap h⟩<;>(rw [eZ h];rfl)
theorem CW (w:World) (o p:Obj):((w.alloc o).alloc p).heap[w.heap.size+1]? = some p:=P2
theorem KC (o:OA) (a aA:Nat) (w:World):(nilAhead 337 199 (.slice o a aA) "HasNumbers").run prog w = .ok (some false) w:=by kernel_rfl
theorem KD (o:OA) (a aA:Nat) (w:World):(nilAhead 337 199 (.slice o a aA) "HasPart").run prog w = .ok (some false) w:=by kernel_rfl
theorem KE (o:OA) (a aA:Nat) (w:World):(method 337 199 (.slice o a aA) "HasNumbers").run prog w = .ok (329,.slice o a aA) w:=by kernel_rfl
theorem KF (o:OA) (a aA:Nat) (w:World):(method 337 199 (.slice o a aA) "HasPart").run prog w = .ok (330,.slice o a aA) w:=by kernel_rfl
theorem KG (c:Ck) (s:ByteArray) (a4:OA) (ad:Nat) (am:OA) (f:Nat) (a5:OA) (r y3:Nat) (o:OA) (a aA:Nat) (m g n:Int) (w:World) (x:0<=c.data) (aJ:c.data<=512) (aL:c.uses<=17592186044416) (b3:mV w c 329 330 (.slice o a aA)) (a1:(Lit.int .i64 m).wf=true) (a7:(Lit.int .i64 g).wf=true) (F:1<=n) (J:n<=32) :
 dw 210 #[.agg #[.string s,.slice a4 c.uses ad,di c.data,.slice am c.parts.length f,.slice a5 r y3,.iface 199 (.slice o a aA),di c.locals],di m,di g,di n] w fun e G=>e = .returned (.bool (numB c m g n))/\dm w G:=by
 have bA:=hid b3;have aR:=hid a7;clear b3 a7 a1;have ap:=KC o a aA;have ai:=KE o a aA
 by_cases ab:m=0
 . subst ab
   have z:Hid (numB c 0 g n=j6 c.data g n):=if_pos rfl;go_enter func210,ntmps210;go_wp2_with fail;refine (tq c.data g n _ x aJ F J aR).mono ?_;rintro e dk ⟨rfl,rfl⟩;exact Qz
 . have z:Hid (numB c m g n=(j5 c m&&c.num m g n)):=if_neg ab
   have y:=hid (vt c s a4 ad am f a5 r y3 (.iface 199 (.slice o a aA)) m (w.alloc (.cells #[.string s,.slice a4 c.uses ad,di c.data,.slice am c.parts.length f,.slice a5 r y3,.iface 199 (.slice o a aA),di c.locals] 206)))
   cases I:j5 c m with
   | false=>
     rw [I] at y z;go_enter func210,ntmps210;go_wp2_with fail;refine y.mono ?_;rintro e dk ⟨rfl,aq⟩;have B:=hid (dp (dn w _) aq);clear aq;exact Qu
   | true=>
     rw [I] at y z;have aQ:=hid I;clear I;go_enter func210,ntmps210;go_wp2_with fail;refine y.mono ?_;rintro e dk ⟨rfl,aq⟩;have B:=hid (dp (dn w _) aq);have az:=(aq.block _ Ob).trans (dX w (.cells #[.string s,.slice a4 c.uses ad,di c.data,.slice am c.parts.length f,.slice a5 r y3,.iface 199 (.slice o a aA),di c.locals] 206));obtain ⟨bt,ah,ae,c3,K,av,aW,cz⟩:=fi az;clear aq az bt ah ae c3 K aW y
     go_wp2_with (go_at_call 329;refine (bA.num _ B m g n aQ aR F J).mono ?_;rintro e w2 ⟨rfl,aN⟩;have O:=hid (dp B aN);clear aN)
     exact SG
theorem KH (c:Ck) (s:ByteArray) (a4:OA) (ad:Nat) (am:OA) (f:Nat) (a5:OA) (r y3:Nat) (o:OA) (a aA:Nat) (m g:Int) (k:Nat) (w:World) (bC:dx w dQ am c.parts.length (ih c.parts)) (aL:c.uses<=17592186044416) (b3:mV w c 329 330 (.slice o a aA)) (a1:(Lit.int .i64 m).wf=true) (a7:(Lit.int .i64 g).wf=true) (N:k<=17592186044416) :
 dw 212 #[.agg #[.string s,.slice a4 c.uses ad,di c.data,.slice am c.parts.length f,.slice a5 r y3,.iface 199 (.slice o a aA),di c.locals],di m,di g,di k] w fun e G=>e = .returned (.bool (f6 c m g k))/\dm w G:=by
 have bA:=hid b3;have aR:=hid a7;have A:=hid bC;have c2:=bC.bound;clear b3 a7 a1 bC;have ap:=KD o a aA;have ai:=KF o a aA
 by_cases ab:m=0
 . subst ab
   have z:Hid (f6 c 0 g k=ij c.parts g k):=if_pos rfl
   by_cases b8:0<=g
   . obtain ⟨i,rfl⟩:∃ i:Nat,g=i:=⟨g.toNat,N7⟩
     by_cases b7:i<c.parts.length
     . obtain ⟨b,C,b4,aj,rfl,S⟩:=(A.later (dn w (.cells #[.string s,.slice a4 c.uses ad,di c.data,.slice am c.parts.length f,.slice a5 r y3,.iface 199 (.slice o a aA),di c.locals] 206))).pt i b7
       exact Qx
     . have n:Hid (f6 c 0 i k=false):=by show _=_;rw [z.out];unfold ij;rw [ir,mL N7];simp
       have t:c.parts.length<=i:=N7
       clear b7;exact Q6
   . have n:Hid (f6 c 0 g k=false):=by show _=_;rw [z.out];unfold ij;rw [decide_eq_false b8];rfl
     have l:g<0:=N7
     clear b8;exact Q6
 . have z:Hid (f6 c m g k=(j5 c m&&c.prt m g k)):=if_neg ab
   have y:=hid (vt c s a4 ad am f a5 r y3 (.iface 199 (.slice o a aA)) m (w.alloc (.cells #[.string s,.slice a4 c.uses ad,di c.data,.slice am c.parts.length f,.slice a5 r y3,.iface 199 (.slice o a aA),di c.locals] 206)))
   cases I:j5 c m with
   | false=>
     rw [I] at y z;go_enter func212,ntmps212;go_wp2_with fail;refine y.mono ?_;rintro e dk ⟨rfl,aq⟩;have B:=hid (dp (dn w _) aq);clear aq;exact Qu
   | true=>
     rw [I] at y z;have aQ:=hid I;clear I;go_enter func212,ntmps212;go_wp2_with fail;refine y.mono ?_;rintro e dk ⟨rfl,aq⟩;have B:=hid (dp (dn w _) aq);have az:=(aq.block _ Ob).trans (dX w (.cells #[.string s,.slice a4 c.uses ad,di c.data,.slice am c.parts.length f,.slice a5 r y3,.iface 199 (.slice o a aA),di c.locals] 206));obtain ⟨bt,ah,ae,c3,K,av,aW,cz⟩:=fi az;clear aq az bt ah ae c3 K aW y
     go_wp2_with (go_at_call 330;refine (bA.prt _ B m g k aQ aR N).mono ?_;rintro e w2 ⟨rfl,aN⟩;have O:=hid (dp B aN);clear aN)
     exact SG
theorem KI (c:Ck) (s:ByteArray) (a4:OA) (ad:Nat) (am:OA) (f:Nat) (a5:OA) (r y3:Nat) (o:OA) (a aA:Nat) (w:World) (x:0<=c.data) (aJ:c.data<=512) (aL:c.uses<=17592186044416) (bC:dx w dQ am c.parts.length (ih c.parts)) (b3:mV w c 329 330 (.slice o a aA)):mp w c (.agg #[.string s,.slice a4 c.uses ad,di c.data,.slice am c.parts.length f,.slice a5 r y3,.iface 199 (.slice o a aA),di c.locals]):=
 ⟨fun M ai m g n F J U aa=>KG c s a4 ad am f a5 r y3 o a aA m g n M x aJ aL (b3.later ai) F J U aa,fun M ai m g k F J U=>KH c s a4 ad am f a5 r y3 o a aA m g k M (bC.later ai) aL (b3.later ai) F J U⟩
theorem KJ (w:World):(nilAhead 337 133 (.agg #[]) "HasNumbers").run prog w = .ok (some false) w:=by kernel_rfl
theorem KK (w:World):(nilAhead 337 133 (.agg #[]) "HasPart").run prog w = .ok (some false) w:=by kernel_rfl
theorem KL (w:World):(method 337 133 (.agg #[]) "HasNumbers").run prog w = .ok (327,.agg #[]) w:=by kernel_rfl
theorem KM (w:World):(method 337 133 (.agg #[]) "HasPart").run prog w = .ok (328,.agg #[]) w:=by kernel_rfl
theorem KN (c:Ck) (s:ByteArray) (a4:OA) (ad:Nat) (am:OA) (f:Nat) (a5:OA) (r y3:Nat) (m g n:Int) (w:World) (x:0<=c.data) (aJ:c.data<=512) (aL:c.uses<=17592186044416) (b3:mV w c 327 328 (.agg #[])) (a1:(Lit.int .i64 m).wf=true) (a7:(Lit.int .i64 g).wf=true) (F:1<=n) (J:n<=32) :
 dw 210 #[.agg #[.string s,.slice a4 c.uses ad,di c.data,.slice am c.parts.length f,.slice a5 r y3,.iface 133 (.agg #[]),di c.locals],di m,di g,di n] w fun e G=>e = .returned (.bool (numB c m g n))/\dm w G:=by
 have bA:=hid b3;have aR:=hid a7;clear b3 a7 a1;have ap:=KJ;have ai:=KL
 by_cases ab:m=0
 . subst ab
   have z:Hid (numB c 0 g n=j6 c.data g n):=if_pos rfl;go_enter func210,ntmps210;go_wp2_with fail;refine (tq c.data g n _ x aJ F J aR).mono ?_;rintro e dk ⟨rfl,rfl⟩;exact Qz
 . have z:Hid (numB c m g n=(j5 c m&&c.num m g n)):=if_neg ab
   have y:=hid (vt c s a4 ad am f a5 r y3 (.iface 133 (.agg #[])) m (w.alloc (.cells #[.string s,.slice a4 c.uses ad,di c.data,.slice am c.parts.length f,.slice a5 r y3,.iface 133 (.agg #[]),di c.locals] 206)))
   cases I:j5 c m with
   | false=>
     rw [I] at y z;go_enter func210,ntmps210;go_wp2_with fail;refine y.mono ?_;rintro e dk ⟨rfl,aq⟩;have B:=hid (dp (dn w _) aq);clear aq;exact Qu
   | true=>
     rw [I] at y z;have aQ:=hid I;clear I;go_enter func210,ntmps210;go_wp2_with fail;refine y.mono ?_;rintro e dk ⟨rfl,aq⟩;have B:=hid (dp (dn w _) aq);have az:=(aq.block _ Ob).trans (dX w (.cells #[.string s,.slice a4 c.uses ad,di c.data,.slice am c.parts.length f,.slice a5 r y3,.iface 133 (.agg #[]),di c.locals] 206));obtain ⟨bt,ah,ae,c3,K,av,aW,cz⟩:=fi az;clear aq az bt ah ae c3 K aW y
     go_wp2_with (go_at_call 327;refine (bA.num _ B m g n aQ aR F J).mono ?_;rintro e w2 ⟨rfl,aN⟩;have O:=hid (dp B aN);clear aN)
     exact SG
theorem KO (c:Ck) (s:ByteArray) (a4:OA) (ad:Nat) (am:OA) (f:Nat) (a5:OA) (r y3:Nat) (m g:Int) (k:Nat) (w:World) (bC:dx w dQ am c.parts.length (ih c.parts)) (aL:c.uses<=17592186044416) (b3:mV w c 327 328 (.agg #[])) (a1:(Lit.int .i64 m).wf=true) (a7:(Lit.int .i64 g).wf=true) (N:k<=17592186044416) :
 dw 212 #[.agg #[.string s,.slice a4 c.uses ad,di c.data,.slice am c.parts.length f,.slice a5 r y3,.iface 133 (.agg #[]),di c.locals],di m,di g,di k] w fun e G=>e = .returned (.bool (f6 c m g k))/\dm w G:=by
 have bA:=hid b3;have aR:=hid a7;have A:=hid bC;have c2:=bC.bound;clear b3 a7 a1 bC;have ap:=KK;have ai:=KM
 by_cases ab:m=0
 . subst ab
   have z:Hid (f6 c 0 g k=ij c.parts g k):=if_pos rfl
   by_cases b8:0<=g
   . obtain ⟨i,rfl⟩:∃ i:Nat,g=i:=⟨g.toNat,N7⟩
     by_cases b7:i<c.parts.length
     . obtain ⟨b,C,b4,aj,rfl,S⟩:=(A.later (dn w (.cells #[.string s,.slice a4 c.uses ad,di c.data,.slice am c.parts.length f,.slice a5 r y3,.iface 133 (.agg #[]),di c.locals] 206))).pt i b7
       exact Qx
     . have n:Hid (f6 c 0 i k=false):=by show _=_;rw [z.out];unfold ij;rw [ir,mL N7];simp
       have t:c.parts.length<=i:=N7
       clear b7;exact Q6
   . have n:Hid (f6 c 0 g k=false):=by show _=_;rw [z.out];unfold ij;rw [decide_eq_false b8];rfl
     have l:g<0:=N7
     clear b8;exact Q6
 . have z:Hid (f6 c m g k=(j5 c m&&c.prt m g k)):=if_neg ab
   have y:=hid (vt c s a4 ad am f a5 r y3 (.iface 133 (.agg #[])) m (w.alloc (.cells #[.string s,.slice a4 c.uses ad,di c.data,.slice am c.parts.length f,.slice a5 r y3,.iface 133 (.agg #[]),di c.locals] 206)))
   cases I:j5 c m with
   | false=>
     rw [I] at y z;go_enter func212,ntmps212;go_wp2_with fail;refine y.mono ?_;rintro e dk ⟨rfl,aq⟩;have B:=hid (dp (dn w _) aq);clear aq;exact Qu
   | true=>
     rw [I] at y z;have aQ:=hid I;clear I;go_enter func212,ntmps212;go_wp2_with fail;refine y.mono ?_;rintro e dk ⟨rfl,aq⟩;have B:=hid (dp (dn w _) aq);have az:=(aq.block _ Ob).trans (dX w (.cells #[.string s,.slice a4 c.uses ad,di c.data,.slice am c.parts.length f,.slice a5 r y3,.iface 133 (.agg #[]),di c.locals] 206));obtain ⟨bt,ah,ae,c3,K,av,aW,cz⟩:=fi az;clear aq az bt ah ae c3 K aW y
     go_wp2_with (go_at_call 328;refine (bA.prt _ B m g k aQ aR N).mono ?_;rintro e w2 ⟨rfl,aN⟩;have O:=hid (dp B aN);clear aN)
     exact SG
theorem KP (c:Ck) (s:ByteArray) (a4:OA) (ad:Nat) (am:OA) (f:Nat) (a5:OA) (r y3:Nat) (w:World) (x:0<=c.data) (aJ:c.data<=512) (aL:c.uses<=17592186044416) (bC:dx w dQ am c.parts.length (ih c.parts)) (b3:mV w c 327 328 (.agg #[])):mp w c (.agg #[.string s,.slice a4 c.uses ad,di c.data,.slice am c.parts.length f,.slice a5 r y3,.iface 133 (.agg #[]),di c.locals]):=
 ⟨fun M ai m g n F J U aa=>KN c s a4 ad am f a5 r y3 m g n M x aJ aL (b3.later ai) F J U aa,fun M ai m g k F J U=>KO c s a4 ad am f a5 r y3 m g k M (bC.later ai) aL (b3.later ai) F J U⟩
theorem CX (c:Ck) (s:ByteArray) (a4:OA) (ad:Nat) (am:OA) (f:Nat) (a5:OA) (r y3:Nat) (l:Value) (n m g:Int) (w:World) (bj:mp w c (.agg #[.string s,.slice a4 c.uses ad,di c.data,.slice am c.parts.length f,.slice a5 r y3,l,di c.locals])) (a1:(Lit.int .i64 m).wf=true) (a7:(Lit.int .i64 g).wf=true) :
 dw 211 #[.agg #[.string s,.slice a4 c.uses ad,di c.data,.slice am c.parts.length f,.slice a5 r y3,l,di c.locals],di n,di m,di g] w fun e G=>e = .returned (.bool (kL c n m g))/\dm w G:=by
 have aV:=hid (fun F J=>bj.num (w.alloc (.cells #[.string s,.slice a4 c.uses ad,di c.data,.slice am c.parts.length f,.slice a5 r y3,l,di c.locals] 206)) (dn _ _) m g n a1 a7 F J);clear bj a1 a7
 by_cases F:1<=n
 . by_cases J:n<=32
   . have z:Hid (kL c n m g=numB c m g n):=by show _=_;unfold kL;rw [decide_eq_true ⟨F,J⟩];rfl
     go_enter func211,ntmps211;go_wp2_with fail;refine (aV F J).mono ?_;rintro e dk ⟨rfl,aq⟩;have B:=hid (dp (dn w _) aq);clear aq;exact Qu
   . have z:Hid (kL c n m g=false):=by show _=_;unfold kL;rw [decide_eq_false N7];rfl
     have b:32<n:=N7
     clear J aV;go_enter func211,ntmps211;exact Qz
 . have z:Hid (kL c n m g=false):=by show _=_;unfold kL;rw [decide_eq_false N7];rfl
   have o:n<1:=N7
   clear F aV;go_enter func211,ntmps211;exact Qz
theorem KQ (c:Ck) (s:ByteArray) (a4:OA) (ad:Nat) (am:OA) (f:Nat) (a5:OA) (r y3:Nat) (l:Value) (x:dB) (ak:OA) (cp:Nat) (w:World) (bj:mp w c (.agg #[.string s,.slice a4 c.uses ad,di c.data,.slice am c.parts.length f,.slice a5 r y3,l,di c.locals])) (a1:(Lit.int .i64 x.m).wf=true) (a7:(Lit.int .i64 x.at_).wf=true) (X:x.args.length<=17592186044416) :
 dw 213 #[.agg #[.string s,.slice a4 c.uses ad,di c.data,.slice am c.parts.length f,.slice a5 r y3,l,di c.locals],.agg #[di x.op,di x.n,di x.m,di x.at_,.slice ak x.args.length cp]] w fun e G=>e = .returned (.bool (eC c x))/\dm w G:=by
 obtain ⟨T,n,m,g,O⟩:=x;simp only [dB.op,dB.n,dB.m,dB.at_,dB.args] at *;have ao:=hid bj;have L:=hid a1;have aR:=hid a7;clear bj a1 a7
 by_cases V:T=3
 . subst V
   by_cases b7:O.length=0
   . by_cases b8:n=0
     . have z:Hid (eC c (.mk 3 n m g O)=numB c m g 1):=by show _=_;unfold eC;simp only [dB.op,dB.n,dB.m,dB.at_,dB.args];simp [*]
       go_enter func213,ntmps213;go_wp2_with fail;refine (ao.num _ (et _ _ _) m g 1 L aR N9 N9).mono ?_;rintro e dk ⟨rfl,aq⟩;have B:=hid (dp (et w _ _) aq);clear aq;exact Qu
     . have z:Hid (eC c (.mk 3 n m g O)=false):=by show _=_;unfold eC;simp only [dB.op,dB.n,dB.m,dB.at_,dB.args];simp [*]
       have D:n≠0:=N7
       clear b8;go_enter func213,ntmps213;exact Qo
   . have z:Hid (eC c (.mk 3 n m g O)=false):=by show _=_;unfold eC;simp only [dB.op,dB.n,dB.m,dB.at_,dB.args];simp [*]
     have D:O.length≠0:=N7
     clear b7;go_enter func213,ntmps213;exact Qo
 by_cases au:T=4
 . subst au
   by_cases b8:O.length=1
   . have z:Hid (eC c (.mk 4 n m g O)=kL c n m g):=by show _=_;unfold eC;simp only [dB.op,dB.n,dB.m,dB.at_,dB.args];simp [*]
     go_enter func213,ntmps213;go_wp2_with fail;refine (CX c s a4 ad am f a5 r y3 l n m g _ (ao.later (et _ _ _)) L aR).mono ?_;rintro e dk ⟨rfl,aq⟩;have B:=hid (dp (et w _ _) aq);clear aq;exact Qu
   . have z:Hid (eC c (.mk 4 n m g O)=false):=by show _=_;unfold eC;simp only [dB.op,dB.n,dB.m,dB.at_,dB.args];simp [*]
     have D:O.length≠1:=N7
     clear b8;go_enter func213,ntmps213;exact Qo
 by_cases i:T=5
 . subst i
   by_cases b8:n=0
   . have z:Hid (eC c (.mk 5 n m g O)=f6 c m g O.length):=by show _=_;unfold eC;simp only [dB.op,dB.n,dB.m,dB.at_,dB.args];simp [*]
     go_enter func213,ntmps213;go_wp2_with fail;refine (ao.prt _ (et _ _ _) m g O.length L aR X).mono ?_;rintro e dk ⟨rfl,aq⟩;have B:=hid (dp (et w _ _) aq);clear aq;exact Qu
   . have z:Hid (eC c (.mk 5 n m g O)=false):=by show _=_;unfold eC;simp only [dB.op,dB.n,dB.m,dB.at_,dB.args];simp [*]
     have D:n≠0:=N7
     clear b8;go_enter func213,ntmps213;exact Qo
 by_cases j:T=16
 . subst j
   by_cases b6:O.length=0
   . by_cases b7:n=0
     . by_cases b8:m=0
       . have z:Hid (eC c (.mk 16 n m g O)=kq c g):=by show _=_;unfold eC;simp only [dB.op,dB.n,dB.m,dB.at_,dB.args];simp [*]
         go_enter func213,ntmps213;go_wp2_with fail;refine (CV c s a4 ad am f a5 r y3 l g _).mono ?_;rintro e dk ⟨rfl,aq⟩;have B:=hid (dp (et w _ _) aq);clear aq;exact Qu
       . have z:Hid (eC c (.mk 16 n m g O)=false):=by show _=_;unfold eC;simp only [dB.op,dB.n,dB.m,dB.at_,dB.args];simp [*]
         have D:m≠0:=N7
         clear b8;go_enter func213,ntmps213;exact Qo
     . have z:Hid (eC c (.mk 16 n m g O)=false):=by show _=_;unfold eC;simp only [dB.op,dB.n,dB.m,dB.at_,dB.args];simp [*]
       have D:n≠0:=N7
       clear b7;go_enter func213,ntmps213;exact Qo
   . have z:Hid (eC c (.mk 16 n m g O)=false):=by show _=_;unfold eC;simp only [dB.op,dB.n,dB.m,dB.at_,dB.args];simp [*]
     have D:O.length≠0:=N7
     clear b6;go_enter func213,ntmps213;exact Qo
 by_cases bE:T=1
 . subst bE
   by_cases k:O.length=0
   . by_cases aB:0<=n
     . by_cases b6:n<=1099511627775
       . by_cases b7:m=0
         . by_cases b8:g=0
           . have z:Hid (eC c (.mk 1 n m g O)=true):=by show _=_;unfold eC;simp only [dB.op,dB.n,dB.m,dB.at_,dB.args];simp [*]
             go_enter func213,ntmps213;exact Qo
           . have z:Hid (eC c (.mk 1 n m g O)=false):=by show _=_;unfold eC;simp only [dB.op,dB.n,dB.m,dB.at_,dB.args];simp [*]
             have D:g≠0:=N7
             clear b8;go_enter func213,ntmps213;go_wp2_with fail;go_ret;exact ⟨ret_bool Om,et _ _ _⟩
         . have z:Hid (eC c (.mk 1 n m g O)=false):=by show _=_;unfold eC;simp only [dB.op,dB.n,dB.m,dB.at_,dB.args];simp [*]
           have D:m≠0:=N7
           clear b7;go_enter func213,ntmps213;exact Qo
       . have z:Hid (eC c (.mk 1 n m g O)=false):=by show _=_;unfold eC;simp only [dB.op,dB.n,dB.m,dB.at_,dB.args];simp [*]
         have D:1099511627775<n:=N7
         clear b6;go_enter func213,ntmps213;exact Qo
     . have z:Hid (eC c (.mk 1 n m g O)=false):=by show _=_;unfold eC;simp only [dB.op,dB.n,dB.m,dB.at_,dB.args];simp [*]
       have D:n<0:=N7
       clear aB;go_enter func213,ntmps213;exact Qo
   . have z:Hid (eC c (.mk 1 n m g O)=false):=by show _=_;unfold eC;simp only [dB.op,dB.n,dB.m,dB.at_,dB.args];simp [*]
     have D:O.length≠0:=N7
     clear k;go_enter func213,ntmps213;exact Qo
 have br:Hid (eC c (.mk T n m g O)=(decide ((O.length:Int)=kM T)&&(decide (n=0)&&(decide (m=0)&&decide (g=0))))):=by
  show _=_;unfold eC;exact (if_neg V).trans ((if_neg au).trans ((if_neg i).trans ((if_neg j).trans (if_neg bE))))
 have bz:=hid (KB T);generalize kM T=al at *
 by_cases aB:(O.length:Int)=al
 . by_cases b6:n=0
   . by_cases b7:m=0
     . by_cases b8:g=0
       . have z:Hid (eC c (.mk T n m g O)=true):=by show _=_;rw [br.out];simp [*]
         go_enter func213,ntmps213;go_wp2_with fail;refine (bz _).mono ?_;rintro e dk ⟨rfl,rfl⟩;exact Qo
       . have z:Hid (eC c (.mk T n m g O)=false):=by show _=_;rw [br.out];simp [*]
         have D:g≠0:=N7
         clear b8;go_enter func213,ntmps213;go_wp2_with fail;refine (bz _).mono ?_;rintro e dk ⟨rfl,rfl⟩;go_wp2_with fail;go_ret;exact ⟨ret_bool Om,et _ _ _⟩
     . have z:Hid (eC c (.mk T n m g O)=false):=by show _=_;rw [br.out];simp [*]
       have D:m≠0:=N7
       clear b7;go_enter func213,ntmps213;go_wp2_with fail;refine (bz _).mono ?_;rintro e dk ⟨rfl,rfl⟩;exact Qo
   . have z:Hid (eC c (.mk T n m g O)=false):=by show _=_;rw [br.out];simp [*]
     have D:n≠0:=N7
     clear b6;go_enter func213,ntmps213;go_wp2_with fail;refine (bz _).mono ?_;rintro e dk ⟨rfl,rfl⟩;exact Qo
 . have z:Hid (eC c (.mk T n m g O)=false):=by show _=_;rw [br.out];simp [*]
   have D:(O.length:Int)≠al:=N7
   clear aB;go_enter func213,ntmps213;go_wp2_with fail;refine (bz _).mono ?_;rintro e dk ⟨rfl,rfl⟩;exact Qo
theorem KR (c:Ck) (s:ByteArray) (a4:OA) (ad:Nat) (am:OA) (f:Nat) (a5:OA) (r y3:Nat) (l:Value) (x:du) (ak:OA) (cp:Nat) (b4:OA) (aj:Nat) (Q:OA) (W:Nat) (w:World) (bj:mp w c (.agg #[.string s,.slice a4 c.uses ad,di c.data,.slice am c.parts.length f,.slice a5 r y3,l,di c.locals])) (a1:(Lit.int .i64 x.m).wf=true) (a7:(Lit.int .i64 x.at_).wf=true) (X:x.args.length<=17592186044416) :
 dw 169 #[.agg #[.string s,.slice a4 c.uses ad,di c.data,.slice am c.parts.length f,.slice a5 r y3,l,di c.locals],.agg #[di x.op,di x.n,di x.m,di x.at_,.slice ak x.args.length cp,.slice b4 x.body.length aj,.slice Q x.other.length W]] w fun e G=>e = .returned (.bool (eF c x))/\dm w G:=by
 obtain ⟨T,n,m,g,O,ac,Z⟩:=x;simp only [du.op,du.n,du.m,du.at_,du.args,du.body,du.other] at *;have ao:=hid bj;have L:=hid a1;have aR:=hid a7;clear bj a1 a7
 by_cases bE:T=1
 . subst bE
   by_cases a:m = -1
   . subst a
     by_cases b7:O.length=1
     . by_cases b8:n=0
       . have z:Hid (eF c (.mk 1 n (-1) g O ac Z)=kq c g):=by show _=_;unfold eF;simp only [du.op,du.n,du.m,du.at_,du.args];simp [*]
         go_enter func169,ntmps169;go_wp2_with fail;refine (CV c s a4 ad am f a5 r y3 l g _).mono ?_;rintro e dk ⟨rfl,aq⟩;have B:=hid (dp (et w _ _) aq);clear aq;exact Qu
       . have z:Hid (eF c (.mk 1 n (-1) g O ac Z)=false):=by show _=_;unfold eF;simp only [du.op,du.n,du.m,du.at_,du.args];simp [*]
         have D:n≠0:=N7
         clear b8;go_enter func169,ntmps169;exact Qo
     . have z:Hid (eF c (.mk 1 n (-1) g O ac Z)=false):=by show _=_;unfold eF;simp only [du.op,du.n,du.m,du.at_,du.args];simp [*]
       have D:O.length≠1:=N7
       clear b7;go_enter func169,ntmps169;exact Qo
   . by_cases b7:O.length=1
     . by_cases b8:n=0
       . have z:Hid (eF c (.mk 1 n m g O ac Z)=numB c m g 1):=by show _=_;unfold eF;simp only [du.op,du.n,du.m,du.at_,du.args];simp [*]
         go_enter func169,ntmps169;go_wp2_with fail;refine (ao.num _ (et _ _ _) m g 1 L aR N9 N9).mono ?_;rintro e dk ⟨rfl,aq⟩;have B:=hid (dp (et w _ _) aq);clear aq;exact Qu
       . have z:Hid (eF c (.mk 1 n m g O ac Z)=false):=by show _=_;unfold eF;simp only [du.op,du.n,du.m,du.at_,du.args];simp [*]
         have D:n≠0:=N7
         clear b8;go_enter func169,ntmps169;exact Qo
     . have z:Hid (eF c (.mk 1 n m g O ac Z)=false):=by show _=_;unfold eF;simp only [du.op,du.n,du.m,du.at_,du.args];simp [*]
       have D:O.length≠1:=N7
       clear b7;go_enter func169,ntmps169;exact Qo
 by_cases ab:T=2
 . subst ab
   by_cases b8:O.length=2
   . have z:Hid (eF c (.mk 2 n m g O ac Z)=kL c n m g):=by show _=_;unfold eF;simp only [du.op,du.n,du.m,du.at_,du.args];simp [*]
     go_enter func169,ntmps169;go_wp2_with fail;refine (CX c s a4 ad am f a5 r y3 l n m g _ (ao.later (et _ _ _)) L aR).mono ?_;rintro e dk ⟨rfl,aq⟩;have B:=hid (dp (et w _ _) aq);clear aq;exact Qu
   . have z:Hid (eF c (.mk 2 n m g O ac Z)=false):=by show _=_;unfold eF;simp only [du.op,du.n,du.m,du.at_,du.args];simp [*]
     have D:O.length≠2:=N7
     clear b8;go_enter func169,ntmps169;exact Qo
 by_cases V:T=3
 . subst V
   by_cases b8:n=0
   . have z:Hid (eF c (.mk 3 n m g O ac Z)=f6 c m g O.length):=by show _=_;unfold eF;simp only [du.op,du.n,du.m,du.at_,du.args];simp [*]
     go_enter func169,ntmps169;go_wp2_with fail;refine (ao.prt _ (et _ _ _) m g O.length L aR X).mono ?_;rintro e dk ⟨rfl,aq⟩;have B:=hid (dp (et w _ _) aq);clear aq;exact Qu
   . have z:Hid (eF c (.mk 3 n m g O ac Z)=false):=by show _=_;unfold eF;simp only [du.op,du.n,du.m,du.at_,du.args];simp [*]
     have D:n≠0:=N7
     clear b8;go_enter func169,ntmps169;exact Qo
 by_cases au:T=4
 . subst au
   by_cases aB:O.length=1
   . by_cases b6:n=0
     . by_cases b7:m=0
       . by_cases b8:g=0
         . have z:Hid (eF c (.mk 4 n m g O ac Z)=true):=by show _=_;unfold eF;simp only [du.op,du.n,du.m,du.at_,du.args];simp [*]
           go_enter func169,ntmps169;exact Qo
         . have z:Hid (eF c (.mk 4 n m g O ac Z)=false):=by show _=_;unfold eF;simp only [du.op,du.n,du.m,du.at_,du.args];simp [*]
           exact QM
       . have z:Hid (eF c (.mk 4 n m g O ac Z)=false):=by show _=_;unfold eF;simp only [du.op,du.n,du.m,du.at_,du.args];simp [*]
         have D:m≠0:=N7
         clear b7;go_enter func169,ntmps169;exact Qo
     . have z:Hid (eF c (.mk 4 n m g O ac Z)=false):=by show _=_;unfold eF;simp only [du.op,du.n,du.m,du.at_,du.args];simp [*]
       have D:n≠0:=N7
       clear b6;go_enter func169,ntmps169;exact Qo
   . have z:Hid (eF c (.mk 4 n m g O ac Z)=false):=by show _=_;unfold eF;simp only [du.op,du.n,du.m,du.at_,du.args];simp [*]
     have D:O.length≠1:=N7
     clear aB;go_enter func169,ntmps169;exact Qo
 by_cases i:T=5
 . subst i
   by_cases aB:O.length=1
   . by_cases b6:n=0
     . by_cases b7:m=0
       . by_cases b8:g=0
         . have z:Hid (eF c (.mk 5 n m g O ac Z)=true):=by show _=_;unfold eF;simp only [du.op,du.n,du.m,du.at_,du.args];simp [*]
           go_enter func169,ntmps169;exact Qo
         . have z:Hid (eF c (.mk 5 n m g O ac Z)=false):=by show _=_;unfold eF;simp only [du.op,du.n,du.m,du.at_,du.args];simp [*]
           exact QM
       . have z:Hid (eF c (.mk 5 n m g O ac Z)=false):=by show _=_;unfold eF;simp only [du.op,du.n,du.m,du.at_,du.args];simp [*]
         have D:m≠0:=N7
         clear b7;go_enter func169,ntmps169;exact Qo
     . have z:Hid (eF c (.mk 5 n m g O ac Z)=false):=by show _=_;unfold eF;simp only [du.op,du.n,du.m,du.at_,du.args];simp [*]
       have D:n≠0:=N7
       clear b6;go_enter func169,ntmps169;exact Qo
   . have z:Hid (eF c (.mk 5 n m g O ac Z)=false):=by show _=_;unfold eF;simp only [du.op,du.n,du.m,du.at_,du.args];simp [*]
     have D:O.length≠1:=N7
     clear aB;go_enter func169,ntmps169;exact Qo
 by_cases t:T=6
 . subst t
   by_cases aB:O.length=1
   . by_cases b6:n=0
     . by_cases b7:m=0
       . by_cases b8:g=0
         . have z:Hid (eF c (.mk 6 n m g O ac Z)=true):=by show _=_;unfold eF;simp only [du.op,du.n,du.m,du.at_,du.args];simp [*]
           go_enter func169,ntmps169;exact Qo
         . have z:Hid (eF c (.mk 6 n m g O ac Z)=false):=by show _=_;unfold eF;simp only [du.op,du.n,du.m,du.at_,du.args];simp [*]
           exact QM
       . have z:Hid (eF c (.mk 6 n m g O ac Z)=false):=by show _=_;unfold eF;simp only [du.op,du.n,du.m,du.at_,du.args];simp [*]
         have D:m≠0:=N7
         clear b7;go_enter func169,ntmps169;exact Qo
     . have z:Hid (eF c (.mk 6 n m g O ac Z)=false):=by show _=_;unfold eF;simp only [du.op,du.n,du.m,du.at_,du.args];simp [*]
       have D:n≠0:=N7
       clear b6;go_enter func169,ntmps169;exact Qo
   . have z:Hid (eF c (.mk 6 n m g O ac Z)=false):=by show _=_;unfold eF;simp only [du.op,du.n,du.m,du.at_,du.args];simp [*]
     have D:O.length≠1:=N7
     clear aB;go_enter func169,ntmps169;exact Qo
 by_cases d:T=7
 . subst d
   by_cases aB:O.length=1
   . by_cases b6:n=0
     . by_cases b7:m=0
       . by_cases b8:g=0
         . have z:Hid (eF c (.mk 7 n m g O ac Z)=true):=by show _=_;unfold eF;simp only [du.op,du.n,du.m,du.at_,du.args];simp [*]
           go_enter func169,ntmps169;exact Qo
         . have z:Hid (eF c (.mk 7 n m g O ac Z)=false):=by show _=_;unfold eF;simp only [du.op,du.n,du.m,du.at_,du.args];simp [*]
           exact QM
       . have z:Hid (eF c (.mk 7 n m g O ac Z)=false):=by show _=_;unfold eF;simp only [du.op,du.n,du.m,du.at_,du.args];simp [*]
         have D:m≠0:=N7
         clear b7;go_enter func169,ntmps169;exact Qo
     . have z:Hid (eF c (.mk 7 n m g O ac Z)=false):=by show _=_;unfold eF;simp only [du.op,du.n,du.m,du.at_,du.args];simp [*]
       have D:n≠0:=N7
       clear b6;go_enter func169,ntmps169;exact Qo
   . have z:Hid (eF c (.mk 7 n m g O ac Z)=false):=by show _=_;unfold eF;simp only [du.op,du.n,du.m,du.at_,du.args];simp [*]
     have D:O.length≠1:=N7
     clear aB;go_enter func169,ntmps169;exact Qo
 have z:Hid (eF c (.mk T n m g O ac Z)=false):=by
  show _=_;unfold eF;exact (if_neg bE).trans ((if_neg ab).trans ((if_neg V).trans (if_neg (by show ¬ (4<=T/\T<=7);omega))))
 go_enter func169,ntmps169;exact Qo
theorem CY (c:Ck) (s:ByteArray) (a4:OA) (ad:Nat) (am:OA) (f:Nat) (a5:OA) (r y3:Nat) (l:Value) (a:OA) (q:Nat) (m:Int) (w:World) :
 dw 170 #[.agg #[.string s,.slice a4 c.uses ad,di c.data,.slice am c.parts.length f,.slice a5 r y3,l,di c.locals],.slice a 0 q,di m] w fun e G=>e = .returned (.bool true)/\dm w G:=by
 go_enter func170,ntmps170;go_wp2_with fail
 go_loopw [18] (fun i wr=>i=di 0/\dm w wr) (fun _ _=>0)
 case atStart=>exact ⟨rfl,dn _ _⟩
 case round=>
  obtain ⟨rfl,I⟩:=hrel;have ag:=hid I;clear I;go_wp2_with fail;go_ret;exact ⟨rfl,ag⟩
theorem KS (c:Ck) (s:ByteArray) (a4:OA) (ad:Nat) (am:OA) (f:Nat) (a5:OA) (r y3:Nat) (l:Value) (a:OA) (n q:Nat) (w:World) (Z:0<n) :
 dw 170 #[.agg #[.string s,.slice a4 c.uses ad,di c.data,.slice am c.parts.length f,.slice a5 r y3,l,di c.locals],.slice a n q,di 7] w fun e G=>e = .returned (.bool false)/\dm w G:=by
 go_enter func170,ntmps170;exact SB
theorem KT (c:Ck) (k:Nat):fO c k []=true:=by cases k<;>simp [fO]
theorem CZ (c:Ck) (s:ByteArray) (a4:OA) (ad:Nat) (am:OA) (f:Nat) (a5:OA) (r y3:Nat) (l:Value):∀ (k:Nat),k<=6->∀ (g:List dB) (A:Nat->Prop) (a:OA) (q:Nat) (m:Int) (w:World),m=7 - (k:Int)->dx w A a g.length (es g)->mp w c (.agg #[.string s,.slice a4 c.uses ad,di c.data,.slice am c.parts.length f,.slice a5 r y3,l,di c.locals])->
 dw 170 #[.agg #[.string s,.slice a4 c.uses ad,di c.data,.slice am c.parts.length f,.slice a5 r y3,l,di c.locals],.slice a g.length q,di m] w fun e G=>e = .returned (.bool (fO c k g))/\dm w G
 | 0,_,g,A,a,q,m,w,hd,_,_=>by
   obtain rfl:m=7:=N7
   rcases uS g.length with ab | ab
   . obtain rfl:=hF ab
     exact CY c s a4 ad am f a5 r y3 l a q 7 w
   . have:fO c 0 g=false:=by simp only [fO];exact decide_eq_false N7
     rw [this];exact KS c s a4 ad am f a5 r y3 l a g.length q w ab
 | k + 1, N,g,A,a,q,m,w,hd,an,bj=>by
   have y:=hid (fun (g:List dB) (A:Nat->Prop) (a:OA) (q:Nat) (w:World)=>CZ c s a4 ad am f a5 r y3 l k N7 g A a q (m+1) w N7)
   rcases uS g.length with ab | ab
   . obtain rfl:=hF ab
     rw [KT];exact CY c s a4 ad am f a5 r y3 l a q m w
   have z:Hid (fO c (k+1) g=g.all (fun x=>eC c x&&fO c k x.args)):=by show _=_;simp [fO]
   have bK:=an.bound
   have aJ:1<=m:=N7
   have p:m<=6:=N7
   have b0:=hid an;have ao:=hid bj;clear an bj hd;go_enter func170,ntmps170;go_wp2_with fail
   go_loopw [18] (fun i wr=>∃ j:Nat,j<=g.length/\i=di j/\(g.take j).all (fun x=>eC c x&&fO c k x.args)=true/\dm w wr/\wr.heap[w.heap.size]? = some (.cells #[.string s,.slice a4 c.uses ad,di c.data,.slice am c.parts.length f,.slice a5 r y3,l,di c.locals] 206)) (fun i _=>g.length - (intOf i).toNat)
   case atStart=>exact ⟨0,dY _,rfl,rfl,dn _ _,dX _ _⟩
   case round=>
    obtain ⟨j,a2,rfl,aS,I,aF⟩:=hrel;obtain ⟨aH,az,aK,aW,bg,q5,q6,b5⟩:=fi aF;have ag:=hid I;have aZ:=hid aF;have b2:=hid aS;clear aS aF I
    by_cases ac:j<g.length
    . obtain ⟨b,C,ak,R,rfl,S⟩:=(b0.later ag).nd j ac
      have aD:=hid (fun (h:(eC c g[j]&&fO c k g[j].args)=false)=>all_not g (fun x=>eC c x&&fO c k x.args) j ac h);have aM:=hid (fun (h:(eC c g[j]&&fO c k g[j].args)=true)=>(by rw [all_snoc g _ j ac,b2.out,h];rfl:(g.take (j+1)).all (fun x=>eC c x&&fO c k x.args)=true));obtain ⟨bb,af,x1',x2',x3',ax,hargs,_,_,a1,a3⟩:=S;have aR:=hid hargs;have aa:=hargs.bound;have L:=hid a1;have o:=hid a3;clear hargs a1 a3;generalize g[j]=x at *;go_wp2_with fail;refine (KQ c s a4 ad am f a5 r y3 l x ak R _ (ao.later (dp ag (dn _ _))) L o aa).mono ?_
      cases F:eC c x with
      | false=>
        rintro e dC ⟨rfl,T⟩;have t:=hid (dp ag (dp (dn _ _) T));have v:=hid (aD (by rw [F];rfl));clear T;go_wp2_with fail;go_ret;exact ⟨ret_bool PZ,t⟩
      | true=>
        rintro e dC ⟨rfl,T⟩;have t:=hid (dp (dn wr _) T);have bo:=(t.block _ (lt_of_heap aZ)).trans aZ;have ei:=(T.block _ Ob).trans (dX wr (fg x.op x.n x.m x.at_ ak x.args.length R));have bX:=hid bo;clear aH az aK aW bg q5 q6 b5 af x1' x2' x3' ax bb;obtain ⟨aH,az,aK,aW,bg,q5,q6,b5⟩:=fi bo;obtain ⟨bf,be,b9,bm,bk,_⟩:=ep ei;have ba:=lt_of_heap ei;clear T bo ei;go_wp2_with fail;refine (y x.args A ak R _ (aR.later t) (ao.later (dp ag t))).mono ?_
        cases J:fO c k x.args with
        | false=>
          rintro e dD ⟨rfl,bc⟩;have X:=hid (dp (dp ag t) bc);have v:=hid (aD (by rw [F,J];rfl));clear bc;go_wp2_with fail;go_ret;exact ⟨ret_bool PZ,X⟩
        | true=>
          rintro e dD ⟨rfl,bc⟩;have X:=hid (dp (dp ag t) bc);have b7:=hid ((bc.block _ (lt_of_heap bX)).trans bX);have ar:=hid (aM (by rw [F,J];rfl));clear bc;go_wp2_with fail;go_roundw
          case rel=>exact ⟨j+1,N7,Ou,ar,X,b7⟩
          case measure=>simp [intOf];omega
    . have aM:Hid (g.all (fun x=>eC c x&&fO c k x.args)=true):=qH b2 ac
      go_wp2_with fail;go_ret;exact ⟨ret_bool (by rw [z.out,aM.out]),ag⟩
def nL (c:Ck) (k:Nat) (a:du):Bool:=if a.op=4 then fb c k a.body&&fb c k a.other else if a.op=5 then fb c k a.body&&decide (a.other.length=0) else decide (a.body.length=0)&&decide (a.other.length=0)
def vv (c:Ck) (aA:Value) (k:Nat):Prop:=∀ (g:List du) (A:Nat->Prop) (a:OA) (q:Nat) (m:Int) (w:World),m=7 - (k:Int)->dx w A a g.length (eJ g)->mp w c aA->
    dw 128 #[aA,.slice a g.length q,di m] w fun e G=>e = .returned (.bool (fb c k g))/\dm w G
theorem KU (c:Ck) (s:ByteArray) (a4:OA) (ad:Nat) (am:OA) (f:Nat) (a5:OA) (r y3:Nat) (l:Value) (k:Nat) (N:k<=6) (ay:vv c (.agg #[.string s,.slice a4 c.uses ad,di c.data,.slice am c.parts.length f,.slice a5 r y3,l,di c.locals]) k) (x:du) (A:Nat->Prop) (ak:OA) (cp:Nat) (b4:OA) (aj:Nat) (Q:OA) (W:Nat) (m:Int) (w:World) (hd:m=7 - (k:Int)) (aF:dx w A b4 x.body.length (eJ x.body)) (b6:dx w A Q x.other.length (eJ x.other)) (bj:mp w c (.agg #[.string s,.slice a4 c.uses ad,di c.data,.slice am c.parts.length f,.slice a5 r y3,l,di c.locals])) :
 dw 171 #[.agg #[.string s,.slice a4 c.uses ad,di c.data,.slice am c.parts.length f,.slice a5 r y3,l,di c.locals],.agg #[di x.op,di x.n,di x.m,di x.at_,.slice ak x.args.length cp,.slice b4 x.body.length aj,.slice Q x.other.length W],di m] w fun e G=>e = .returned (.bool (nL c k x))/\dm w G:=by
 have y:=hid (fun g A a q w=>ay g A a q m w hd);have L:=aF.bound;have M:=b6.bound;have ag:=hid aF;have P:=hid b6;have ao:=hid bj;clear ay aF b6 bj hd
 by_cases au:x.op=4
 . have z:Hid (nL c k x=(fb c k x.body&&fb c k x.other)):=if_pos au
   go_enter func171,ntmps171;go_wp2_with fail;refine (y x.body A b4 aj _ (ag.later (et _ _ _)) (ao.later (et _ _ _))).mono ?_
   cases F:fb c k x.body with
   | false=>
     exact RV
   | true=>
     rintro e dC ⟨rfl,T⟩;have t:=hid (dp (et w _ _) T);have bo:=(T.block w.heap.size Of).trans (eR (dX w (.cells #[.string s,.slice a4 c.uses ad,di c.data,.slice am c.parts.length f,.slice a5 r y3,l,di c.locals] 206)));have ei:=(T.block (w.heap.size+1) Ob).trans (CW w _ _);obtain ⟨aH,az,aK,aW,bg,q5,q6,b5⟩:=fi bo;obtain ⟨bf,be,b9,bm,bk,bO,bZ,ba⟩:=fi ei;clear T bo ei;go_wp2_with fail;refine (y x.other A Q W _ (P.later t) (ao.later t)).mono ?_;rintro e dD ⟨rfl,bc⟩;have X:=hid (dp t bc);clear bc;go_wp2_with fail;go_ret;exact ⟨ret_bool (by rw [z.out,F];rfl),X⟩
 by_cases i:x.op=5
 . have z:Hid (nL c k x=(fb c k x.body&&decide (x.other.length=0))):=(if_neg au).trans (if_pos i)
   go_enter func171,ntmps171;go_wp2_with fail;refine (y x.body A b4 aj _ (ag.later (et _ _ _)) (ao.later (et _ _ _))).mono ?_
   cases F:fb c k x.body with
   | false=>
     exact RV
   | true=>
     rintro e dC ⟨rfl,T⟩;have t:=hid (dp (et w _ _) T);have ei:=(T.block (w.heap.size+1) Ob).trans (CW w _ _);obtain ⟨bf,be,b9,bm,bk,bO,bZ,ba⟩:=fi ei;clear T ei
     by_cases ab:x.other.length=0
     . go_wp2_with fail
       go_ret;exact ⟨ret_bool (by rw [z.out,F,decide_eq_true ab];rfl),t⟩
     . have d:x.other.length≠0:=ab
       have n:Hid (nL c k x=false):=by show _=_;rw [z.out,F,decide_eq_false ab];rfl
       clear ab;go_wp2_with fail;go_ret;exact ⟨ret_bool Oz,t⟩
 . have z:Hid (nL c k x=(decide (x.body.length=0)&&decide (x.other.length=0))):=(if_neg au).trans (if_neg i)
   by_cases bC:x.body.length=0
   . by_cases ab:x.other.length=0
     . have n:Hid (nL c k x=true):=by show _=_;rw [z.out,decide_eq_true ab,decide_eq_true bC];rfl
       exact Sy
     . have d:x.other.length≠0:=ab
       have n:Hid (nL c k x=false):=by show _=_;rw [z.out,decide_eq_false ab,decide_eq_true bC];rfl
       clear ab;go_enter func171,ntmps171;go_wp2_with fail;go_ret;exact ⟨ret_bool Oz,et _ _ _⟩
   . have d:x.body.length≠0:=bC
     have n:Hid (nL c k x=false):=by show _=_;rw [z.out,decide_eq_false bC];rfl
     clear bC;exact Sy
theorem KV (c:Ck) (s:ByteArray) (a4:OA) (ad:Nat) (am:OA) (f:Nat) (a5:OA) (r y3:Nat) (l:Value) (a:OA) (n q:Nat) (w:World) :
 dw 128 #[.agg #[.string s,.slice a4 c.uses ad,di c.data,.slice am c.parts.length f,.slice a5 r y3,l,di c.locals],.slice a n q,di 7] w fun e G=>e = .returned (.bool false)/\dm w G:=by
 go_enter func128,ntmps128;exact SB
theorem KW (c:Ck) (s:ByteArray) (a4:OA) (ad:Nat) (am:OA) (f:Nat) (a5:OA) (r y3:Nat) (l:Value) (a:OA) (n q:Nat) (m:Int) (w:World) (hd:m<=6) (Z:10<n) (aV:n<=17592186044416) :
 dw 128 #[.agg #[.string s,.slice a4 c.uses ad,di c.data,.slice am c.parts.length f,.slice a5 r y3,l,di c.locals],.slice a n q,di m] w fun e G=>e = .returned (.bool false)/\dm w G:=by
 go_enter func128,ntmps128;exact SB
def mq (c:Ck) (k:Nat) (x:du):Bool:=eF c x&&(fO c 6 x.args&&nL c k x)
theorem C0 (c:Ck) (k:Nat) (l:List du):fb c (k+1) l=(decide (l.length<=10)&&l.all (mq c k)):=by
 rw [fb]
 rfl
theorem KX (c:Ck) (s:ByteArray) (a4:OA) (ad:Nat) (am:OA) (f:Nat) (a5:OA) (r y3:Nat) (l:Value) (k:Nat) (N:k+1<=6) (ay:vv c (.agg #[.string s,.slice a4 c.uses ad,di c.data,.slice am c.parts.length f,.slice a5 r y3,l,di c.locals]) k):vv c (.agg #[.string s,.slice a4 c.uses ad,di c.data,.slice am c.parts.length f,.slice a5 r y3,l,di c.locals]) (k+1):=by
 intro g A a q m w hd an bj;have bK:=an.bound
 by_cases B:10<g.length
 . have:fb c (k+1) g=false:=by rw [C0,decide_eq_false N7];rfl
   rw [this];exact KW c s a4 ad am f a5 r y3 l a g.length q m w N7 B bK
 have n:g.length<=10:=N7
 have z:Hid (fb c (k+1) g=g.all (mq c k)):=by show _=_;rw [C0,decide_eq_true n];rfl
 have aJ:1<=m:=N7
 have p:m<=6:=N7
 have y:=hid (fun x A ak R b4 aj Q W w=>KU c s a4 ad am f a5 r y3 l k N7 ay x A ak R b4 aj Q W (m+1) w N7);have b0:=hid an;have ao:=hid bj;clear an bj hd B ay;go_enter func128,ntmps128;go_wp2_with fail
 go_loopw [18] (fun i wr=>∃ j:Nat,j<=g.length/\i=di j/\(g.take j).all (mq c k)=true/\dm w wr/\wr.heap[w.heap.size]? = some (.cells #[.string s,.slice a4 c.uses ad,di c.data,.slice am c.parts.length f,.slice a5 r y3,l,di c.locals] 206)) (fun i _=>g.length - (intOf i).toNat)
 case atStart=>exact ⟨0,dY _,rfl,rfl,dn _ _,dX _ _⟩
 case round=>
  obtain ⟨j,a2,rfl,aS,I,aF⟩:=hrel;obtain ⟨aH,az,aK,aW,bg,q5,q6,b5⟩:=fi aF;have ag:=hid I;have aZ:=hid aF;have b2:=hid aS;clear aS aF I
  by_cases ac:j<g.length
  . obtain ⟨b,C,ak,R,b4,aj,Q,W,rfl,S⟩:=(b0.later ag).ac j ac
    have aD:=hid (fun (h:mq c k g[j]=false)=>all_not g (mq c k) j ac h);have aM:=hid (fun (h:mq c k g[j]=true)=>(by rw [all_snoc g _ j ac,b2.out,h];rfl:(g.take (j+1)).all (mq c k)=true));obtain ⟨bb,af,x1',x2',x3',ax,aG,u,hargs,hbody,hother,_,_,a1,a3⟩:=S;have aa:=hargs.bound;have aR:=hid hargs;have au:=hid hbody;have ab:=hid hother;have L:=hid a1;have o:=hid a3;clear hargs hbody hother a1 a3;generalize g[j]=x at *;go_wp2_with fail;refine (KR c s a4 ad am f a5 r y3 l x ak R b4 aj Q W _ (ao.later (dp ag (dn _ _))) L o aa).mono ?_
    cases F:eF c x with
    | false=>
      rintro e dC ⟨rfl,T⟩;have t:=hid (dp ag (dp (dn _ _) T));have v:=hid (aD (by unfold mq;rw [F];rfl));clear T;go_wp2_with fail;go_ret;exact ⟨ret_bool PZ,t⟩
    | true=>
      rintro e dC ⟨rfl,T⟩;have t:=hid (dp (dn wr _) T);have bo:=(t.block _ (lt_of_heap aZ)).trans aZ;have ei:=(T.block _ Ob).trans (dX wr (ek x.op x.n x.m x.at_ ak x.args.length R b4 x.body.length aj Q x.other.length W));have bX:=hid bo;have d:=hid ei;clear aH az aK aW bg q5 q6 b5 af x1' x2' x3' ax aG u bb;obtain ⟨aH,az,aK,aW,bg,q5,q6,b5⟩:=fi bo;obtain ⟨bf,be,b9,bm,bk,bO,bZ,ba⟩:=fi ei;clear T bo ei;go_wp2_with fail;refine (CZ c s a4 ad am f a5 r y3 l 6 N9 x.args A ak R 1 _ N9 (aR.later t) (ao.later (dp ag t))).mono ?_
      cases J:fO c 6 x.args with
      | false=>
        rintro e dD ⟨rfl,bc⟩;have X:=hid (dp (dp ag t) bc);have v:=hid (aD (by unfold mq;rw [F,J];rfl));clear bc;go_wp2_with fail;go_ret;exact ⟨ret_bool PZ,X⟩
      | true=>
        rintro e dD ⟨rfl,bc⟩;have X:=hid (dp t bc);have bo:=(bc.block _ (lt_of_heap bX)).trans bX;have ei:=(bc.block _ (lt_of_heap d)).trans d;have b7:=hid bo;clear aH az aK aW bg q5 q6 b5 bf be b9 bm bk bO bZ ba;obtain ⟨aH,az,aK,aW,bg,q5,q6,b5⟩:=fi bo;obtain ⟨bf,be,b9,bm,bk,bO,bZ,ba⟩:=fi ei;clear bc bo ei;go_wp2_with fail;refine (y x A ak R b4 aj Q W _ (au.later X) (ab.later X) (ao.later (dp ag X))).mono ?_
        cases U:nL c k x with
        | false=>
          rintro e dJ ⟨rfl,br⟩;have bu:=hid (dp (dp ag X) br);have v:=hid (aD (by unfold mq;rw [F,J,U];rfl));clear br;go_wp2_with fail;go_ret;exact ⟨ret_bool PZ,bu⟩
        | true=>
          rintro e dJ ⟨rfl,br⟩;have bu:=hid (dp (dp ag X) br);have aQ:=hid ((br.block _ (lt_of_heap b7)).trans b7);have ar:=hid (aM (by unfold mq;rw [F,J,U];rfl));clear br;go_wp2_with fail;go_roundw
          case rel=>exact ⟨j+1,N7,Ou,ar,bu,aQ⟩
          case measure=>simp [intOf];omega
  . have aM:Hid (g.all (mq c k)=true):=qH b2 ac
    go_wp2_with fail;go_ret;exact ⟨ret_bool (by rw [z.out,aM.out]),ag⟩
theorem yh (c:Ck) (s:ByteArray) (a4:OA) (ad:Nat) (am:OA) (f:Nat) (a5:OA) (r y3:Nat) (l:Value):∀ (k:Nat),k<=6->vv c (.agg #[.string s,.slice a4 c.uses ad,di c.data,.slice am c.parts.length f,.slice a5 r y3,l,di c.locals]) k
 | 0,_=>fun g A a q m w hd _ _=>by
   obtain rfl:m=7:=N7
   exact KV c s a4 ad am f a5 r y3 l a g.length q w
 | k+1,N=>KX c s a4 ad am f a5 r y3 l k N (yh c s a4 ad am f a5 r y3 l k N7)
structure kN (w:World) (u:dN) (x1:OA) (y1:Nat) (x2:OA) (y2:Nat) (x3:OA) (y3:Nat):Prop where
 wn:u.name.size<=maxLen
 uses:dx w dQ x1 u.uses.length (eH u.uses)
 wd:(Lit.int .i64 u.data).wf=true
 parts:dx w dQ x2 u.parts.length (ih u.parts)
 main:dx w dQ x3 u.main.length (eJ u.main)
theorem kN.later {u:dN} (h:kN w u a4 ad am f a5 y3) (I:dm w G):kN G u a4 ad am f a5 y3:=⟨h.wn,h.uses.later I,h.wd,h.parts.later I,h.main.later I⟩
theorem kN.mo {u:dN} (h:kN w u a4 ad am f a5 y3):gS w dQ ⟨u.name,u.uses,[],[],[]⟩ (.agg #[.string u.name,.slice a4 u.uses.length ad,dt,dt,dt]) a4 ad none 0 none 0 none 0:=
 ⟨rfl,h.wn,h.uses,⟨dA _,dY _,Or.inl rfl⟩,⟨dA _,dY _,Or.inl rfl⟩,⟨dA _,dY _,Or.inl rfl⟩⟩
theorem KY (u:dN) (a4:OA) (ad:Nat) (am:OA) (f:Nat) (a5:OA) (y3:Nat) (w:World) (b3:kN w u a4 ad am f a5 y3) :
 dw 127 #[.agg #[.string u.name,.slice a4 u.uses.length ad,di u.data,.slice am u.parts.length f,.slice a5 u.main.length y3]] w fun e G=>e = .returned (.bool (gb u))/\dm w G:=by
 have ao:=hid (Kw _ _ _ _ _ _ _ _ _ _ (w.alloc (fF u.name a4 u.uses.length ad u.data am u.parts.length f a5 u.main.length y3)) (b3.later (dn _ _)).mo (JJ _ _));have c2:=b3.parts.bound;have bA:=hid b3;clear b3;have br:Hid (gb u=(decide (iY ⟨u.name,u.uses,[],[],[]⟩=0)&&(u.parts.all iG&&(decide (0<=u.data/\u.data<=512)&&decide (u.parts.length<=6))))):=rfl
 go_enter func127,ntmps127;go_wp2_with fail;refine ao.mono ?_;rintro e dk ⟨Y,aq⟩;have B:=hid (dp (dn w _) aq);have bl:=hid ((aq.block _ Ob).trans (dX w (fF u.name a4 u.uses.length ad u.data am u.parts.length f a5 u.main.length y3)));have ba:=lt_of_heap bl;unfold yg at Y;clear aq ao
 rcases Y with ⟨W,rfl⟩ | ⟨W,af,cf,rfl,_⟩
 . have aD:Hid (gb u=false):=by show _=_;rw [br.out,decide_eq_false W];rfl
   generalize iY ⟨u.name,u.uses,[],[],[]⟩=aX at *;go_wp2_with fail;go_ret;exact ⟨ret_bool (by first | exact aD.symm | (rw [aD.out]<;>first | (simp;omega) | (simp [*];done))),dp B (dn _ _)⟩
 . have k : Hid (gb u=(u.parts.all iG&&(decide (0<=u.data/\u.data<=512)&&decide (u.parts.length<=6)))):=by show _=_;rw [br.out,decide_eq_true W];rfl
   generalize vr ⟨u.name,u.uses,[],[],[]⟩=sh at *;obtain ⟨aH,az,aK,aW,bg,_⟩:=ep bl;clear W br;go_wp2_with fail
   go_loopw [21] (fun i wr=>∃ j:Nat,j<=u.parts.length/\i=di j/\(u.parts.take j).all iG=true/\dm w wr/\wr.heap[w.heap.size]? = some (fF u.name a4 u.uses.length ad u.data am u.parts.length f a5 u.main.length y3)) (fun i _=>u.parts.length - (intOf i).toNat)
   case atStart=>exact ⟨0,dY _,rfl,rfl,dp B (dn _ _),eR bl⟩
   case round=>
    clear aH az aK aW bg;obtain ⟨j,a2,rfl,aS,I,aF⟩:=hrel;obtain ⟨aH,az,aK,aW,bg,_⟩:=ep aF;have b5:=lt_of_heap aF;have ag:=hid I;have aZ:=hid aF;have b2:=hid aS;clear aS aF I
    by_cases ac:j<u.parts.length
    . obtain ⟨b,C,b4,aj,rfl,S⟩:=((bA.later ag).parts).pt j ac
      have aD:=hid (fun (h:iG u.parts[j]=false)=>(by rw [k.out,all_not u.parts iG j ac h];rfl:gb u=false));have aM:=hid (fun (h:iG u.parts[j]=true)=>(by rw [all_snoc u.parts _ j ac,b2.out,h];rfl:(u.parts.take (j+1)).all iG=true));obtain ⟨bb,bF,bo,ei,_,_,_⟩:=S;generalize u.parts[j]=D at *
      by_cases b8:D.params<0
      . have v:=hid (aD (by unfold iG;rw [decide_eq_false N7];rfl))
        exact QW
      have l:0<=D.params:=N7
      by_cases b7:3<D.params
      . have v:=hid (aD (by unfold iG;rw [decide_eq_false N7];rfl))
        clear b8;exact QW
      have t:D.params<=3:=N7
      by_cases b6:D.locals<0
      . have v:=hid (aD Pj)
        clear b8 b7;exact QW
      have a:0<=D.locals:=N7
      by_cases aB:4<D.locals
      . have v:=hid (aD Pj)
        clear b8 b7 b6;exact QW
      have c:D.locals<=4:=N7
      have ar:=hid (aM (by unfold iG;rw [decide_eq_true ⟨l,t⟩,decide_eq_true ⟨a,c⟩];rfl));clear b8 b7 b6 aB;exact RS
    . have A:Hid (gb u=(decide (0<=u.data/\u.data<=512)&&decide (u.parts.length<=6))):=by show _=_;rw [k.out,qH b2.out ac];rfl
      by_cases b8:0<=u.data
      . by_cases b7:u.data<=512
        . by_cases b6:u.parts.length<=6
          . have z:Hid (gb u=true):=by show _=_;rw [A.out,decide_eq_true ⟨b8,b7⟩,decide_eq_true b6];rfl
            go_wp2_with fail;go_ret;exact ⟨ret_bool Ox,ag⟩
          . have z:Hid (gb u=false):=by show _=_;rw [A.out,decide_eq_true ⟨b8,b7⟩,decide_eq_false b6];rfl
            have a:6<u.parts.length:=N7
            clear b6;go_wp2_with fail;go_ret;exact ⟨ret_bool Ox,ag⟩
        . have z:Hid (gb u=false):=by show _=_;rw [A.out,decide_eq_false N7];rfl
          have t:512<u.data:=N7
          clear b7;exact Rf
      . have z:Hid (gb u=false):=by show _=_;rw [A.out,decide_eq_false N7];rfl
        have l:u.data<0:=N7
        clear b8;exact Rf
theorem oU {u:dN} (h:gb u=true):0<=u.data/\u.data<=512:=by
 unfold gb at h;simp only [dO,decide_eq_true_eq] at h;exact h.2.2.1
theorem KZ {u:dN} (h:gb u=true) (j:Nat) (a2:j<u.parts.length):(0<=u.parts[j].params/\u.parts[j].params<=3)/\0<=u.parts[j].locals/\u.parts[j].locals<=4:=by
 unfold gb at h;simp only [dO,decide_eq_true_eq,e1] at h;have:=h.2.1 u.parts[j] (eb a2);unfold iG at this;simpa only [dO,decide_eq_true_eq] using this
theorem C1 (u:dN) (c a:Int->Int->Int->Bool) (a4:OA) (ad:Nat) (am:OA) (f:Nat) (a5:OA) (y3:Nat) (l:TypeId) (m:Value) (w:World) (b3:kN w u a4 ad am f a5 y3)
 (bj:gb u=true->∀ (d:Int) (M:World),dm w M->mp M (fP u c a d) (.agg #[.string u.name,.slice a4 u.uses.length ad,di u.data,.slice am u.parts.length f,.slice a5 u.main.length y3,.iface l m,di d])) :
 dw 77 #[.agg #[.string u.name,.slice a4 u.uses.length ad,di u.data,.slice am u.parts.length f,.slice a5 u.main.length y3],.iface l m] w fun e G=>e = .returned (.bool (hf u c a))/\dm w G:=by
 have aL:=hid (KY u a4 ad am f a5 y3 (w.alloc (fF u.name a4 u.uses.length ad u.data am u.parts.length f a5 u.main.length y3)) (b3.later (dn _ _)));have c2:=b3.parts.bound;have bA:=hid b3;have ao:=hid bj;have br:Hid (hf u c a=(gb u&&(u.parts.all (fun D=>fb (fP u c a (D.params+D.locals)) 6 D.body)&&fb (fP u c a 0) 6 u.main))):=rfl;clear b3 bj;go_enter func77,ntmps77;go_wp2_with fail;refine aL.mono ?_
 cases al:gb u with
 | false=>
   rintro e dk ⟨rfl,aq⟩;have B:=hid (dp (dn w _) aq)
   have z:Hid (hf u c a=false):=by show _=_;rw [br.out,al];rfl
   clear aq;exact Qu
 | true =>
   rintro e dk ⟨rfl,aq⟩;have B:=hid (dp (dn w _) aq);have bl:=hid ((aq.block _ Ob).trans (dX w (fF u.name a4 u.uses.length ad u.data am u.parts.length f a5 u.main.length y3)));have g:=hid (ao al);have n:=hid al
   have k:Hid (hf u c a=(u.parts.all (fun D=>fb (fP u c a (D.params+D.locals)) 6 D.body)&&fb (fP u c a 0) 6 u.main)):=by show _=_;rw [br.out,al];rfl
   obtain ⟨aH,az,aK,aW,bg,_⟩:=ep bl;have b5:=lt_of_heap bl;clear aq ao br aL al;go_wp2_with fail
   go_loopw [14] (fun i wr=>∃ j:Nat,j<=u.parts.length/\i=di j/\(u.parts.take j).all (fun D=>fb (fP u c a (D.params+D.locals)) 6 D.body)=true/\dm w wr/\wr.heap[w.heap.size]? = some (fF u.name a4 u.uses.length ad u.data am u.parts.length f a5 u.main.length y3)) (fun i _=>u.parts.length - (intOf i).toNat)
   case atStart=>exact ⟨0,dY _,rfl,rfl,B,bl⟩
   case round=>
    clear aH az aK aW bg b5;obtain ⟨j,a2,rfl,aS,I,aF⟩:=hrel;obtain ⟨aH,az,aK,aW,bg,_⟩:=ep aF;have b5:=lt_of_heap aF;have ag:=hid I;have aZ:=hid aF;have b2:=hid aS;clear aS aF I
    by_cases ac:j<u.parts.length
    . obtain ⟨b,C,b4,aj,rfl,S⟩:=((bA.later ag).parts).pt j ac
      have aD:=hid (fun (h:fb (fP u c a (u.parts[j].params+u.parts[j].locals)) 6 u.parts[j].body=false)=>(by rw [k.out,all_not u.parts (fun D=>fb (fP u c a (D.params+D.locals)) 6 D.body) j ac h];rfl:hf u c a=false));have aM:=hid (fun (h:fb (fP u c a (u.parts[j].params+u.parts[j].locals)) 6 u.parts[j].body=true)=>(by rw [all_snoc u.parts _ j ac,b2.out,h];rfl:(u.parts.take (j+1)).all (fun D=>fb (fP u c a (D.params+D.locals)) 6 D.body)=true));obtain ⟨⟨bd,bs⟩,bI,bM⟩:=KZ n j ac;obtain ⟨bb,bF,bo,ei,r,_,_⟩:=S;have au:=hid r;clear r;generalize u.parts[j]=D at *;go_wp2_with fail;refine (yh (fP u c a (D.params+D.locals)) u.name a4 ad _ f a5 u.main.length y3 (.iface l m) 6 N9 D.body dQ b4 aj 1 _ N9 (au.later (et _ _ _)) (g (D.params+D.locals) _ (dp ag (et _ _ _)))).mono ?_
      cases F:fb (fP u c a (D.params+D.locals)) 6 D.body with
      | false=>
        rintro e dC ⟨rfl,T⟩;have t:=hid (dp ag (dp (et _ _ _) T));have v:=hid (aD F);clear T;go_wp2_with fail;go_ret;exact ⟨ret_bool Oo,t⟩
      | true=>
        rintro e dC ⟨rfl,T⟩;have t:=hid (dp (et wr _ _) T);have bX:=hid ((t.block _ (lt_of_heap aZ)).trans aZ);have ar:=hid (aM F);clear T;go_wp2_with fail;go_roundw
        case rel=>exact ⟨j+1,N7,Ou,ar,dp ag t,bX⟩
        case measure=>simp [intOf];omega
    . have z:Hid (hf u c a=fb (fP u c a 0) 6 u.main):=by show _=_;rw [k.out,qH b2.out ac];rfl
      go_wp2_with fail;refine (yh (fP u c a 0) u.name a4 ad am f a5 u.main.length y3 (.iface l m) 6 N9 u.main dQ a5 y3 1 _ N9 (bA.later ag).main (g 0 _ ag)).mono ?_;rintro e dC ⟨rfl,T⟩;have t:=hid (dp ag T);clear T;go_wp2_with fail;go_ret;exact ⟨ret_bool z.symm,t⟩
def lh (us:List dN) (m g n:Int):Bool:=match us[(m - 1).toNat]? with | some u=>j6 u.data g n | none=>false
def jK (us:List dN) (m g k:Int):Bool:=match us[(m - 1).toNat]? with | some u=>ij u.parts g k | none=>false
theorem C2 {us:List dN} {i:Nat} (h:i<us.length):us[((i:Int)+1 - 1).toNat]? = some us[i]:=by
 rw [show ((i:Int)+1 - 1).toNat=i from N7];exact ew h
theorem K0 (us:List dN) (a:OA) (q i:Nat) (g n:Int) (w:World) (an:dx w dQ a us.length (gJ us)) (V:i<us.length) (I:∀ u ∈ us,0<=u.data/\u.data<=512) (a7:(Lit.int .i64 g).wf=true) (F:1<=n) (J:n<=32) :
 dw 329 #[.slice a us.length q,di ((i:Int)+1),di g,di n] w fun e G=>e = .returned (.bool (lh us ((i:Int)+1) g n))/\dm w G:=by
 have bK:=an.bound;obtain ⟨b,C,E,a9,a0,au,a6,bn,rfl,S⟩:=an.un i V
 have z:Hid (lh us ((i:Int)+1) g n=j6 us[i].data g n):=by show _=_;unfold lh;rw [C2 V]
 have L:=I us[i] (eb V);obtain ⟨bb,bt,ah,ae,c3,K,_,_,_,_,_⟩:=S;have b2:=hid (tq us[i].data g n w L.1 L.2 F J a7);generalize us[i]=u at *
 have c:(i:Int)+1 - 1=i:=N7
 clear an I L a7;go_enter func329,ntmps329;go_wp2_with fail;refine b2.mono ?_;rintro e dk ⟨rfl,rfl⟩;go_wp2_with fail;go_ret;exact ⟨ret_bool z.symm,Below.refl _ _⟩
theorem K1 (us:List dN) (a:OA) (q i:Nat) (g:Int) (k:Nat) (w:World) (an:dx w dQ a us.length (gJ us)) (V:i<us.length) (a7:(Lit.int .i64 g).wf=true) (N:k<=17592186044416) :
 dw 330 #[.slice a us.length q,di ((i:Int)+1),di g,di k] w fun e G=>e = .returned (.bool (jK us ((i:Int)+1) g k))/\dm w G:=by
 have bK:=an.bound;obtain ⟨b,C,E,a9,a0,au,a6,bn,rfl,S⟩:=an.un i V
 have z:Hid (jK us ((i:Int)+1) g k=ij us[i].parts g k):=by show _=_;unfold jK;rw [C2 V]
 obtain ⟨bb,bt,ah,ae,c3,K,_,bC,_,_,_⟩:=S;have c2:=bC.bound;have A:=hid bC;generalize us[i]=u at *
 have c:(i:Int)+1 - 1=i:=N7
 clear an bC a7
 by_cases b8:0<=g
 . obtain ⟨j,rfl⟩:∃ j:Nat,g=j:=⟨g.toNat,N7⟩
   by_cases b7:j<u.parts.length
   . obtain ⟨bv,off2,b4,aj,rfl,S⟩:=A.pt j b7
     have br:Hid (ij u.parts j k=decide (u.parts[j].params=k)):=O3
     obtain ⟨bm,bF,_,_,_,_,_⟩:=S
     have t:(j:Int)<u.parts.length:=N7
     generalize u.parts[j].params=R at *
     by_cases b6:R=k
     . have n:Hid (jK us ((i:Int)+1) j k=true):=by show _=_;rw [z.out,br.out,decide_eq_true b6]
       subst b6;exact Rq
     . have n:Hid (jK us ((i:Int)+1) j k=false):=by show _=_;rw [z.out,br.out,decide_eq_false b6]
       go_enter func330,ntmps330;go_wp2_with fail;go_ret;exact ⟨ret_bool Oz,Below.refl _ _⟩
   . have n:Hid (jK us ((i:Int)+1) j k=false):=by show _=_;rw [z.out];unfold ij;rw [ir,mL N7];simp
     have t:u.parts.length<=j:=N7
     clear b7;exact Rq
 . have n:Hid (jK us ((i:Int)+1) g k=false):=by show _=_;rw [z.out];unfold ij;rw [decide_eq_false b8];rfl
   have l:g<0:=N7
   clear b8;exact Rq
theorem C3 {c:Ck} {m:Int} (h:j5 c m=true):∃ i:Nat,m=(i:Int)+1/\i<c.uses:=by
 have:=of_decide_eq_true h;exact ⟨(m - 1).toNat,N7,N7⟩
theorem K2 {us:List dN} {a:OA} {q:Nat} (an:dx w dQ a us.length (gJ us)) (I:∀ u ∈ us,0<=u.data/\u.data<=512) (u:dN) (aL:u.uses.length=us.length) (d:Int) :
 mV w (fP u (lh us) (jK us) d) 329 330 (.slice a us.length q):=by
 refine ⟨fun M ai m g n a1 a7 F J=>?_,fun M ai m g k a1 a7 N=>?_⟩
 . obtain ⟨i,rfl,V⟩:=C3 a1
   exact K0 us a q i g n M (an.later ai) (by rw [← aL];exact V) I a7 F J
 . obtain ⟨i,rfl,V⟩:=C3 a1
   exact K1 us a q i g k M (an.later ai) (by rw [← aL];exact V) a7 N
theorem K3:laidOutB prog=true:=by kernel_rfl
theorem K4:prog.keyType 244=true:=by kernel_rfl
theorem yi:Keyed prog 244:=Keyed.of_law (deep_law_laid K3 (m:=3) N9 (of_decide_eq_true (by kernel_rfl)) (by kernel_rfl) (by kernel_rfl))
def pN (p s:ByteArray):Lit:=.string (keyBytes [.string p.data.toList,.string s.data.toList])
theorem vw (p s:ByteArray) (F:p.size<=maxLen) (J:s.size<=maxLen):keyOf prog 244 (.agg #[.string p,.string s])=some (pN p s):=by
 have Y:(Value.agg #[.string p,.string s]).formed prog 244=true:=by kernel_rfl
 have X:prog.keyLits (prog.types.size+1) 244 (Value.agg #[.string p,.string s]).cells.toList=some [.string p.data.toList,.string s.data.toList]:=by
  have ab:0<prog.types.size:=of_decide_eq_true (by kernel_rfl)
  obtain ⟨k,N⟩:∃ k,prog.types.size=k+1:=⟨prog.types.size - 1,N7⟩
  rw [N]
  have a8:∀ o:ByteArray,o.size<=maxLen->prog.keyLits (k+1) 9 [.string o]=some [.string o.data.toList]:=fun o h=>by
   unfold Program.keyLits;rw [Tryz.underlying9];exact if_pos h
  have e:(Value.agg #[.string p,.string s]).cells.toList=[.string p,.string s]:=rfl
  have ae:prog.cellsOf 244=2:=by kernel_rfl
  have aw:prog.cellsOf 9=1:=by kernel_rfl
  rw [e];unfold Program.keyLits;rw [Tryz.underlying244];simp [ae,aw,a8 p F,a8 s J]
 unfold keyOf;rw [Tryz.underlying244];simp only [K4,Y,X]
 rfl
theorem K5 {a b c d:ByteArray} (F:a.size<=maxLen) (J:b.size<=maxLen) (U:c.size<=maxLen) (aa:d.size<=maxLen) (h:¬ (a=c/\b=d)):pN a b≠pN c d:=fun e=>by
 have a9:=vw a b F J;have au:=vw c d U aa;rw [← e] at au;have:=yi.inj a9 au
 injection this with this
 have:=congrArg Array.toList this;simp at this;exact h this
def qK (K:Kn) (p s:ByteArray) (x:Mg):Kn:=fun a b=>if a=p/\b=s then some x else K a b
def vx (D:DataW Value) (K:Kn):Prop:=∀ a b:ByteArray,a.size<=maxLen->b.size<=maxLen->has D (pN a b)=(K a b).isSome/\D.atKey (pN a b) (.held gI.val) = .held ((K a b).getD gI).val
theorem vx.put {D:DataW Value} (h:vx D K) (an:IsMap D) (p s:ByteArray) (F:p.size<=maxLen) (J:s.size<=maxLen) (x:Mg):vx (D.put (pN p s) (.held x.val)) (qK K p s x):=by
 intro a b a7 I
 by_cases e:a=p/\b=s
 . obtain ⟨rfl,rfl⟩:=e
   simp only [qK,and_self,if_true];exact ⟨has_put_same (k:=pN a b) an trivial _,atKey_put_same (k:=pN a b) an trivial _ _⟩
 . have aX:=K5 a7 I F J e
   simp only [qK,if_neg e];rw [has_put_other aX,atKey_put_other aX];exact h a b a7 I
def iH (w:World) (b n:Nat) (K:Kn):Prop:=∃ D,w.ownsMap prog 244 pG b n D/\vx D K
theorem iH.lt (h:iH w b n K):b<w.heap.size:=P7
theorem iH.block (h:iH w b n K) (I:G.heap[b]? = w.heap[b]?):iH G b n K:=by
 obtain ⟨D,F,J⟩:=h;obtain ⟨p,clock,aB,r⟩:=F;exact ⟨D,⟨p,clock,I.trans aB,r⟩,J⟩
theorem iH.later (h:iH w b n K) (I:dm w G):iH G b n K:=h.block (I.block b h.lt)
theorem iH.made (w:World):iH (w.alloc (.map #[] 0)) w.heap.size 0 (fun _ _=>none):=⟨.map [],rt w _ _ _,fun _ _ _ _=>⟨rfl,rfl⟩⟩
theorem K6 (w:World):(zeroValue 242).run prog w = .ok gI.val w:=by kernel_rfl
theorem iH.known (h:iH w b n K):iW w (.map (some b)) K:=by
 intro G I p s F J;obtain ⟨D,a9,au⟩:=h.later I;obtain ⟨v,a,E,af⟩:=a9.look_ok yi Tryz.underlying187 (K6 G) (zd:=.held gI.val) (zp:=[]) rfl (vw p s F J);rw [(au p s F J).2] at af;simp only [pG,kJ,rQ,s2] at af;rw [E,af.1,(au p s F J).1]
theorem iH.put (h:iH w b n K) (Z:n<maxLen) (p s:ByteArray) (F:p.size<=maxLen) (J:s.size<=maxLen) (x:Mg) :
 ∃ G,(Instr.mapUpdate 187 (.map (some b)) (.agg #[.string p,.string s]) x.val).run prog w = .ok () G/\iH G b (n+1) (qK K p s x)/\w.grownBy G (some b):=by
 obtain ⟨D,a9,au⟩:=h;obtain ⟨G,bp,bx,bQ⟩:=a9.update yi Tryz.underlying187 Z (vw p s F J) (val:=x.val) (d:=.held x.val) (ps:=[]) rfl;exact ⟨G,bp,⟨_,bx,au.put a9.isMap p s F J x⟩,bQ⟩
theorem dK.grown {R:Nat} {dk w2:World} (h:dK R w dk) (ak:dk.grownBy w2 (some R)):dK R w w2:=
 h.trans ⟨ak.os,ak.tape,ak.output,ak.size,fun k F J=>ak.block k F (fun e=>J (eX e))⟩
def tr (m:Int) (i:It):Mg:=⟨i.kind,i.n,m,i.at_⟩
def lM (K:Kn) (p:ByteArray) (m:Int) (l:List It):Kn:=l.foldl (fun K i=>qK K p i.name (tr m i)) K
theorem K7 (K:Kn) (p:ByteArray) (m:Int) (l:List It) (i:It):lM K p m (l++[i])=qK (lM K p m l) p i.name (tr m i):=by
 unfold lM;rw [lG];rfl
theorem C4 (K:Kn) (b n:Nat) (p:ByteArray) (a6:Int) (l:List It) (a:OA) (q:Nat) (w:World) (aO:iH w b n K) (a1:p.size<=maxLen) (A:Fx.zct w a l) (b7:Fx.AllFit l) (X:l.length<=1000) (Z:n<=1000) (P:∀ aL C,l≠[]->a=some (dj aL C)->aL≠b) :
 dw 119 #[.agg #[.map (some b)],.string p,di a6,.slice a l.length q] w fun e G=>e = .returned (.tuple #[])/\iH G b (n+l.length) (lM K p a6 l)/\dK b w G:=by
 have y:=hid A;have aD:=hid b7;have bJ:=hid aO;have d:=hid P;have aR:=aO.lt;clear A b7 aO P;go_enter func119,ntmps119;go_wp2_with fail
 go_loopw [9,12] (fun _ i wr=>∃ j:Nat,j<=l.length/\i=di j/\iH wr b (n+j) (lM K p a6 (l.take j))/\wr.heap[w.heap.size]? = some (.cells #[.map (some b)] 189)/\dK b w wr) (fun _ i _=>l.length - (intOf i).toNat)
 case atStart=>exact ⟨0,dY _,rfl,bJ.later (dn _ _),dX _ _,(dK.refl _ _).alloc _⟩
 case round=>
  obtain ⟨j,a2,rfl,N,hbx,ag⟩:=hrel;have c:=hid N;have aZ:=hid hbx;have aP:=hid ag;have bj:=ag.size;have J:=lt_of_heap hbx;clear N ag
  by_cases ac:j<l.length
  . obtain ⟨bv,C,rfl,bb,bt,ah,ae,c3⟩:=y.place ac
    have aX:=d bv C (fun h=>by rw [h] at ac;simp at ac) rfl;have bE:=(aP.cell (C:=C+j*4) bb aX).trans bt;have aT:=(aP.cell (C:=C+j*4+1) bb aX).trans ah;have aU:=(aP.cell (C:=C+j*4+2) bb aX).trans ae;have bh:=(aP.cell (C:=C+j*4+3) bb aX).trans c3;have r:bv<wr.heap.size:=e4 bb bj;have bF:=aD l[j] (eb _)
    have ak:Hid (qK (lM K p a6 (l.take j)) p l[j].name (tr a6 l[j])=lM K p a6 (l.take (j+1))):=by
     show _=lM K p a6 (l.take (j+1));rw [gn ac,K7]
    generalize l[j]=x at *;obtain ⟨w2,E,hK2,f⟩:=(c.later (dn _ (kd x.kind x.n x.at_ x.name))).put Oh p x.name a1 bF (tr a6 x);simp only [Mg.val,tr] at E;rw [ak.out] at hK2;have T:=hid hK2;have av:=hid ((aP.alloc _).grown f);have m:Hid (w2.heap[w.heap.size]? = some (.cells #[.map (some b)] 189)):=(f.block _ Of (fun e=>by have:=eX e;omega)).trans (eR aZ)
    have g:wr.cell? (dj w.heap.size 0)=some (.map (some b)):=by rw [eZ aZ.out];rfl
    clear bt ah ae c3 hK2 f hbx bF;go_wp2_with fail;go_roundw
    case rel=>exact ⟨j+1,N7,Ou,by rw [← ie];exact T,m,av⟩
    case measure=>simp [intOf];omega
  . obtain rfl:j=l.length:=by omega
    have k:Hid (iH wr b (n+l.length) (lM K p a6 l)):=by have:=c.out;rw [gu] at this;exact this
    clear hbx;go_wp2_with fail;go_end0;exact ⟨rfl,k,aP⟩
end Go.Proofs.YtndkhgakfodldaaGreatDoor
