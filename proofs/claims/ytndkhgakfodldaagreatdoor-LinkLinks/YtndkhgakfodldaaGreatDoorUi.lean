import Derived.Test.YtndkhgakfodldaaGreatDoorUc
import Derived.Test.YtndkhgakfodldaaGreatDoorXc
import Derived.Test.YtndkhgakfodldaaGreatDoorLex
set_option maxRecDepth 100000
set_option maxHeartbeats 3200000
set_option linter.unusedSimpArgs false
set_option linter.unusedVariables false
open Go.Proofs.Tryz
open List renaming length → Ln
namespace Go.Proofs.YtndkhgakfodldaaGreatDoor
open Go.RowKit Go.Maps Go.WideMaps
variable {A:Nat->Prop} {a:OA} {m:fh} {v:Value} {w:World}
abbrev pU (p:fH) (a:OA) (b:Nat) (c:OA) (e:Nat) (f:OA) (g:Nat):Obj:=me p.name p.pub a (Ln p.params) b c (Ln p.locals) e f (Ln p.body) g
abbrev It:=Fx.It
def jI (i:It):List D:=[.int i.kind,.int i.n,.int i.at_,.str i.name]
def g2 (l:List It):List D:=l.flatMap jI
def lR (g:Int) (d:ge):It:=⟨d.kind,d.n,if d.kind=2\/d.kind=3 then g else 0,d.name⟩
def jh (g:Int) (d:ge):Int:=if d.kind=2 then g+1 else if d.kind=3 then g+d.n else g
def js:Int->List ge->List It × Int
 | a,[]=>([],a)
 | a,o :: O=>(lR a o :: (js (jh a o) O).1,(js (jh a o) O).2)
def pD (i:Nat) (p:fH):It:=⟨4,Ln p.params,i,p.name⟩
def oK:Nat->List fH->List It
 | _,[]=>[]
 | i,y :: O=>pD i y :: oK (i+1) O
def iV (m:fh):List It:=(js 0 m.decls).1++oK 0 m.procs
def j0 (m:fh):Int:=(js 0 m.decls).2
theorem Bq:∀ (K:List ge) (a:Int) (o:ge),js a (K++[o])=((js a K).1++[lR (js a K).2 o],jh (js a K).2 o)
 | [],a,o=>rfl
 | q :: O,a,o=>by
   show (lR a q :: (js (jh a q) (O++[o])).1,(js (jh a q) (O++[o])).2)=_
   rw [Bq O];rfl
theorem Br:∀ (K:List ge) (a:Int),(js a K).1.length=Ln K
 | [],_=>rfl
 | q :: O,a=>by show (_ :: _).length=_;rw [iH,Br O,iH]
theorem Bs:∀ (K:List fH) (i:Nat) (y:fH),oK i (K++[y])=oK i K++[pD (i+Ln K) y]
 | [],i,y=>rfl
 | q :: O,i,y=>by
   show pD i q :: oK (i+1) (O++[y])=_
   rw [Bs O,show i+1+Ln O=i+(q :: O).length from by simp;omega];rfl
theorem Bt:∀ (K:List fH) (i:Nat),(oK i K).length=Ln K
 | [],_=>rfl
 | q :: O,i=>by show (_ :: _).length=_;rw [iH,Bt O,iH]
theorem xw (m:fh):(iV m).length=Ln m.decls+Ln m.procs:=by unfold iV;rw [gn,Br,Bt]
structure xx (m:fh):Prop where
 decls:Ln m.decls<=10
 procs:Ln m.procs<=6
 kinds:∀ d ∈ m.decls,1<=d.kind/\d.kind<=3/\(d.kind=3->1<=d.n/\d.n<=32)
theorem sJ (h:m.err=0):Ln m.uses<=3/\Ln m.decls<=10/\Ln m.procs<=6/\(∀ y ∈ m.procs,Ln y.params<=3/\Ln y.locals<=4/\fC 6 y.body=false)/\fC 6 m.main=false:=by
 obtain ⟨_,a8,_⟩:=zG h;unfold fh.many at a8;simp only [jf] at a8;obtain ⟨G,J,S,a6,ap⟩:=a8;have G:=of_decide_eq_false G;have J:=of_decide_eq_false J;have S:=of_decide_eq_false S;rw [oq] at a6 ap;refine ⟨by omega,by omega,by omega,fun y az=>?_,by simpa using ap m.main (by unfold fh.bodies;simp)⟩;have:=a6 y az;simp only [rp,jf] at this;have ak:=of_decide_eq_false this.1;have au:=of_decide_eq_false this.2;exact ⟨by omega,by omega,by simpa using ap y.body (by unfold fh.bodies;simp;exact Or.inl ⟨y,az,rfl⟩)⟩
theorem xy (h:m.err=0):xx m:=by
 have az:=sJ h;refine ⟨az.2.1,az.2.2.1,fun o ez=>?_⟩;obtain ⟨_,Z,G,J⟩:=(DX h).decls o ez;refine ⟨G,J,fun S=>?_⟩;unfold kB at Z;rw [S,if_neg (by decide),if_pos rfl] at Z;simpa using Z
theorem Bu:∀ (K:List ge) (a:Int),(∀ o ∈ K,1<=o.kind/\o.kind<=3/\(o.kind=3->1<=o.n/\o.n<=32))->a<=(js a K).2/\(js a K).2<=a+32*Ln K
 | [],a,_=>⟨Int.le_refl _,by simp [js]⟩
 | q :: O,a,h=>by
   have Q:=h q (by simp);have aH:=Bu O (jh a q) (fun o ez=>h o (by simp [ez]));show a<=(js (jh a q) O).2/\(js (jh a q) O).2<=a+32*((q :: O).length:Nat);rw [iH]
   have U:a<=jh a q/\jh a q<=a+32:=by
    unfold jh;split
    . omega
    . split
      . rename_i S;have:=Q.2.2 S;omega
      . omega
   omega
theorem Tryz.infoItem:(prog.info? 98).map (fun i=>(i.zero,i.size,i.bytes))=some (some (.agg #[em 0,em 0,em 0,.string ⟨#[]⟩]),4,40):=by kernel_rfl
theorem rE {k n a:Int} {s:ByteArray} (h:s.size<=maxLen):fG w A (jI ⟨k,n,a,s⟩) [em k,em n,em a,.string s]:=.cons jX (.cons jX (.cons jX (.cons (mx h) .nil)))
theorem rF (l:List It) (x:It):g2 (l++[x])=g2 l++jI x:=by simp [g2]
theorem xA {l:List It} (h:eU w A a (Ln l) (g2 l)):Fx.zcy w a l/\Fx.AllFit l:=by
 rcases h with h | ⟨b,C,d,ab,_,F,a1,Q⟩
 . have:l=[]:=ii h
   subst this;exact ⟨Or.inl rfl,fun i X=>by cases X⟩
 . have g:∀ i (X:i<Ln l) j o,j<4->(jI l[i])[j]? = some o->∃ v,w.cell? ⟨b,C+i*4+j,none⟩=some v/\g0 w A o v:=fun i X j o ac ez=>by
    obtain ⟨v,a7,c⟩:=Q.get (i*4+j) o ((mw jI 4 (fun _=>rfl) l i X j ac).trans ez);exact ⟨v,by rw [kd];exact a1 _ v a7,c⟩
   refine ⟨Or.inr ⟨b,C,ab,F,fun i X=>?_,fun i X=>?_,fun i X=>?_,fun i X=>?_⟩,fun q a3=>?_⟩
   . obtain ⟨v,a7,ez⟩:=g i X 0 (.int l[i].kind) (by omega) rfl
     rw [um ez] at a7;exact a7
   . obtain ⟨v,a7,ez⟩:=g i X 1 (.int l[i].n) (by omega) rfl
     rw [um ez] at a7;exact a7
   . obtain ⟨v,a7,ez⟩:=g i X 2 (.int l[i].at_) (by omega) rfl
     rw [um ez] at a7;exact a7
   . obtain ⟨v,a7,ez⟩:=g i X 3 (.str l[i].name) (by omega) rfl
     rw [(AN ez).1] at a7;exact a7
   . obtain ⟨i,X,rfl⟩:=kx a3
     obtain ⟨v,a7,ez⟩:=g i X 3 (.str l[i].name) (by omega) rfl;exact (AN ez).2
theorem xB (m:fh) (v:Value) (Y:OA) (a9:Nat) (a5:OA) (a4:Nat) (a7:OA) (c3:Nat) (ay:OA) (am:Nat) (w:World) (aS:hm w eV m v Y a9 a5 a4 a7 c3 ay am) (be:xx m) :
 ew 49 #[v] w fun e r=>(∃ a I,e = .returned (.tuple #[.slice a (iV m).length I,em (j0 m)])/\eU r (w.heap.size<=·) a (iV m).length (g2 (iV m)))/\et w r:=by
 obtain rfl:=aS.val;have J:=hid aS.decls;have B:=hid aS.procs;have bh:=hid be;have cA:=be.decls;have cP:=be.procs;clear aS be;go_enter func49,ntmps49;go_wp2_with fail
 go_loopw [4,5,7,8,14] (fun v dv _ _ i wr=>∃ (j:Nat) (P:List It) (n:Int),j<=Ln m.decls/\i=em j/\dv=em n/\Ln P=j/\js 0 (m.decls.take j)=(P,n)/\Row (w.heap.size+1) 98 4 wr v (Ln P) (g2 P)/\wr.heap[w.heap.size]? = some (jB m.name Y (Ln m.uses) a9 a5 (Ln m.decls) a4 a7 (Ln m.procs) c3 ay (Ln m.main) am)/\et w wr) (fun _ _ _ _ i _=>Ln m.decls - (intOf i).toNat)
 case atStart=>exact ⟨0,[],0,eY _,rfl,rfl,rfl,rfl,Row.nil _ _ _ _,eT _ _,ey _ _⟩
 case round=>
  obtain ⟨j,P,n,ac,rfl,rfl,hacc,d,ba,hbx,F⟩:=hrel;have aG:=hid ba;have bL:=hid hbx;have ad:=hid F;have ai:=hid d;have bN:=F.size;have u:=lt_of_heap hbx;clear ba F d
  by_cases a0:j<Ln m.decls
  . obtain ⟨b,C,rfl,Q⟩:=(J.later ad).de j a0
    obtain ⟨ap,af,E,ae,H,_,_,bu⟩:=Q
    have ab:Hid (js 0 (m.decls.take (j+1))=(P++[lR n m.decls[j]],jh n m.decls[j])):=by
     show js 0 (m.decls.take (j+1))=_;rw [hI a0,Bq,ai.out]
    have t:=bh.kinds m.decls[j] (fO _)
    have bC:0<=n/\n<=320:=by
     have:=Bu (m.decls.take j) 0 (fun o ez=>bh.kinds o (List.mem_of_mem_take ez));rw [ai.out] at this;simp only [ky] at this;omega
    generalize m.decls[j]=o at *;have D:=t.1;have l:=t.2.1;have q:=t.2.2;clear t hbx
    by_cases x:o.kind=2
    . have c9:IntKind.i64.wrap (n+1)=n+1:=by simp only [IntKind.wrap,IntKind.bits,IntKind.signed];simp;omega
      have aN:Hid (lR n o=⟨o.kind,o.n,n,o.name⟩):=by show lR n o=_;unfold lR;rw [if_pos (Or.inl x)]
      have aF:Hid (jh n o=n+1):=by show jh n o=_;unfold jh;rw [if_pos x]
      have aq:Hid (Row (w.heap.size+1) 98 4 ((wr.alloc (iG o.kind o.name o.pub o.n)).alloc (kq o.kind o.n n o.name)) u4 (Ln P) (g2 P)):=(aG.alloc _).alloc _;have X:Hid (fG ((wr.alloc (iG o.kind o.name o.pub o.n)).alloc (kq o.kind o.n n o.name)) (fun _=>False) (jI ⟨o.kind,o.n,n,o.name⟩) [em o.kind,em o.n,em n,.string o.name]):=rE bu;have M:Hid (et w ((wr.alloc (iG o.kind o.name o.pub o.n)).alloc (kq o.kind o.n n o.name))):=es ad (gc _ _ _);have g:Hid (((wr.alloc (iG o.kind o.name o.pub o.n)).alloc (kq o.kind o.n n o.name)).heap[w.heap.size]? = some (jB m.name Y (Ln m.uses) a9 (some (ep b C)) (Ln m.decls) a4 a7 (Ln m.procs) c3 ay (Ln m.main) am)):=fF (fF bL)
      have V:(o.kind == 2)=true:=by rw [x];rfl
      clear bu D l q x
      go_wp2_with (at_builtin;refine mP rfl (.tmp 41) (.tmp 43) 28 rfl (w.heap.size+1) 98 _ 4 40 Tryz.underlying28 Tryz.infoItem rfl (by decide) ((wr.alloc (iG o.kind o.name o.pub o.n)).alloc (kq o.kind o.n n o.name)) u4 (Ln P) (g2 P) (jI ⟨o.kind,o.n,n,o.name⟩) rfl aq #[em o.kind,em o.n,em n,.string o.name] _ (by simp) rfl rfl (fun _=>False) X (fun b _ h=>h.elim) (by omega) (by decide) (by simp;omega) ?_)
      intro bs aX eJ s bb bK;have a2:=hid s;have f:=hid bb;clear s bb aq X;go_wp2_with fail;go_roundw
      case rel=>exact ⟨j+1,P++[_],_,by omega,by go_num,rfl,by simp [hacc],ab.trans (by rw [aN.out,aF.out]),by rw [rF,gn,hacc];exact a2,(f.block _ (by omega)).trans g,M.trans (f.mono (by omega))⟩
      case measure=>simp [intOf];omega
    by_cases p:o.kind=3
    . have A:=q p
      have c9:IntKind.i64.wrap (n+o.n)=n+o.n:=by simp only [IntKind.wrap,IntKind.bits,IntKind.signed];simp;omega
      have aN:Hid (lR n o=⟨o.kind,o.n,n,o.name⟩):=by show lR n o=_;unfold lR;rw [if_pos (Or.inr p)]
      have aF:Hid (jh n o=n+o.n):=by show jh n o=_;unfold jh;rw [if_neg x,if_pos p]
      have aq:Hid (Row (w.heap.size+1) 98 4 ((wr.alloc (iG o.kind o.name o.pub o.n)).alloc (kq o.kind o.n n o.name)) u4 (Ln P) (g2 P)):=(aG.alloc _).alloc _;have X:Hid (fG ((wr.alloc (iG o.kind o.name o.pub o.n)).alloc (kq o.kind o.n n o.name)) (fun _=>False) (jI ⟨o.kind,o.n,n,o.name⟩) [em o.kind,em o.n,em n,.string o.name]):=rE bu;have M:Hid (et w ((wr.alloc (iG o.kind o.name o.pub o.n)).alloc (kq o.kind o.n n o.name))):=es ad (gc _ _ _);have g:Hid (((wr.alloc (iG o.kind o.name o.pub o.n)).alloc (kq o.kind o.n n o.name)).heap[w.heap.size]? = some (jB m.name Y (Ln m.uses) a9 (some (ep b C)) (Ln m.decls) a4 a7 (Ln m.procs) c3 ay (Ln m.main) am)):=fF (fF bL)
      have V:(o.kind == 2)=false:=by rw [p];rfl
      have b9:(o.kind == 3)=true:=by rw [p];rfl
      clear bu D l q x p A
      go_wp2_with (at_builtin;refine mP rfl (.tmp 41) (.tmp 43) 28 rfl (w.heap.size+1) 98 _ 4 40 Tryz.underlying28 Tryz.infoItem rfl (by decide) ((wr.alloc (iG o.kind o.name o.pub o.n)).alloc (kq o.kind o.n n o.name)) u4 (Ln P) (g2 P) (jI ⟨o.kind,o.n,n,o.name⟩) rfl aq #[em o.kind,em o.n,em n,.string o.name] _ (by simp) rfl rfl (fun _=>False) X (fun b _ h=>h.elim) (by omega) (by decide) (by simp;omega) ?_)
      intro bs aX eJ s bb bK;have a2:=hid s;have f:=hid bb;clear s bb aq X;go_wp2_with fail;go_roundw
      case rel=>exact ⟨j+1,P++[_],_,by omega,by go_num,rfl,by simp [hacc],ab.trans (by rw [aN.out,aF.out]),by rw [rF,gn,hacc];exact a2,(f.block _ (by omega)).trans g,M.trans (f.mono (by omega))⟩
      case measure=>simp [intOf];omega
    have aN:Hid (lR n o=⟨o.kind,o.n,0,o.name⟩):=by show lR n o=_;unfold lR;rw [if_neg (by omega)]
    have aF:Hid (jh n o=n):=by show jh n o=_;unfold jh;rw [if_neg x,if_neg p]
    have aq:Hid (Row (w.heap.size+1) 98 4 ((wr.alloc (iG o.kind o.name o.pub o.n)).alloc (kq o.kind o.n 0 o.name)) u4 (Ln P) (g2 P)):=(aG.alloc _).alloc _;have X:Hid (fG ((wr.alloc (iG o.kind o.name o.pub o.n)).alloc (kq o.kind o.n 0 o.name)) (fun _=>False) (jI ⟨o.kind,o.n,0,o.name⟩) [em o.kind,em o.n,em 0,.string o.name]):=rE bu;have M:Hid (et w ((wr.alloc (iG o.kind o.name o.pub o.n)).alloc (kq o.kind o.n 0 o.name))):=es ad (gc _ _ _);have g:Hid (((wr.alloc (iG o.kind o.name o.pub o.n)).alloc (kq o.kind o.n 0 o.name)).heap[w.heap.size]? = some (jB m.name Y (Ln m.uses) a9 (some (ep b C)) (Ln m.decls) a4 a7 (Ln m.procs) c3 ay (Ln m.main) am)):=fF (fF bL);have V:(o.kind == 2)=false:=beq_eq_false_iff_ne.2 x;have b9:(o.kind == 3)=false:=beq_eq_false_iff_ne.2 p;clear bu D l q x p
    go_wp2_with (at_builtin;refine mP rfl (.tmp 41) (.tmp 43) 28 rfl (w.heap.size+1) 98 _ 4 40 Tryz.underlying28 Tryz.infoItem rfl (by decide) ((wr.alloc (iG o.kind o.name o.pub o.n)).alloc (kq o.kind o.n 0 o.name)) u4 (Ln P) (g2 P) (jI ⟨o.kind,o.n,0,o.name⟩) rfl aq #[em o.kind,em o.n,em 0,.string o.name] _ (by simp) rfl rfl (fun _=>False) X (fun b _ h=>h.elim) (by omega) (by decide) (by simp;omega) ?_)
    intro bs aX eJ s bb bK;have a2:=hid s;have f:=hid bb;clear s bb aq X;go_wp2_with fail;go_roundw
    case rel=>exact ⟨j+1,P++[_],_,by omega,by go_num,rfl,by simp [hacc],ab.trans (by rw [aN.out,aF.out]),by rw [rF,gn,hacc];exact a2,(f.block _ (by omega)).trans g,M.trans (f.mono (by omega))⟩
    case measure=>simp [intOf];omega
  . obtain rfl:j=Ln m.decls:=by omega
    have dn:Hid (js 0 m.decls=(P,n)):=by have:=ai.out;rw [iA] at this;exact this
    have z:Hid (Row (w.heap.size+1) 98 4 wr u4 (Ln m.decls) (g2 P)):=hacc ▸ aG.out;obtain ⟨ag,ak,au,aI,bq,N⟩:=fi bL;clear ai hbx aG;go_wp2_with fail;clear ag ak au aI bq N
    go_loopw [4,9,10,49] (fun v _ _ i wr=>∃ (j:Nat) (c:List It),j<=Ln m.procs/\i=em j/\Ln c=Ln m.decls+j/\c=P++oK 0 (m.procs.take j)/\Row (w.heap.size+1) 98 4 wr v (Ln c) (g2 c)/\wr.heap[w.heap.size]? = some (jB m.name Y (Ln m.uses) a9 a5 (Ln m.decls) a4 a7 (Ln m.procs) c3 ay (Ln m.main) am)/\et w wr) (fun _ _ _ i _=>Ln m.procs - (intOf i).toNat)
    case atStart=>exact ⟨0,P,eY _,rfl,by rw [hacc,kf],by simp [oK],hacc ▸ z.out,bL,ad⟩
    case round=>
     clear z bL ad bN u;obtain ⟨j,c,hj2,rfl,hac2,hdef,ba,hbx,F⟩:=hrel;have aG:=hid ba;have bL:=hid hbx;have ad:=hid F;have k:=hid hdef;have bN:=F.size;have u:=lt_of_heap hbx;clear ba F hdef
     by_cases a0:j<Ln m.procs
     . obtain ⟨b,C,an,aL,aD,aU,aR,bd,rfl,Q⟩:=(B.later ad).pr j a0
       obtain ⟨ap,af,E,ae,H,aj,_,_,_,bu⟩:=Q
       have ab:Hid (c++[pD j m.procs[j]]=P++oK 0 (m.procs.take (j+1))):=by
        show c++[pD j m.procs[j]]=_;rw [hI a0,Bs,k.out,tW,ky,t7 (by omega),hv]
       generalize m.procs[j]=y at *;have aq:Hid (Row (w.heap.size+1) 98 4 (wr.alloc (pU y an aL aD aU aR bd)) u4 (Ln c) (g2 c)):=aG.alloc _;have X:Hid (fG (wr.alloc (pU y an aL aD aU aR bd)) (fun _=>False) (jI (pD j y)) [em 4,em (Ln y.params),em j,.string y.name]):=rE bu;have M:Hid (et w (wr.alloc (pU y an aL aD aU aR bd))):=es ad (ey _ _);have g:Hid ((wr.alloc (pU y an aL aD aU aR bd)).heap[w.heap.size]? = some (jB m.name Y (Ln m.uses) a9 a5 (Ln m.decls) a4 (some (ep b C)) (Ln m.procs) c3 ay (Ln m.main) am)):=fF bL;clear bu hbx
       go_wp2_with (at_builtin;refine mP rfl (.tmp 54) (.tmp 62) 28 rfl (w.heap.size+1) 98 _ 4 40 Tryz.underlying28 Tryz.infoItem rfl (by decide) (wr.alloc (pU y an aL aD aU aR bd)) u4 (Ln c) (g2 c) (jI (pD j y)) rfl aq #[em 4,em (Ln y.params),em j,.string y.name] _ (by simp) rfl rfl (fun _=>False) X (fun b _ h=>h.elim) (by omega) (by decide) (by simp;omega) ?_)
       intro bs aX eJ s bb bK;have a2:=hid s;have f:=hid bb;clear s bb aq X;go_wp2_with fail;go_roundw
       case rel=>exact ⟨j+1,c++[pD j y],by omega,by go_num,by simp [hac2];omega,ab,by rw [rF,gn,hac2];exact a2,(f.block _ (by omega)).trans g,M.trans (f.mono (by omega))⟩
       case measure=>simp [intOf];omega
     . obtain rfl:j=Ln m.procs:=by omega
       have az:Hid (iV m=c):=by
        show iV m=c;rw [k.out,iA];unfold iV;rw [dn.out]
       have dc:Hid (j0 m=n):=by show j0 m=n;unfold j0;rw [dn.out]
       obtain ⟨av,aX,rfl,hea⟩:=aG.slice;have G:=hid hea;clear hea hbx;go_wp2_with fail;go_ret2;refine ⟨⟨av,aX,?_,?_⟩,ad⟩
       . rw [az.out,dc.out,hac2];rfl
       . rw [az.out]
         exact G.moves ⟨eD _,fun b _ h=>⟨by have:w.heap.size+1<=b:=h;show w.heap.size<=b;omega,rfl⟩⟩
def j1 (m:fh):Int:=if m.err≠0 then m.err else if Fx.zgd (Fx.zbi m.uses)||Fx.zgd (Fx.zew (iV m)) then 6 else 0
theorem lT {l:List ByteArray} (h:eE w A a (Ln l) (fj l)):Fx.zez w a l/\∀ s ∈ l,s.size<=maxLen:=by
 refine ⟨?_,fun s Z=>?_⟩
 . rcases h.2.2 with a3 | ⟨b,C,d,ab,_,F,a1,Q⟩
   . exact Or.inl (ii a3)
   . refine Or.inr ⟨b,C,ab,F,fun i X=>?_⟩
     obtain ⟨v,a7,ez⟩:=Q.get i (.str l[i]) (by simp [fj,X]);rw [(lj ez).1] at a7;exact a1 i _ a7
 . obtain ⟨i,X,rfl⟩:=kx Z
   obtain ⟨b,C,_,_,_,a6⟩:=h.str i X;exact a6
theorem HQ {Y a5 a7 ay:OA} {a9 a4 c3 am:Nat} (aS:hm w eV m v Y a9 a5 a4 a7 c3 ay am) (S:Ln m.uses<=3) :
 ew 59 #[.slice Y (Ln m.uses) a9] w fun e r=>e = .returned (.bool (Fx.zgd (Fx.zbi m.uses)))/\et w r:=
 Fx.zf6 Y a9 m.uses w (lT aS.uses).1 (by omega) (lT aS.uses).2
theorem HR {B:Nat} {l:List It} (h:w.ownsRow B 9 1 v (Ln l) (Fx.zxr l)) (a2:Ln l<=1000000) (ag:Fx.AllFit l) :
 ew 59 #[v] w fun e r=>e = .returned (.bool (Fx.zgd (Fx.zew l)))/\et w r:=by
 obtain ⟨a,c,rfl,g⟩:=Fx.zv7 h;rw [← Fx.zmf]
 exact Fx.zf6 a c _ w g (by rw [qu];omega) (fun s h=>by
  obtain ⟨i,X,rfl⟩:=po.1 h
  exact ag i X)
theorem Bv (m:fh) (v:Value) (Y:OA) (a9:Nat) (a5:OA) (a4:Nat) (a7:OA) (c3:Nat) (ay:OA) (am:Nat) (w:World) (aS:hm w eV m v Y a9 a5 a4 a7 c3 ay am) :
 ew 48 #[v] w fun e r=>e = .returned (em (j1 m))/\et w r:=by
 obtain rfl:=aS.val;have aq:=hid aS;have ao:=hid (Bc m _ Y a9 a5 a4 a7 c3 ay am (w.alloc (jB m.name Y (Ln m.uses) a9 a5 (Ln m.decls) a4 a7 (Ln m.procs) c3 ay (Ln m.main) am)) (aS.later (ey _ _)));clear aS
 obtain ⟨O,W⟩:∃ O,O=j1 m:=⟨_,rfl⟩
 rw [← W];have z:=hid W;clear W;go_enter func48,ntmps48;go_wp2_with fail;refine ao.mono ?_;rintro e eq ⟨rfl,ai⟩;have B:=hid (es (ey w _) ai);have b0:=ai.size;simp at b0;have an:=(ai.block _ (by simp)).trans (eT w _);have c:=hid an;obtain ⟨af,E,ae,H,aj,bc⟩:=fi an;have aI:=lt_of_heap an;clear ai an ao
 by_cases ah:m.err=0
 . have d:=xy ah
   have cg:=(sJ ah).1;have bB:=hid (xB m _ Y a9 a5 a4 a7 c3 ay am eq (aq.later B) d);have aZ:Hid (O=if Fx.zgd (Fx.zbi m.uses)||Fx.zgd (Fx.zew (iV m)) then 6 else 0):=z.trans (if_neg (by simp [ah]))
   have b:Hid ((iV m).length<=16):=by have G:=d.decls;have J:=d.procs;show (iV m).length<=16;rw [xw];omega
   clear d z;go_wp2_with fail;refine bB.mono ?_;rintro e w2 ⟨⟨b9,aA,rfl,hit⟩,aB⟩;have aM:=hid (es B aB);have bl:=aB.size;have a:=hid ((aB.block _ aI).trans c);obtain ⟨az,p⟩:=xA hit;have ca:=hid az;have c5:=hid p;clear aB bB hit az p af E ae H aj bc;obtain ⟨af,E,ae,H,aj,bc⟩:=fi a;have Q:=lt_of_heap a;have bI:=hid (HQ (aq.later aM) cg)
   cases au:Fx.zgd (Fx.zbi m.uses) with
   | true=>
     rw [au] at bI aZ;have b3:Hid (O=6):=aZ.out;clear au aZ;go_wp2_with fail;refine bI.mono ?_;rintro e eC ⟨rfl,a2⟩;have aP:=hid (es aM a2);clear a2;go_wp2_with fail;go_ret;exact ⟨ret_int b3.symm,aP⟩
   | false=>
     rw [au] at bI aZ;clear au;go_wp2_with fail;refine bI.mono ?_;rintro e eC ⟨rfl,a2⟩;have aP:=hid (es aM a2);have aF:=hid (Fx.zi2 b9 aA (iV m) eC (ca.later a2) (by have:=b.out;omega));clear a2;go_wp2_with fail;refine aF.mono ?_;rintro e eA ⟨be,rfl,ho4,aW⟩;have b1:=hid (es aP aW);have aG:=hid (HR ho4 (by have:=b.out;omega) c5);clear aW ho4;go_wp2_with fail;refine aG.mono ?_;rintro e eJ ⟨rfl,b5⟩;have bb:=hid (es b1 b5);clear b5
     cases s:Fx.zgd (Fx.zew (iV m)) with
     | true=>
       have b3:Hid (O=6):=aZ.trans (by rw [s];rfl);clear s aZ;go_wp2_with fail;go_ret;exact ⟨ret_int b3.symm,bb⟩
     | false=>
       have b3:Hid (O=0):=aZ.trans (by rw [s];rfl);clear s aZ;go_wp2_with fail;go_ret;exact ⟨ret_int b3.symm,bb⟩
 . have aZ:Hid (O=m.err):=z.trans (if_pos ah)
   go_wp2_with fail;go_ret;exact ⟨ret_int aZ.symm,B⟩
def pick (d:List Bool) (l:List It):List It:=(d.zip l).filterMap fun y=>if y.1 then some y.2 else none
def iE (m:fh):List Bool:=m.decls.map ge.pub++m.procs.map fH.pub
def uB (m:fh):List It:=pick (iE m) (iV m)
theorem sK (m:fh):(iE m).length=Ln m.decls+Ln m.procs:=by simp [iE]
theorem HS (m:fh) (j:Nat) (h:j<Ln m.decls):(iE m)[j]'(by rw [sK];omega)=m.decls[j].pub:=by
 unfold iE;rw [su (by simpa using h)];simp
theorem HT (m:fh) (j:Nat) (h:j<Ln m.procs):(iE m)[Ln m.decls+j]'(by rw [sK];omega)=m.procs[j].pub:=by
 unfold iE;rw [List.getElem_append_right (by simp)];simp
theorem Bw (d:List Bool) (l:List It) (k:Nat) (F:k<Ln d) (a2:k<Ln l):pick (d.take (k+1)) (l.take (k+1))=pick (d.take k) (l.take k)++if d[k] then [l[k]] else []:=by
 unfold pick;rw [hI F,hI a2,List.zip_append (by simp;omega),List.filterMap_append]
 congr 1
 cases d[k]<;>rfl
theorem HU (m:fh) (v:Value) (Y:OA) (a9:Nat) (a5:OA) (a4:Nat) (a7:OA) (c3:Nat) (ay:OA) (am:Nat) (c:List It) (b9:OA) (aA:Nat) (w:World) (aS:hm w eV m v Y a9 a5 a4 a7 c3 ay am) (be:xx m) (aT:Ln c=Ln m.decls+Ln m.procs) (t:Fx.zcy w b9 c) (br:Fx.AllFit c) :
 ew 50 #[v,.slice b9 (Ln c) aA] w fun e r=>(∃ a I,e = .returned (.slice a (pick (iE m) c).length I)/\eU r (w.heap.size<=·) a (pick (iE m) c).length (g2 (pick (iE m) c)))/\et w r:=by
 obtain rfl:=aS.val;have J:=hid aS.decls;have B:=hid aS.procs;have ca:=hid t;have c5:=hid br;have x:=hid aT;have cA:=be.decls;have cP:=be.procs;clear aS be t br aT;go_enter func50,ntmps50;go_wp2_with fail
 go_loopw [5,6,7,13] (fun v _ _ i wr=>∃ (j:Nat) (P:List It),j<=Ln m.decls/\i=em j/\Ln P<=j/\P=pick ((iE m).take j) (c.take j)/\Row (w.heap.size+1) 98 4 wr v (Ln P) (g2 P)/\wr.heap[w.heap.size]? = some (jB m.name Y (Ln m.uses) a9 a5 (Ln m.decls) a4 a7 (Ln m.procs) c3 ay (Ln m.main) am)/\et w wr) (fun _ _ _ i _=>Ln m.decls - (intOf i).toNat)
 case atStart=>exact ⟨0,[],eY _,rfl,eD _,by simp [pick],Row.nil _ _ _ _,eT _ _,ey _ _⟩
 case round=>
  obtain ⟨j,P,ac,rfl,hacc,hdef,ba,hbx,F⟩:=hrel;have aG:=hid ba;have bL:=hid hbx;have ad:=hid F;have k:=hid hdef;have bN:=F.size;have u:=lt_of_heap hbx;clear ba F hdef
  by_cases a0:j<Ln m.decls
  . have U:j<Ln c:=by have:=x.out;omega
    have ab:Hid (pick ((iE m).take (j+1)) (c.take (j+1))=P++if m.decls[j].pub then [c[j]] else []):=by
     show pick ((iE m).take (j+1)) (c.take (j+1))=_;rw [Bw _ _ j (by rw [sK];omega) U,HS m j a0,← k.out]
    have d:=c5 c[j] (fO _);have bz:=hid ((ca.later ad).place U);obtain ⟨b,C,rfl,Q⟩:=(J.later ad).de j a0;obtain ⟨ap,af,E,xp,H,_,_,bu⟩:=Q;obtain ⟨V,off2,rfl,hbl2,bx,bQ,i2,i3⟩:=bz.out
    have n:(j:Int)<Ln c:=by omega
    clear bz;generalize m.decls[j]=o at *;generalize c[j]=q at *
    cases a8:o.pub with
    | true=>
      have aq:Hid (Row (w.heap.size+1) 98 4 (wr.alloc (iG o.kind o.name o.pub o.n)) u5 (Ln P) (g2 P)):=aG.alloc _;have X:Hid (fG (wr.alloc (iG o.kind o.name o.pub o.n)) (fun _=>False) (jI q) [em q.kind,em q.n,em q.at_,.string q.name]):=rE d;have g:Hid ((wr.alloc (iG o.kind o.name o.pub o.n)).heap[w.heap.size]? = some (jB m.name Y (Ln m.uses) a9 (some (ep b C)) (Ln m.decls) a4 a7 (Ln m.procs) c3 ay (Ln m.main) am)):=fF bL;have M:Hid (et w (wr.alloc (iG o.kind o.name o.pub o.n))):=es ad (ey _ _);have A:Hid (pick ((iE m).take (j+1)) (c.take (j+1))=P++[q]):=ab.trans (by rw [a8];rfl);rw [a8] at aq X g M;clear d hbx ab;rw [a8] at xp
      go_wp2_with (at_builtin;refine mP rfl (.tmp 20) (.tmp 25) 28 rfl (w.heap.size+1) 98 _ 4 40 Tryz.underlying28 Tryz.infoItem rfl (by decide) (wr.alloc (iG o.kind o.name true o.n)) u5 (Ln P) (g2 P) (jI q) rfl aq #[em q.kind,em q.n,em q.at_,.string q.name] _ (by simp) rfl rfl (fun _=>False) X (fun b _ h=>h.elim) (by omega) (by decide) (by simp;omega) ?_)
      intro bs aX eJ s bb bK;have a2:=hid s;have f:=hid bb;clear s bb aq X;go_wp2_with fail;go_roundw
      case rel=>exact ⟨j+1,P++[q],by omega,by go_num,by rw [gn];simp;omega,A.symm,by rw [rF,gn];exact a2,(f.block _ (by omega)).trans g,M.trans (f.mono (by omega))⟩
      case measure=>simp [intOf];omega
    | false=>
      have aq:Hid (Row (w.heap.size+1) 98 4 (wr.alloc (iG o.kind o.name o.pub o.n)) u5 (Ln P) (g2 P)):=aG.alloc _;have g:Hid ((wr.alloc (iG o.kind o.name o.pub o.n)).heap[w.heap.size]? = some (jB m.name Y (Ln m.uses) a9 (some (ep b C)) (Ln m.decls) a4 a7 (Ln m.procs) c3 ay (Ln m.main) am)):=fF bL;have M:Hid (et w (wr.alloc (iG o.kind o.name o.pub o.n))):=es ad (ey _ _);have A:Hid (pick ((iE m).take (j+1)) (c.take (j+1))=P):=ab.trans (by rw [a8];simp);rw [a8] at aq g M;clear d hbx ab;rw [a8] at xp;go_wp2_with fail;go_roundw
      case rel=>exact ⟨j+1,P,by omega,by go_num,by omega,A.symm,aq,g,M⟩
      case measure=>simp [intOf];omega
  . obtain rfl:j=Ln m.decls:=by omega
    have l:Hid (P=pick ((iE m).take (Ln m.decls)) (c.take (Ln m.decls))):=k.out;obtain ⟨ag,ak,au,aI,bq,N⟩:=fi bL;clear k hbx;go_wp2_with fail;clear ag ak au aI bq N
    go_loopw [5,8,9,31] (fun v _ _ i wr=>∃ (j:Nat) (P:List It),j<=Ln m.procs/\i=em j/\Ln P<=Ln m.decls+j/\P=pick ((iE m).take (Ln m.decls+j)) (c.take (Ln m.decls+j))/\Row (w.heap.size+1) 98 4 wr v (Ln P) (g2 P)/\wr.heap[w.heap.size]? = some (jB m.name Y (Ln m.uses) a9 a5 (Ln m.decls) a4 a7 (Ln m.procs) c3 ay (Ln m.main) am)/\et w wr) (fun _ _ _ i _=>Ln m.procs - (intOf i).toNat)
    case atStart=>exact ⟨0,P,eY _,rfl,hacc,l,aG,bL,ad⟩
    case round=>
     clear aG bL ad bN u l hacc;obtain ⟨j,P,hj2,rfl,hacc,hdef,ba,hbx,F⟩:=hrel;have aG:=hid ba;have bL:=hid hbx;have ad:=hid F;have k:=hid hdef;have bN:=F.size;have u:=lt_of_heap hbx;clear ba F hdef
     by_cases a0:j<Ln m.procs
     . have U:Ln m.decls+j<Ln c:=by have:=x.out;omega
       have ab:Hid (pick ((iE m).take (Ln m.decls+(j+1))) (c.take (Ln m.decls+(j+1)))=P++if m.procs[j].pub then [c[Ln m.decls+j]] else []):=by
        show pick ((iE m).take (Ln m.decls+j+1)) (c.take (Ln m.decls+j+1))=_;rw [Bw _ _ (Ln m.decls+j) (by rw [sK];omega) U,HT m j a0,← k.out]
       have d:=c5 c[Ln m.decls+j] (fO _);have bz:=hid ((ca.later ad).place U);obtain ⟨b,C,an,aL,aD,aU,aR,bd,rfl,Q⟩:=(B.later ad).pr j a0;obtain ⟨ap,af,xp,ae,H,aj,_,_,_,bu⟩:=Q;obtain ⟨V,off2,rfl,hbl2,bx,bQ,i2,i3⟩:=bz.out
       have p:((Ln m.decls:Int)+(j:Int))=((Ln m.decls+j:Nat):Int):=by omega
       have c9:IntKind.i64.wrap ((Ln m.decls:Int)+(j:Int))=((Ln m.decls+j:Nat):Int):=by simp only [IntKind.wrap,IntKind.bits,IntKind.signed];simp;omega
       have n:((Ln m.decls+j:Nat):Int)<Ln c:=by omega
       have D:(0:Int)<=((Ln m.decls+j:Nat):Int):=by omega
       obtain ⟨ag,ak,au,aI,bq,N⟩:=fi bL;clear bz p;generalize m.procs[j]=y at *;generalize c[Ln m.decls+j]=q at *
       cases a8:y.pub with
       | true=>
         have aq:Hid (Row (w.heap.size+1) 98 4 (wr.alloc (me y.name y.pub an (Ln y.params) aL aD (Ln y.locals) aU aR (Ln y.body) bd)) u5 (Ln P) (g2 P)):=aG.alloc _;have X:Hid (fG (wr.alloc (me y.name y.pub an (Ln y.params) aL aD (Ln y.locals) aU aR (Ln y.body) bd)) (fun _=>False) (jI q) [em q.kind,em q.n,em q.at_,.string q.name]):=rE d;have g:Hid ((wr.alloc (me y.name y.pub an (Ln y.params) aL aD (Ln y.locals) aU aR (Ln y.body) bd)).heap[w.heap.size]? = some (jB m.name Y (Ln m.uses) a9 a5 (Ln m.decls) a4 (some (ep b C)) (Ln m.procs) c3 ay (Ln m.main) am)):=fF bL;have M:Hid (et w (wr.alloc (me y.name y.pub an (Ln y.params) aL aD (Ln y.locals) aU aR (Ln y.body) bd))):=es ad (ey _ _);have A:Hid (pick ((iE m).take (Ln m.decls+(j+1))) (c.take (Ln m.decls+(j+1)))=P++[q]):=ab.trans (by rw [a8];rfl)
         rw [a8] at aq X g M;clear d hbx ab;rw [a8] at xp
         go_wp2_with (at_builtin;refine mP rfl (.tmp 38) (.tmp 47) 28 rfl (w.heap.size+1) 98 _ 4 40 Tryz.underlying28 Tryz.infoItem rfl (by decide) (wr.alloc (me y.name true an (Ln y.params) aL aD (Ln y.locals) aU aR (Ln y.body) bd)) u5 (Ln P) (g2 P) (jI q) rfl aq #[em q.kind,em q.n,em q.at_,.string q.name] _ (by simp) rfl rfl (fun _=>False) X (fun b _ h=>h.elim) (by omega) (by decide) (by simp;omega) ?_)
         intro bs aX eJ s bb bK;have a2:=hid s;have f:=hid bb;clear s bb aq X;go_wp2_with fail;go_roundw
         case rel=>exact ⟨j+1,P++[q],by omega,by go_num,by rw [gn];simp;omega,A.symm,by rw [rF,gn];exact a2,(f.block _ (by omega)).trans g,M.trans (f.mono (by omega))⟩
         case measure=>simp [intOf];omega
       | false=>
         have aq:Hid (Row (w.heap.size+1) 98 4 (wr.alloc (me y.name y.pub an (Ln y.params) aL aD (Ln y.locals) aU aR (Ln y.body) bd)) u5 (Ln P) (g2 P)):=aG.alloc _;have g:Hid ((wr.alloc (me y.name y.pub an (Ln y.params) aL aD (Ln y.locals) aU aR (Ln y.body) bd)).heap[w.heap.size]? = some (jB m.name Y (Ln m.uses) a9 a5 (Ln m.decls) a4 (some (ep b C)) (Ln m.procs) c3 ay (Ln m.main) am)):=fF bL;have M:Hid (et w (wr.alloc (me y.name y.pub an (Ln y.params) aL aD (Ln y.locals) aU aR (Ln y.body) bd))):=es ad (ey _ _);have A:Hid (pick ((iE m).take (Ln m.decls+(j+1))) (c.take (Ln m.decls+(j+1)))=P):=ab.trans (by rw [a8];simp);rw [a8] at aq g M;clear d hbx ab;rw [a8] at xp;go_wp2_with fail;go_roundw
         case rel=>exact ⟨j+1,P,by omega,by go_num,by omega,A.symm,aq,g,M⟩
         case measure=>simp [intOf];omega
     . obtain rfl:j=Ln m.procs:=by omega
       have z:Hid (pick (iE m) c=P):=by
        show pick (iE m) c=P;rw [k.out,kw (by rw [sK];omega),kw (by rw [x.out];omega)]
       obtain ⟨av,aX,rfl,hea⟩:=aG.slice;have G:=hid hea;clear hea hbx;go_wp2_with fail;go_ret;refine ⟨⟨av,aX,?_,?_⟩,ad⟩
       . rw [z.out];rfl
       . rw [z.out]
         exact G.moves ⟨eD _,fun b _ h=>⟨by have:w.heap.size+1<=b:=h;show w.heap.size<=b;omega,rfl⟩⟩
end Go.Proofs.YtndkhgakfodldaaGreatDoor

namespace Go.Proofs.YtndkhgakfodldaaGreatDoor
open Go.RowKit Go.Maps Go.WideMaps Go.Shelf
variable {b:Nat} {af E ae H aj:Value}
def xC (K:Nat) (m:fh) (e:Ending) (w:World):Prop:=
 (j1 m≠0/\e = .returned (.tuple #[.agg #[.string ⟨#[]⟩,eu],em (j1 m)]))\/
 (j1 m=0/\∃ a I,e = .returned (.tuple #[.agg #[.string m.name,.slice a (uB m).length I],em 0])/\eU w (K<=·) a (uB m).length (g2 (uB m)))
theorem uC {m:fh} (h:j1 m=0):m.err=0:=by
 unfold j1 at h
 by_cases ah:m.err=0
 . exact ah
 . rw [if_pos ah] at h;exact h
theorem HV {w:World} {t:TypeId} (h:w.heap[b]? = some (.cells #[af,E,ae,H,aj] t (0,0))):w.cell? (ep b 0)=some af/\w.cell? (ep b 1)=some E/\w.cell? (ep b 2)=some ae/\w.cell? (ep b 3)=some H/\w.cell? (ep b 4)=some aj:=by
 obtain ⟨a3,G,J,S,a6,_⟩:=fi h;exact ⟨a3,G,J,S,a6⟩
theorem HW {M:World} {c:Nat} (U:b≠c) (h:M.cell? (ep b 0)=some af/\M.cell? (ep b 1)=some E/\M.cell? (ep b 2)=some ae/\M.cell? (ep b 3)=some H/\M.cell? (ep b 4)=some aj) (u v:Value) :
 ((M.setCell (ep c 0) u).setCell (ep c 1) v).cell? (ep b 0)=some af/\((M.setCell (ep c 0) u).setCell (ep c 1) v).cell? (ep b 1)=some E/\((M.setCell (ep c 0) u).setCell (ep c 1) v).cell? (ep b 2)=some ae/\((M.setCell (ep c 0) u).setCell (ep c 1) v).cell? (ep b 3)=some H/\((M.setCell (ep c 0) u).setCell (ep c 1) v).cell? (ep b 4)=some aj:=by
 have e:((M.setCell (ep c 0) u).setCell (ep c 1) v).heap[b]? = M.heap[b]?:=(fa U _).trans (fa U _)
 have g:∀ o,((M.setCell (ep c 0) u).setCell (ep c 1) v).cell? (ep b o)=M.cell? (ep b o):=fun o=>md (w:=M) (a:=(ep b o)) e
 exact ⟨(g 0).trans h.1,(g 1).trans h.2.1,(g 2).trans h.2.2.1,(g 3).trans h.2.2.2.1,(g 4).trans h.2.2.2.2⟩
theorem HX (m:fh) (v:Value) (Y:OA) (a9:Nat) (a5:OA) (a4:Nat) (a7:OA) (c3:Nat) (ay:OA) (am:Nat) (w:World) (aS:hm w eV m v Y a9 a5 a4 a7 c3 ay am) :
 ew 15 #[v] w fun e r=>xC w.heap.size m e r/\et w r:=by
 obtain rfl:=aS.val;have aq:=hid aS;have ao:=hid (Bv m _ Y a9 a5 a4 a7 c3 ay am ((w.alloc (jB m.name Y (Ln m.uses) a9 a5 (Ln m.decls) a4 a7 (Ln m.procs) c3 ay (Ln m.main) am)).alloc (.cells #[.string ⟨#[]⟩,eu] 30)) (aS.later (gc _ _ _)));clear aS;go_enter func15,ntmps15;go_wp2_with fail;refine ao.mono ?_;rintro e eq ⟨rfl,ai⟩;have B:=hid (es (gc w _ _) ai);have b0:=ai.size;simp at b0;have an:=(ai.block w.heap.size (by simp;omega)).trans (fF (eT w _));have aD:eq.heap[w.heap.size+1]? = some (.cells #[.string ⟨#[]⟩,eu] 30):=(ai.block (w.heap.size+1) (by simp)).trans (by simpa using eT (w.alloc _) _);have c:=hid an;have a:=hid aD;obtain ⟨af,E,ae,H,aj,bc⟩:=fi an;obtain ⟨aF,T,yf⟩:=mE aD;have aI:=lt_of_heap an;have Q:=lt_of_heap aD;clear ai an aD ao
 by_cases a1:j1 m=0
 . have d:=xy (uC a1)
   have bR:=hid d;have bB:=hid (xB m _ Y a9 a5 a4 a7 c3 ay am eq (aq.later B) d);have ah:=hid a1;clear d;rw [a1];clear a1;go_wp2_with fail;refine bB.mono ?_;rintro e w2 ⟨⟨b9,aA,rfl,hit⟩,aB⟩;have aM:=hid (es B aB);have bl:=aB.size;have g:=hid ((aB.block _ aI).trans c);have O:=hid ((aB.block _ Q).trans a);obtain ⟨az,p⟩:=xA hit;have bI:=hid (fun M (L:et w2 M)=>HU m _ Y a9 a5 a4 a7 c3 ay am (iV m) b9 aA M (aq.later (es aM L)) bR (xw m) (az.later L) p);clear aB bB hit az p af E ae H aj bc aF T yf;obtain ⟨af,E,ae,H,aj,bc⟩:=fi g;obtain ⟨aF,T,yf⟩:=mE O;have j:=lt_of_heap g;have f:=lt_of_heap O;have aJ:=hid (fun M (L:et w2 M)=>HV ((L.block _ j).trans g))
   have bv:=hid (aJ _ (Below.refl _ w2).drew);have i:=hid (fun M (L:et w2 M)=>mE ((L.block _ f).trans O));go_wp2_with fail;clear af E ae H aj bc aF T yf
   go_region_held (fun M=>M.cell? (ep w.heap.size 0)=some (.string m.name)/\M.cell? (ep w.heap.size 1)=some (.slice Y (Ln m.uses) a9)/\M.cell? (ep w.heap.size 2)=some (.slice a5 (Ln m.decls) a4)/\M.cell? (ep w.heap.size 3)=some (.slice a7 (Ln m.procs) c3)/\M.cell? (ep w.heap.size 4)=some (.slice ay (Ln m.main) am)) (first | exact bv | exact HW (by omega) bv _ _)
    (first | (go_at_call 50;refine (bI _ (Below.refl _ w2).drew).mono ?_;rintro e eC ⟨⟨av,aX,rfl,he5⟩,a2⟩;have aP:=hid (es (Below.refl _ w2).drew a2);have u:=hid he5;clear he5 a2;have bv:=hid (aJ _ aP);obtain ⟨aF,T,yf⟩:=i _ aP;have bx:w.heap.size+1<eC.heap.size:=gl f aP.size))
   all_goals
    go_wp2_with fail;refine bodyPost_ret (v:=.tuple #[.agg #[.string m.name,.slice av (pick (iE m) (iV m)).length aX],em 0]) (by simp [results,results15,go_sem,aF,T,bx]) rfl ⟨Or.inr ⟨ah,av,aX,rfl,?_⟩,?_⟩
    . exact (u.moves (((eQ.refl eC _).set (p:=⟨w.heap.size+1,0,none⟩) (by intro b _ F;have:w2.heap.size<=b:=F;show b≠w.heap.size+1;omega) _).set (p:=⟨w.heap.size+1,1,none⟩) (by intro b _ F;have:w2.heap.size<=b:=F;show b≠w.heap.size+1;omega) _)).moves ⟨eD _,fun b _ h=>⟨by have:w2.heap.size<=b:=h;show w.heap.size<=b;omega,rfl⟩⟩
    . exact ((es aM aP).setCell (p:=⟨w.heap.size+1,0,none⟩) (by show w.heap.size<=w.heap.size+1;omega) _).setCell (p:=⟨w.heap.size+1,1,none⟩) (by show w.heap.size<=w.heap.size+1;omega) _
 . have p:Hid (xC w.heap.size m (.returned (.tuple #[.agg #[.string ⟨#[]⟩,eu],em (j1 m)])) ((eq.setCell ⟨w.heap.size+1,0,none⟩ (.string ⟨#[]⟩)).setCell ⟨w.heap.size+1,1,none⟩ (eu))):=Or.inl ⟨a1,rfl⟩
   go_wp2_with fail;refine bodyPost_ret (v:=.tuple #[.agg #[.string ⟨#[]⟩,eu],em (j1 m)]) (by simp [results,results15,go_sem,aF,T,Q]) rfl ⟨p,?_⟩;exact (B.setCell (p:=⟨w.heap.size+1,0,none⟩) (by show w.heap.size<=w.heap.size+1;omega) _).setCell (p:=⟨w.heap.size+1,1,none⟩) (by show w.heap.size<=w.heap.size+1;omega) _
end Go.Proofs.YtndkhgakfodldaaGreatDoor

namespace Go.Proofs.YtndkhgakfodldaaGreatDoor
open Go.RowKit
variable {A:Nat->Prop} {a:OA} {w:World}
theorem Bx:∀ (K:List eH) (i:Nat) (h:i<Ln K) (j:Nat),j<5->(fY K)[i*5+j]? = (K[i].ds)[j]?
 | [],i,h,_,_=>by simp at h
 | q :: O,0,_,j,ac=>by
   have:=q.ds_len;simp only [fY,oo];rw [mR (by omega),jq,hv]
 | q :: O,i+1,h,j,ac=>by
   have:=q.ds_len;simp only [fY,pl];rw [om (by omega),show (i+1)*5+j - Ln q.ds=i*5+j from by omega];exact Bx O i (by simpa using h) j ac
theorem Bz:∀ (K:List eB) (i:Nat) (h:i<Ln K) (j:Nat),j<7->(f9 K)[i*7+j]? = (K[i].ds)[j]?
 | [],i,h,_,_=>by simp at h
 | q :: O,0,_,j,ac=>by
   have:=q.ds_len;simp only [f9,oo];rw [mR (by omega),jq,hv]
 | q :: O,i+1,h,j,ac=>by
   have:=q.ds_len;simp only [f9,pl];rw [om (by omega),show (i+1)*7+j - Ln q.ds=i*7+j from by omega];exact Bz O i (by simpa using h) j ac
def ga.ds (u:ga):List D:=[.str u.name,.list (Ln u.uses) (fj u.uses),.int u.data,.list (Ln u.parts) (iI u.parts),.list (Ln u.main) (f9 u.main)]
def oL (l:List ga):List D:=l.flatMap ga.ds
structure HY (w:World) (A:Nat->Prop) (b o:Nat) (x:eH) (a1:OA) (k1:Nat):Prop where
 lt:b<w.heap.size
 c0:w.cell? (ep b o)=some (em x.op)
 c1:w.cell? ⟨b,o+1,none⟩=some (em x.n)
 c2:w.cell? ⟨b,o+2,none⟩=some (em x.m)
 c3:w.cell? ⟨b,o+3,none⟩=some (em x.at_)
 c4:w.cell? ⟨b,o+4,none⟩=some (.slice a1 (Ln x.args) k1)
 args':eE w A a1 (Ln x.args) (fY x.args)
 w0:(Lit.int .i64 x.op).wf=true
 eq:(Lit.int .i64 x.n).wf=true
 w2:(Lit.int .i64 x.m).wf=true
 eC:(Lit.int .i64 x.at_).wf=true
theorem eE.nd {l:List eH} (h:eE w A a (Ln l) (fY l)) (i:Nat) (X:i<Ln l):∃ b C Y ak,a=some (ep b C)/\HY w A b (C+i*5) l[i] Y ak:=by
 obtain ⟨b,C,ab,F,a1⟩:=h.cell (by omega);generalize Q:l[i]=q;obtain ⟨p,n,m,g,d⟩:=q
 have g:∀ j o,j<5->(eH.mk p n m g d).ds[j]? = some o->∃ v,w.cell? ⟨b,C+i*5+j,none⟩=some v/\fT w A o v:=fun j o ac ez=>by
  rw [kd];exact a1 (i*5+j) o ((Bx l i X j ac).trans (by rw [Q];exact ez))
 obtain ⟨Z,av,b5⟩:=g 0 (.int p) (by omega) (by simp [eH.ds]);obtain ⟨aK,an,aL⟩:=g 1 (.int n) (by omega) (by simp [eH.ds]);obtain ⟨aN,aD,aU⟩:=g 2 (.int m) (by omega) (by simp [eH.ds]);obtain ⟨aY,aR,bd⟩:=g 3 (.int g) (by omega) (by simp [eH.ds]);obtain ⟨be,b3,z⟩:=g 4 (.list (Ln d) (fY d)) (by omega) (by simp [eH.ds]);obtain ⟨rfl,w0⟩:=hw b5;obtain ⟨rfl,eq⟩:=hw aL;obtain ⟨rfl,w2⟩:=hw aU;obtain ⟨rfl,eC⟩:=hw bd;obtain ⟨Y,ak,rfl,G⟩:=hY z;exact ⟨b,C,Y,ak,ab,F,av,an,aD,aR,b3,G,w0,eq,w2,eC⟩
structure HZ (w:World) (A:Nat->Prop) (b o:Nat) (x:eB) (a1:OA) (k1:Nat) (a2:OA) (k2:Nat) (a3:OA) (k3:Nat):Prop where
 lt:b<w.heap.size
 c0:w.cell? (ep b o)=some (em x.op)
 c1:w.cell? ⟨b,o+1,none⟩=some (em x.n)
 c2:w.cell? ⟨b,o+2,none⟩=some (em x.m)
 c3:w.cell? ⟨b,o+3,none⟩=some (em x.at_)
 c4:w.cell? ⟨b,o+4,none⟩=some (.slice a1 (Ln x.args) k1)
 c5:w.cell? ⟨b,o+5,none⟩=some (.slice a2 (Ln x.body) k2)
 c6:w.cell? ⟨b,o+6,none⟩=some (.slice a3 (Ln x.other) k3)
 args':eE w A a1 (Ln x.args) (fY x.args)
 body':eE w A a2 (Ln x.body) (f9 x.body)
 other':eE w A a3 (Ln x.other) (f9 x.other)
 w0:(Lit.int .i64 x.op).wf=true
 eq:(Lit.int .i64 x.n).wf=true
 w2:(Lit.int .i64 x.m).wf=true
 eC:(Lit.int .i64 x.at_).wf=true
theorem eE.ac {l:List eB} (h:eE w A a (Ln l) (f9 l)) (i:Nat) (X:i<Ln l):∃ b C Y ak a5 au a7 aI,a=some (ep b C)/\HZ w A b (C+i*7) l[i] Y ak a5 au a7 aI:=by
 obtain ⟨b,C,ab,F,a1⟩:=h.cell (by omega);generalize Q:l[i]=q;obtain ⟨p,n,m,g,d,U,N⟩:=q
 have g:∀ j o,j<7->(eB.mk p n m g d U N).ds[j]? = some o->∃ v,w.cell? ⟨b,C+i*7+j,none⟩=some v/\fT w A o v:=fun j o ac ez=>by
  rw [kd];exact a1 (i*7+j) o ((Bz l i X j ac).trans (by rw [Q];exact ez))
 obtain ⟨Z,av,b5⟩:=g 0 (.int p) (by omega) (by simp [eB.ds]);obtain ⟨aK,an,aL⟩:=g 1 (.int n) (by omega) (by simp [eB.ds]);obtain ⟨aN,aD,aU⟩:=g 2 (.int m) (by omega) (by simp [eB.ds]);obtain ⟨aY,aR,bd⟩:=g 3 (.int g) (by omega) (by simp [eB.ds]);obtain ⟨be,b3,z⟩:=g 4 (.list (Ln d) (fY d)) (by omega) (by simp [eB.ds]);obtain ⟨P,q5,c0⟩:=g 5 (.list (Ln U) (f9 U)) (by omega) (by simp [eB.ds]);obtain ⟨t,q6,W⟩:=g 6 (.list (Ln N) (f9 N)) (by omega) (by simp [eB.ds]);obtain ⟨rfl,w0⟩:=hw b5;obtain ⟨rfl,eq⟩:=hw aL;obtain ⟨rfl,w2⟩:=hw aU;obtain ⟨rfl,eC⟩:=hw bd;obtain ⟨Y,ak,rfl,G⟩:=hY z;obtain ⟨a5,au,rfl,J⟩:=hY c0;obtain ⟨a7,aI,rfl,S⟩:=hY W;exact ⟨b,C,Y,ak,a5,au,a7,aI,ab,F,av,an,aD,aR,b3,q5,q6,G,J,S,w0,eq,w2,eC⟩
structure H0 (w:World) (A:Nat->Prop) (b o:Nat) (x:gO) (a1:OA) (k1:Nat):Prop where
 lt:b<w.heap.size
 c0:w.cell? (ep b o)=some (em x.params)
 c1:w.cell? ⟨b,o+1,none⟩=some (em x.locals)
 c2:w.cell? ⟨b,o+2,none⟩=some (.slice a1 (Ln x.body) k1)
 body':eE w A a1 (Ln x.body) (f9 x.body)
 w0:(Lit.int .i64 x.params).wf=true
 eq:(Lit.int .i64 x.locals).wf=true
theorem eE.pt {l:List gO} (h:eE w A a (Ln l) (iI l)) (i:Nat) (X:i<Ln l):∃ b C Y ak,a=some (ep b C)/\H0 w A b (C+i*3) l[i] Y ak:=by
 obtain ⟨b,C,ab,F,a1⟩:=h.cell (by omega);generalize Q:l[i]=q;obtain ⟨c,d,U⟩:=q
 have g:∀ j o,j<3->(gO.mk c d U).ds[j]? = some o->∃ v,w.cell? ⟨b,C+i*3+j,none⟩=some v/\fT w A o v:=fun j o ac ez=>by
  rw [kd];exact a1 (i*3+j) o ((mw gO.ds 3 (fun _=>rfl) l i X j ac).trans (by rw [Q];exact ez))
 obtain ⟨Z,av,b5⟩:=g 0 (.int c) (by omega) (by simp [gO.ds]);obtain ⟨aK,an,aL⟩:=g 1 (.int d) (by omega) (by simp [gO.ds]);obtain ⟨aN,aD,aU⟩:=g 2 (.list (Ln U) (f9 U)) (by omega) (by simp [gO.ds]);obtain ⟨rfl,w0⟩:=hw b5;obtain ⟨rfl,eq⟩:=hw aL;obtain ⟨Y,ak,rfl,G⟩:=hY aU;exact ⟨b,C,Y,ak,ab,F,av,an,aD,G,w0,eq⟩
structure xD (w:World) (A:Nat->Prop) (b o:Nat) (x:ga) (a1:OA) (k1:Nat) (a2:OA) (k2:Nat) (a3:OA) (k3:Nat):Prop where
 lt:b<w.heap.size
 c0:w.cell? (ep b o)=some (.string x.name)
 c1:w.cell? ⟨b,o+1,none⟩=some (.slice a1 (Ln x.uses) k1)
 c2:w.cell? ⟨b,o+2,none⟩=some (em x.data)
 c3:w.cell? ⟨b,o+3,none⟩=some (.slice a2 (Ln x.parts) k2)
 c4:w.cell? ⟨b,o+4,none⟩=some (.slice a3 (Ln x.main) k3)
 uses':eE w A a1 (Ln x.uses) (fj x.uses)
 parts':eE w A a2 (Ln x.parts) (iI x.parts)
 main':eE w A a3 (Ln x.main) (f9 x.main)
 w0:x.name.size<=maxLen
 w2:(Lit.int .i64 x.data).wf=true
theorem eE.un {l:List ga} (h:eE w A a (Ln l) (oL l)) (i:Nat) (X:i<Ln l):∃ b C Y ak a5 au a7 aI,a=some (ep b C)/\xD w A b (C+i*5) l[i] Y ak a5 au a7 aI:=by
 obtain ⟨b,C,ab,F,a1⟩:=h.cell (by omega);generalize Q:l[i]=q;obtain ⟨u,c,data,parts,main⟩:=q
 have g:∀ j o,j<5->(ga.mk u c data parts main).ds[j]? = some o->∃ v,w.cell? ⟨b,C+i*5+j,none⟩=some v/\fT w A o v:=fun j o ac ez=>by
  rw [kd];exact a1 (i*5+j) o ((mw ga.ds 5 (fun _=>rfl) l i X j ac).trans (by rw [Q];exact ez))
 obtain ⟨Z,av,b5⟩:=g 0 (.str u) (by omega) (by simp [ga.ds,iI]);obtain ⟨aK,an,aL⟩:=g 1 (.list (Ln c) (fj c)) (by omega) (by simp [ga.ds,iI]);obtain ⟨aN,aD,aU⟩:=g 2 (.int data) (by omega) (by simp [ga.ds,iI]);obtain ⟨aY,aR,bd⟩:=g 3 (.list (Ln parts) (iI parts)) (by omega) (by simp [ga.ds,iI]);obtain ⟨be,b3,z⟩:=g 4 (.list (Ln main) (f9 main)) (by omega) (by simp [ga.ds,iI]);obtain ⟨rfl,w0⟩:=lj b5;obtain ⟨Y,ak,rfl,G⟩:=hY aL;obtain ⟨rfl,w2⟩:=hw aU;obtain ⟨a5,au,rfl,J⟩:=hY bd;obtain ⟨a7,aI,rfl,S⟩:=hY z;exact ⟨b,C,Y,ak,a5,au,a7,aI,ab,F,av,an,aD,aR,b3,G,J,S,w0,w2⟩
structure Ck where
 data:Int
 uses:Nat
 parts:List gO
 num:Int->Int->Int->Bool
 prt:Int->Int->Int->Bool
 locals:Int
def lp (c:Ck) (m:Int):Bool:=decide (1<=m/\m<=c.uses)
def nQ (size g n:Int):Bool:=decide (0<=g/\g+n<=size)
def numB (c:Ck) (m g n:Int):Bool:=if m=0 then nQ c.data g n else lp c m&&c.num m g n
def lq (l:List gO) (g k:Int):Bool:=decide (0<=g)&&(match l[g.toNat]? with | some y=>decide (y.params=k) | none=>false)
def ip (c:Ck) (m g k:Int):Bool:=if m=0 then lq c.parts g k else lp c m&&c.prt m g k
def m2 (c:Ck) (n m g:Int):Bool:=decide (1<=n/\n<=32)&&numB c m g n
def mF (c:Ck) (g:Int):Bool:=decide (0<=g/\g<c.locals)
def lr (p:Int):Int:=if p=2 then 0 else if p=6 then 1 else if 7<=p/\p<=15 then 2 else -1
def fI (c:Ck) (x:eH):Bool:=
 if x.op=3 then decide (Ln x.args=0)&&(decide (x.n=0)&&numB c x.m x.at_ 1)
 else if x.op=4 then decide (Ln x.args=1)&&m2 c x.n x.m x.at_
 else if x.op=5 then decide (x.n=0)&&ip c x.m x.at_ (Ln x.args)
 else if x.op=16 then decide (Ln x.args=0)&&(decide (x.n=0)&&(decide (x.m=0)&&mF c x.at_))
 else if x.op=1 then decide (Ln x.args=0)&&(decide (0<=x.n/\x.n<=1099511627775)&&(decide (x.m=0)&&decide (x.at_=0)))
 else decide ((Ln x.args:Int)=lr x.op)&&(decide (x.n=0)&&(decide (x.m=0)&&decide (x.at_=0)))
def gW (c:Ck):Nat->List eH->Bool
 | 0,K=>decide (Ln K=0)
 | k+1,K=>K.all fun q=>fI c q&&gW c k q.args
def fJ (c:Ck) (a:eB):Bool:=
 if a.op=1 then decide (Ln a.args=1)&&(decide (a.n=0)&&(if a.m = -1 then mF c a.at_ else numB c a.m a.at_ 1))
 else if a.op=2 then decide (Ln a.args=2)&&m2 c a.n a.m a.at_
 else if a.op=3 then decide (a.n=0)&&ip c a.m a.at_ (Ln a.args)
 else if 4<=a.op/\a.op<=7 then decide (Ln a.args=1)&&(decide (a.n=0)&&(decide (a.m=0)&&decide (a.at_=0)))
 else false
def gw (c:Ck):Nat->List eB->Bool
 | 0,_=>false
 | k + 1,K=>decide (Ln K<=10)&&K.all fun a=>fJ c a&&(gW c 6 a.args &&
     (if a.op=4 then gw c k a.body&&gw c k a.other else if a.op=5 then gw c k a.body&&decide (Ln a.other=0) else decide (Ln a.body=0)&&decide (Ln a.other=0)))
def jJ (p:gO):Bool:=decide (0<=p.params/\p.params<=3)&&decide (0<=p.locals/\p.locals<=4)
def ie (u:ga):Bool:=decide (j1 ⟨u.name,u.uses,[],[],[]⟩=0)&&(u.parts.all jJ&&(decide (0<=u.data/\u.data<=512)&&decide (Ln u.parts<=6)))
def hT (u:ga) (c a:Int->Int->Int->Bool) (d:Int):Ck:=⟨u.data,Ln u.uses,u.parts,c,a,d⟩
def ji (u:ga) (c a:Int->Int->Int->Bool):Bool:=
 ie u&&(u.parts.all (fun y=>gw (hT u c a (y.params+y.locals)) 6 y.body)&&gw (hT u c a 0) 6 u.main)
end Go.Proofs.YtndkhgakfodldaaGreatDoor

namespace Go.Proofs.YtndkhgakfodldaaGreatDoor
open Go.RowKit Go.Maps Go.WideMaps
variable {K:Kn} {b n T X y3:Nat} {w r:World} {E ae H:OA}
theorem H1 {n:Int} (h:(Lit.int .i64 n).wf=true) : -9223372036854775808<=n/\n<=9223372036854775807:=by
 simp only [Lit.wf,fs,decide_eq_true_eq] at h;exact h
theorem xE (size g n:Int) (w:World) (G:0<=size) (J:size<=512) (S:1<=n) (a6:n<=32) (aq:(Lit.int .i64 g).wf=true) :
 ew 267 #[em size,em g,em n] w fun e r=>e = .returned (.bool (nQ size g n))/\r=w:=by
 obtain ⟨ax,bf⟩:=H1 aq;clear aq
 by_cases ab:0<=g
 . by_cases F:g<=size - n
   . have z:Hid (nQ size g n=true):=decide_eq_true ⟨ab,by omega⟩
     go_enter func267,ntmps267;go_wp2_with fail;go_ret;exact ⟨ret_bool z.symm,rfl⟩
   . have z:Hid (nQ size g n=false):=decide_eq_false (by omega)
     have aJ:size - n<g:=by omega
     clear F;go_enter func267,ntmps267;go_wp2_with fail;go_ret;exact ⟨ret_bool (by first | exact z.symm | (rw [z.out];first | (simp;omega) | (simp [*];done))),rfl⟩
 . have z:Hid (nQ size g n=false):=decide_eq_false (by omega)
   have v:g<0:=by omega
   clear ab;go_enter func267,ntmps267;go_wp2_with fail;go_ret;exact ⟨ret_bool z.symm,rfl⟩
theorem H2 (p:Int) (w:World) :
 ew 269 #[em p] w fun e r=>e = .returned (em (lr p))/\r=w:=by
 by_cases J:p=2
 . subst J
   go_enter func269,ntmps269;go_wp2_with fail;go_ret;exact ⟨rfl,rfl⟩
 by_cases aw:p=6
 . subst aw
   go_enter func269,ntmps269;go_wp2_with fail;go_ret;exact ⟨rfl,rfl⟩
 by_cases ah:7<=p
 . by_cases c:p<=15
   . have z:Hid (lr p=2):=by show _=_;unfold lr;rw [if_neg J,if_neg aw,if_pos ⟨ah,c⟩]
     go_enter func269,ntmps269;go_wp2_with fail;go_ret;exact ⟨ret_int z.symm,rfl⟩
   . have z:Hid (lr p = -1):=by show _=_;unfold lr;rw [if_neg J,if_neg aw,if_neg (by omega)]
     have a:15<p:=by omega
     clear c;go_enter func269,ntmps269;go_wp2_with fail;go_ret;exact ⟨ret_int z.symm,rfl⟩
 . have z:Hid (lr p = -1):=by show _=_;unfold lr;rw [if_neg J,if_neg aw,if_neg (by omega)]
   have b:p<7:=by omega
   clear ah;go_enter func269,ntmps269;go_wp2_with fail;go_ret;exact ⟨ret_int z.symm,rfl⟩
theorem BA (c:Ck) (s:ByteArray) (E:OA) (T:Nat) (ae:OA) (X:Nat) (H:OA) (f y3:Nat) (y:Value) (m:Int) (w:World) :
 ew 209 #[.agg #[.string s,.slice E c.uses T,em c.data,.slice ae (Ln c.parts) X,.slice H f y3,y,em c.locals],em m] w fun e r=>e = .returned (.bool (mF c m))/\et w r:=by
 by_cases ab:0<=m
 . by_cases F:m<c.locals
   . have z:Hid (mF c m=true):=decide_eq_true ⟨ab,F⟩
     go_enter func209,ntmps209;go_wp2_with fail;go_ret;exact ⟨ret_bool z.symm,ey _ _⟩
   . have z:Hid (mF c m=false):=decide_eq_false (by omega)
     have aJ:c.locals<=m:=by omega
     clear F;go_enter func209,ntmps209;go_wp2_with fail;go_ret;exact ⟨ret_bool (by first | exact z.symm | (rw [z.out];first | (simp;omega) | (simp [*];done))),ey _ _⟩
 . have z:Hid (mF c m=false):=decide_eq_false (by omega)
   have v:m<0:=by omega
   clear ab;go_enter func209,ntmps209;go_wp2_with fail;go_ret;exact ⟨ret_bool z.symm,ey _ _⟩
theorem xF (c:Ck) (s:ByteArray) (E:OA) (T:Nat) (ae:OA) (X:Nat) (H:OA) (f y3:Nat) (y:Value) (m:Int) (w:World) :
 ew 268 #[.agg #[.string s,.slice E c.uses T,em c.data,.slice ae (Ln c.parts) X,.slice H f y3,y,em c.locals],em m] w fun e r=>e = .returned (.bool (lp c m))/\et w r:=by
 by_cases ab:1<=m
 . by_cases F:m<=c.uses
   . have z:Hid (lp c m=true):=decide_eq_true ⟨ab,F⟩
     go_enter func268,ntmps268;go_wp2_with fail;go_ret;exact ⟨ret_bool z.symm,ey _ _⟩
   . have z:Hid (lp c m=false):=decide_eq_false (by omega)
     have aJ:(c.uses:Int)<m:=by omega
     clear F;go_enter func268,ntmps268;go_wp2_with fail;go_ret;exact ⟨ret_bool (by first | exact z.symm | (rw [z.out];first | (simp;omega) | (simp [*];done))),ey _ _⟩
 . have z:Hid (lp c m=false):=decide_eq_false (by omega)
   have v:m<1:=by omega
   clear ab;go_enter func268,ntmps268;go_wp2_with fail;go_ret;exact ⟨ret_bool z.symm,ey _ _⟩
structure pE (w:World) (c:Ck) (nf pf:FuncId) (v:Value):Prop where
 num:∀ W,et w W->∀ m at_ n:Int,lp c m=true->(Lit.int .i64 at_).wf=true->1<=n->n<=32->ew nf #[v,em m,em at_,em n] W fun e W'=>e = .returned (.bool (c.num m at_ n))/\et W W'
 prt:∀ W,et w W->∀ (m at_:Int) (k:Nat),lp c m=true->(Lit.int .i64 at_).wf=true->k<=17592186044416->ew pf #[v,em m,em at_,em k] W fun e W'=>e = .returned (.bool (c.prt m at_ k))/\et W W'
structure m8 (w:World) (c:Ck) (cv:Value):Prop where
 num:∀ W,et w W->∀ m at_ n:Int,(Lit.int .i64 m).wf=true->(Lit.int .i64 at_).wf=true->1<=n->n<=32->ew 210 #[cv,em m,em at_,em n] W fun e W'=>e = .returned (.bool (numB c m at_ n))/\et W W'
 prt:∀ W,et w W->∀ (m at_:Int) (k:Nat),(Lit.int .i64 m).wf=true->(Lit.int .i64 at_).wf=true->k<=17592186044416->ew 212 #[cv,em m,em at_,em k] W fun e W'=>e = .returned (.bool (ip c m at_ k))/\et W W'
theorem m8.later {c:Ck} {q:Value} (h:m8 w c q) (F:et w r):m8 r c q:=⟨fun M L=>h.num M (es F L),fun M L=>h.prt M (es F L)⟩
theorem pE.later {c:Ck} {d6 j:FuncId} {v:Value} (h:pE w c d6 j v) (F:et w r):pE r c d6 j v:=⟨fun M L=>h.num M (es F L),fun M L=>h.prt M (es F L)⟩
theorem f6 {af E ae H aj al O:Value} {t:TypeId} (h:w.heap[b]? = some (.cells #[af,E,ae,H,aj,al,O] t (0,0))) :
 w.cell? (ep b 0)=some af/\w.cell? (ep b 1)=some E/\w.cell? (ep b 2)=some ae/\w.cell? (ep b 3)=some H/\w.cell? (ep b 4)=some aj/\w.cell? (ep b 5)=some al/\w.cell? (ep b 6)=some O/\b<w.heap.size:=by
 refine ⟨?_,?_,?_,?_,?_,?_,?_,lt_of_heap h⟩<;>(rw [fU h];rfl)
theorem BB (w:World) (o p:Obj):((w.alloc o).alloc p).heap[w.heap.size+1]? = some p:=by simpa using eT (w.alloc o) p
theorem H3 (a:OA) (h q:Nat) (w:World):(nilAhead 337 199 (.slice a h q) "HasPart").run prog w = .ok (some false) w:=by kernel_rfl
theorem H4 (a:OA) (h q:Nat) (w:World):(method 337 199 (.slice a h q) "HasPart").run prog w = .ok (330,.slice a h q) w:=by kernel_rfl
theorem K7 (c:Ck) (s:ByteArray) (E:OA) (T:Nat) (ae:OA) (X:Nat) (H:OA) (f y3:Nat) (a:OA) (h q:Nat) (m g:Int) (k:Nat) (w:World) (bp:eE w eV ae (Ln c.parts) (iI c.parts)) (aI:c.uses<=17592186044416) (d:pE w c 329 330 (.slice a h q)) (a8:(Lit.int .i64 m).wf=true) (ab:(Lit.int .i64 g).wf=true) (N:k<=17592186044416) :
 ew 212 #[.agg #[.string s,.slice E c.uses T,em c.data,.slice ae (Ln c.parts) X,.slice H f y3,.iface 199 (.slice a h q),em c.locals],em m,em g,em k] w fun e r=>e = .returned (.bool (ip c m g k))/\et w r:=by
 have bl:=hid d;have ar:=hid ab;have A:=hid bp;have bG:=bp.bound;clear d ab a8 bp;have L:=H3 a h q;have K:=H4 a h q
 by_cases a3:m=0
 . subst a3
   have z:Hid (ip c 0 g k=lq c.parts g k):=if_pos rfl
   by_cases l:0<=g
   . obtain ⟨i,rfl⟩:∃ i:Nat,g=i:=⟨g.toNat,by omega⟩
     by_cases O:i<Ln c.parts
     . obtain ⟨b,C,b7,bj,rfl,Q⟩:=(A.later (ey w (.cells #[.string s,.slice E c.uses T,em c.data,.slice ae (Ln c.parts) X,.slice H f y3,.iface 199 (.slice a h q),em c.locals] 206))).pt i O
       have b2:Hid (lq c.parts i k=decide (c.parts[i].params=k)):=by show _=_;unfold lq;rw [decide_eq_true l,mT,gb O];rfl
       obtain ⟨ap,a6,_,_,_,_,_⟩:=Q
       have R:(i:Int)<Ln c.parts:=by omega
       have a7:b<w.heap.size+1:=by simpa using ap
       generalize c.parts[i].params=j at *
       by_cases ak:j=k
       . have v:Hid (ip c 0 i k=true):=by show _=_;rw [z.out,b2.out,decide_eq_true ak]
         subst ak;go_enter func212,ntmps212;go_wp2_with fail;go_ret;exact ⟨ret_bool v.symm,ey _ _⟩
       . have v:Hid (ip c 0 i k=false):=by show _=_;rw [z.out,b2.out,decide_eq_false ak]
         go_enter func212,ntmps212;go_wp2_with fail;go_ret;exact ⟨ret_bool (by first | exact v.symm | (rw [v.out];first | (simp;omega) | (simp [*];done))),ey _ _⟩
     . have v:Hid (ip c 0 i k=false):=by show _=_;rw [z.out];unfold lq;rw [mT,pm (by omega)];simp
       have R:Ln c.parts<=i:=by omega
       clear O;go_enter func212,ntmps212;go_wp2_with fail;go_ret;exact ⟨ret_bool v.symm,ey _ _⟩
   . have v:Hid (ip c 0 g k=false):=by show _=_;rw [z.out];unfold lq;rw [decide_eq_false l];rfl
     have I:g<0:=by omega
     clear l;go_enter func212,ntmps212;go_wp2_with fail;go_ret;exact ⟨ret_bool v.symm,ey _ _⟩
 . have z:Hid (ip c m g k=(lp c m&&c.prt m g k)):=if_neg a3
   have az:=hid (xF c s E T ae X H f y3 (.iface 199 (.slice a h q)) m (w.alloc (.cells #[.string s,.slice E c.uses T,em c.data,.slice ae (Ln c.parts) X,.slice H f y3,.iface 199 (.slice a h q),em c.locals] 206)))
   cases F:lp c m with
   | false=>
     rw [F] at az z;go_enter func212,ntmps212;go_wp2_with fail;refine az.mono ?_;rintro e eq ⟨rfl,ai⟩;have B:=hid (es (ey w _) ai);clear ai;go_wp2_with fail;go_ret;exact ⟨ret_bool z.symm,B⟩
   | true=>
     rw [F] at az z;have ad:=hid F;clear F;go_enter func212,ntmps212;go_wp2_with fail;refine az.mono ?_;rintro e eq ⟨rfl,ai⟩;have B:=hid (es (ey w _) ai);have an:=(ai.block _ (by simp)).trans (eT w (.cells #[.string s,.slice E c.uses T,em c.data,.slice ae (Ln c.parts) X,.slice H f y3,.iface 199 (.slice a h q),em c.locals] 206));obtain ⟨bh,a9,a4,c3,am,aX,aR,cz⟩:=f6 an;clear ai an bh a9 a4 c3 am aR az
     go_wp2_with (go_at_call 330;refine (bl.prt _ B m g k ad ar N).mono ?_;rintro e w2 ⟨rfl,aB⟩;have aM:=hid (es B aB);clear aB)
     go_ret;exact ⟨ret_bool (by rw [z.out];rfl),aM⟩
theorem H5 (w:World):(nilAhead 337 133 (.agg #[]) "HasNumbers").run prog w = .ok (some false) w:=by kernel_rfl
theorem H6 (w:World):(nilAhead 337 133 (.agg #[]) "HasPart").run prog w = .ok (some false) w:=by kernel_rfl
theorem H7 (w:World):(method 337 133 (.agg #[]) "HasNumbers").run prog w = .ok (327,.agg #[]) w:=by kernel_rfl
theorem H8 (w:World):(method 337 133 (.agg #[]) "HasPart").run prog w = .ok (328,.agg #[]) w:=by kernel_rfl
theorem H9 (c:Ck) (s:ByteArray) (E:OA) (T:Nat) (ae:OA) (X:Nat) (H:OA) (f y3:Nat) (m g n:Int) (w:World) (A:0<=c.data) (au:c.data<=512) (aI:c.uses<=17592186044416) (d:pE w c 327 328 (.agg #[])) (a8:(Lit.int .i64 m).wf=true) (ab:(Lit.int .i64 g).wf=true) (G:1<=n) (J:n<=32) :
 ew 210 #[.agg #[.string s,.slice E c.uses T,em c.data,.slice ae (Ln c.parts) X,.slice H f y3,.iface 133 (.agg #[]),em c.locals],em m,em g,em n] w fun e r=>e = .returned (.bool (numB c m g n))/\et w r:=by
 have bl:=hid d;have ar:=hid ab;clear d ab a8;have L:=H5;have K:=H7
 by_cases a3:m=0
 . subst a3
   have z:Hid (numB c 0 g n=nQ c.data g n):=if_pos rfl;go_enter func210,ntmps210;go_wp2_with fail;refine (xE c.data g n _ A au G J ar).mono ?_;rintro e eq ⟨rfl,rfl⟩;go_wp2_with fail;go_ret;exact ⟨ret_bool z.symm,ey _ _⟩
 . have z:Hid (numB c m g n=(lp c m&&c.num m g n)):=if_neg a3
   have az:=hid (xF c s E T ae X H f y3 (.iface 133 (.agg #[])) m (w.alloc (.cells #[.string s,.slice E c.uses T,em c.data,.slice ae (Ln c.parts) X,.slice H f y3,.iface 133 (.agg #[]),em c.locals] 206)))
   cases F:lp c m with
   | false=>
     rw [F] at az z;go_enter func210,ntmps210;go_wp2_with fail;refine az.mono ?_;rintro e eq ⟨rfl,ai⟩;have B:=hid (es (ey w _) ai);clear ai;go_wp2_with fail;go_ret;exact ⟨ret_bool z.symm,B⟩
   | true=>
     rw [F] at az z;have ad:=hid F;clear F;go_enter func210,ntmps210;go_wp2_with fail;refine az.mono ?_;rintro e eq ⟨rfl,ai⟩;have B:=hid (es (ey w _) ai);have an:=(ai.block _ (by simp)).trans (eT w (.cells #[.string s,.slice E c.uses T,em c.data,.slice ae (Ln c.parts) X,.slice H f y3,.iface 133 (.agg #[]),em c.locals] 206));obtain ⟨bh,a9,a4,c3,am,aX,aR,cz⟩:=f6 an;clear ai an bh a9 a4 c3 am aR az
     go_wp2_with (go_at_call 327;refine (bl.num _ B m g n ad ar G J).mono ?_;rintro e w2 ⟨rfl,aB⟩;have aM:=hid (es B aB);clear aB)
     go_ret;exact ⟨ret_bool (by rw [z.out];rfl),aM⟩
theorem Ia (c:Ck) (s:ByteArray) (E:OA) (T:Nat) (ae:OA) (X:Nat) (H:OA) (f y3:Nat) (m g:Int) (k:Nat) (w:World) (bp:eE w eV ae (Ln c.parts) (iI c.parts)) (aI:c.uses<=17592186044416) (d:pE w c 327 328 (.agg #[])) (a8:(Lit.int .i64 m).wf=true) (ab:(Lit.int .i64 g).wf=true) (N:k<=17592186044416) :
 ew 212 #[.agg #[.string s,.slice E c.uses T,em c.data,.slice ae (Ln c.parts) X,.slice H f y3,.iface 133 (.agg #[]),em c.locals],em m,em g,em k] w fun e r=>e = .returned (.bool (ip c m g k))/\et w r:=by
 have bl:=hid d;have ar:=hid ab;have A:=hid bp;have bG:=bp.bound;clear d ab a8 bp;have L:=H6;have K:=H8
 by_cases a3:m=0
 . subst a3
   have z:Hid (ip c 0 g k=lq c.parts g k):=if_pos rfl
   by_cases l:0<=g
   . obtain ⟨i,rfl⟩:∃ i:Nat,g=i:=⟨g.toNat,by omega⟩
     by_cases O:i<Ln c.parts
     . obtain ⟨b,C,b7,bj,rfl,Q⟩:=(A.later (ey w (.cells #[.string s,.slice E c.uses T,em c.data,.slice ae (Ln c.parts) X,.slice H f y3,.iface 133 (.agg #[]),em c.locals] 206))).pt i O
       have b2:Hid (lq c.parts i k=decide (c.parts[i].params=k)):=by show _=_;unfold lq;rw [decide_eq_true l,mT,gb O];rfl
       obtain ⟨ap,a6,_,_,_,_,_⟩:=Q
       have R:(i:Int)<Ln c.parts:=by omega
       have a7:b<w.heap.size+1:=by simpa using ap
       generalize c.parts[i].params=j at *
       by_cases ak:j=k
       . have v:Hid (ip c 0 i k=true):=by show _=_;rw [z.out,b2.out,decide_eq_true ak]
         subst ak;go_enter func212,ntmps212;go_wp2_with fail;go_ret;exact ⟨ret_bool v.symm,ey _ _⟩
       . have v:Hid (ip c 0 i k=false):=by show _=_;rw [z.out,b2.out,decide_eq_false ak]
         go_enter func212,ntmps212;go_wp2_with fail;go_ret;exact ⟨ret_bool (by first | exact v.symm | (rw [v.out];first | (simp;omega) | (simp [*];done))),ey _ _⟩
     . have v:Hid (ip c 0 i k=false):=by show _=_;rw [z.out];unfold lq;rw [mT,pm (by omega)];simp
       have R:Ln c.parts<=i:=by omega
       clear O;go_enter func212,ntmps212;go_wp2_with fail;go_ret;exact ⟨ret_bool v.symm,ey _ _⟩
   . have v:Hid (ip c 0 g k=false):=by show _=_;rw [z.out];unfold lq;rw [decide_eq_false l];rfl
     have I:g<0:=by omega
     clear l;go_enter func212,ntmps212;go_wp2_with fail;go_ret;exact ⟨ret_bool v.symm,ey _ _⟩
 . have z:Hid (ip c m g k=(lp c m&&c.prt m g k)):=if_neg a3
   have az:=hid (xF c s E T ae X H f y3 (.iface 133 (.agg #[])) m (w.alloc (.cells #[.string s,.slice E c.uses T,em c.data,.slice ae (Ln c.parts) X,.slice H f y3,.iface 133 (.agg #[]),em c.locals] 206)))
   cases F:lp c m with
   | false=>
     rw [F] at az z;go_enter func212,ntmps212;go_wp2_with fail;refine az.mono ?_;rintro e eq ⟨rfl,ai⟩;have B:=hid (es (ey w _) ai);clear ai;go_wp2_with fail;go_ret;exact ⟨ret_bool z.symm,B⟩
   | true=>
     rw [F] at az z;have ad:=hid F;clear F;go_enter func212,ntmps212;go_wp2_with fail;refine az.mono ?_;rintro e eq ⟨rfl,ai⟩;have B:=hid (es (ey w _) ai);have an:=(ai.block _ (by simp)).trans (eT w (.cells #[.string s,.slice E c.uses T,em c.data,.slice ae (Ln c.parts) X,.slice H f y3,.iface 133 (.agg #[]),em c.locals] 206));obtain ⟨bh,a9,a4,c3,am,aX,aR,cz⟩:=f6 an;clear ai an bh a9 a4 c3 am aR az
     go_wp2_with (go_at_call 328;refine (bl.prt _ B m g k ad ar N).mono ?_;rintro e w2 ⟨rfl,aB⟩;have aM:=hid (es B aB);clear aB)
     go_ret;exact ⟨ret_bool (by rw [z.out];rfl),aM⟩
theorem Ib (c:Ck) (s:ByteArray) (E:OA) (T:Nat) (ae:OA) (X:Nat) (H:OA) (f y3:Nat) (w:World) (A:0<=c.data) (au:c.data<=512) (aI:c.uses<=17592186044416) (bp:eE w eV ae (Ln c.parts) (iI c.parts)) (d:pE w c 327 328 (.agg #[])):m8 w c (.agg #[.string s,.slice E c.uses T,em c.data,.slice ae (Ln c.parts) X,.slice H f y3,.iface 133 (.agg #[]),em c.locals]):=
 ⟨fun M L m g n G J S a6=>H9 c s E T ae X H f y3 m g n M A au aI (d.later L) G J S a6,fun M L m g k G J S=>Ia c s E T ae X H f y3 m g k M (bp.later L) aI (d.later L) G J S⟩
theorem BC (c:Ck) (s:ByteArray) (E:OA) (T:Nat) (ae:OA) (X:Nat) (H:OA) (f y3:Nat) (y:Value) (n m g:Int) (w:World) (a1:m8 w c (.agg #[.string s,.slice E c.uses T,em c.data,.slice ae (Ln c.parts) X,.slice H f y3,y,em c.locals])) (a8:(Lit.int .i64 m).wf=true) (ab:(Lit.int .i64 g).wf=true) :
 ew 211 #[.agg #[.string s,.slice E c.uses T,em c.data,.slice ae (Ln c.parts) X,.slice H f y3,y,em c.locals],em n,em m,em g] w fun e r=>e = .returned (.bool (m2 c n m g))/\et w r:=by
 have aF:=hid (fun G J=>a1.num (w.alloc (.cells #[.string s,.slice E c.uses T,em c.data,.slice ae (Ln c.parts) X,.slice H f y3,y,em c.locals] 206)) (ey _ _) m g n a8 ab G J);clear a1 a8 ab
 by_cases G:1<=n
 . by_cases J:n<=32
   . have z:Hid (m2 c n m g=numB c m g n):=by show _=_;unfold m2;rw [decide_eq_true ⟨G,J⟩];rfl
     go_enter func211,ntmps211;go_wp2_with fail;refine (aF G J).mono ?_;rintro e eq ⟨rfl,ai⟩;have B:=hid (es (ey w _) ai);clear ai;go_wp2_with fail;go_ret;exact ⟨ret_bool z.symm,B⟩
   . have z:Hid (m2 c n m g=false):=by show _=_;unfold m2;rw [decide_eq_false (by omega)];rfl
     have b:32<n:=by omega
     clear J aF;go_enter func211,ntmps211;go_wp2_with fail;go_ret;exact ⟨ret_bool z.symm,ey _ _⟩
 . have z:Hid (m2 c n m g=false):=by show _=_;unfold m2;rw [decide_eq_false (by omega)];rfl
   have aa:n<1:=by omega
   clear G aF;go_enter func211,ntmps211;go_wp2_with fail;go_ret;exact ⟨ret_bool z.symm,ey _ _⟩
theorem Ic (c:Ck) (s:ByteArray) (E:OA) (T:Nat) (ae:OA) (X:Nat) (H:OA) (f y3:Nat) (y:Value) (x:eH) (t:OA) (cp:Nat) (w:World) (a1:m8 w c (.agg #[.string s,.slice E c.uses T,em c.data,.slice ae (Ln c.parts) X,.slice H f y3,y,em c.locals])) (a8:(Lit.int .i64 x.m).wf=true) (ab:(Lit.int .i64 x.at_).wf=true) (a2:Ln x.args<=17592186044416) :
 ew 213 #[.agg #[.string s,.slice E c.uses T,em c.data,.slice ae (Ln c.parts) X,.slice H f y3,y,em c.locals],.agg #[em x.op,em x.n,em x.m,em x.at_,.slice t (Ln x.args) cp]] w fun e r=>e = .returned (.bool (fI c x))/\et w r:=by
 obtain ⟨p,n,m,g,d⟩:=x;simp only [eH.op,eH.n,eH.m,eH.at_,eH.args] at *;have ao:=hid a1;have aq:=hid a8;have ar:=hid ab;clear a1 a8 ab
 by_cases V:p=3
 . subst V
   by_cases O:Ln d=0
   . by_cases l:n=0
     . have z:Hid (fI c (.mk 3 n m g d)=numB c m g 1):=by show _=_;unfold fI;simp only [eH.op,eH.n,eH.m,eH.at_,eH.args];simp [*]
       go_enter func213,ntmps213;go_wp2_with fail;refine (ao.num _ (fq _ _ _) m g 1 aq ar (by decide) (by decide)).mono ?_;rintro e eq ⟨rfl,ai⟩;have B:=hid (es (fq w _ _) ai);clear ai;go_wp2_with fail;go_ret;exact ⟨ret_bool z.symm,B⟩
     . have z:Hid (fI c (.mk 3 n m g d)=false):=by show _=_;unfold fI;simp only [eH.op,eH.n,eH.m,eH.at_,eH.args];simp [*]
       have q:n≠0:=by omega
       clear l;go_enter func213,ntmps213;go_wp2_with fail;go_ret;exact ⟨ret_bool z.symm,fq _ _ _⟩
   . have z:Hid (fI c (.mk 3 n m g d)=false):=by show _=_;unfold fI;simp only [eH.op,eH.n,eH.m,eH.at_,eH.args];simp [*]
     have q:Ln d≠0:=by omega
     clear O;go_enter func213,ntmps213;go_wp2_with fail;go_ret;exact ⟨ret_bool z.symm,fq _ _ _⟩
 by_cases a6:p=4
 . subst a6
   by_cases l:Ln d=1
   . have z:Hid (fI c (.mk 4 n m g d)=m2 c n m g):=by show _=_;unfold fI;simp only [eH.op,eH.n,eH.m,eH.at_,eH.args];simp [*]
     go_enter func213,ntmps213;go_wp2_with fail;refine (BC c s E T ae X H f y3 y n m g _ (ao.later (fq _ _ _)) aq ar).mono ?_;rintro e eq ⟨rfl,ai⟩;have B:=hid (es (fq w _ _) ai);clear ai;go_wp2_with fail;go_ret;exact ⟨ret_bool z.symm,B⟩
   . have z:Hid (fI c (.mk 4 n m g d)=false):=by show _=_;unfold fI;simp only [eH.op,eH.n,eH.m,eH.at_,eH.args];simp [*]
     have q:Ln d≠1:=by omega
     clear l;go_enter func213,ntmps213;go_wp2_with fail;go_ret;exact ⟨ret_bool z.symm,fq _ _ _⟩
 by_cases b:p=5
 . subst b
   by_cases l:n=0
   . have z:Hid (fI c (.mk 5 n m g d)=ip c m g (Ln d)):=by show _=_;unfold fI;simp only [eH.op,eH.n,eH.m,eH.at_,eH.args];simp [*]
     go_enter func213,ntmps213;go_wp2_with fail;refine (ao.prt _ (fq _ _ _) m g (Ln d) aq ar a2).mono ?_;rintro e eq ⟨rfl,ai⟩;have B:=hid (es (fq w _ _) ai);clear ai;go_wp2_with fail;go_ret;exact ⟨ret_bool z.symm,B⟩
   . have z:Hid (fI c (.mk 5 n m g d)=false):=by show _=_;unfold fI;simp only [eH.op,eH.n,eH.m,eH.at_,eH.args];simp [*]
     have q:n≠0:=by omega
     clear l;go_enter func213,ntmps213;go_wp2_with fail;go_ret;exact ⟨ret_bool z.symm,fq _ _ _⟩
 by_cases h:p=16
 . subst h
   by_cases ak:Ln d=0
   . by_cases O:n=0
     . by_cases l:m=0
       . have z:Hid (fI c (.mk 16 n m g d)=mF c g):=by show _=_;unfold fI;simp only [eH.op,eH.n,eH.m,eH.at_,eH.args];simp [*]
         go_enter func213,ntmps213;go_wp2_with fail;refine (BA c s E T ae X H f y3 y g _).mono ?_;rintro e eq ⟨rfl,ai⟩;have B:=hid (es (fq w _ _) ai);clear ai;go_wp2_with fail;go_ret;exact ⟨ret_bool z.symm,B⟩
       . have z:Hid (fI c (.mk 16 n m g d)=false):=by show _=_;unfold fI;simp only [eH.op,eH.n,eH.m,eH.at_,eH.args];simp [*]
         have q:m≠0:=by omega
         clear l;go_enter func213,ntmps213;go_wp2_with fail;go_ret;exact ⟨ret_bool z.symm,fq _ _ _⟩
     . have z:Hid (fI c (.mk 16 n m g d)=false):=by show _=_;unfold fI;simp only [eH.op,eH.n,eH.m,eH.at_,eH.args];simp [*]
       have q:n≠0:=by omega
       clear O;go_enter func213,ntmps213;go_wp2_with fail;go_ret;exact ⟨ret_bool z.symm,fq _ _ _⟩
   . have z:Hid (fI c (.mk 16 n m g d)=false):=by show _=_;unfold fI;simp only [eH.op,eH.n,eH.m,eH.at_,eH.args];simp [*]
     have q:Ln d≠0:=by omega
     clear ak;go_enter func213,ntmps213;go_wp2_with fail;go_ret;exact ⟨ret_bool z.symm,fq _ _ _⟩
 by_cases I:p=1
 . subst I
   by_cases j:Ln d=0
   . by_cases a:0<=n
     . by_cases ak:n<=1099511627775
       . by_cases O:m=0
         . by_cases l:g=0
           . have z:Hid (fI c (.mk 1 n m g d)=true):=by show _=_;unfold fI;simp only [eH.op,eH.n,eH.m,eH.at_,eH.args];simp [*]
             go_enter func213,ntmps213;go_wp2_with fail;go_ret;exact ⟨ret_bool z.symm,fq _ _ _⟩
           . have z:Hid (fI c (.mk 1 n m g d)=false):=by show _=_;unfold fI;simp only [eH.op,eH.n,eH.m,eH.at_,eH.args];simp [*]
             have q:g≠0:=by omega
             clear l;go_enter func213,ntmps213;go_wp2_with fail;go_ret;exact ⟨ret_bool (by first | exact z.symm | (rw [z.out];first | (simp;omega) | (simp [*];done))),fq _ _ _⟩
         . have z:Hid (fI c (.mk 1 n m g d)=false):=by show _=_;unfold fI;simp only [eH.op,eH.n,eH.m,eH.at_,eH.args];simp [*]
           have q:m≠0:=by omega
           clear O;go_enter func213,ntmps213;go_wp2_with fail;go_ret;exact ⟨ret_bool z.symm,fq _ _ _⟩
       . have z:Hid (fI c (.mk 1 n m g d)=false):=by show _=_;unfold fI;simp only [eH.op,eH.n,eH.m,eH.at_,eH.args];simp [*]
         have q:1099511627775<n:=by omega
         clear ak;go_enter func213,ntmps213;go_wp2_with fail;go_ret;exact ⟨ret_bool z.symm,fq _ _ _⟩
     . have z:Hid (fI c (.mk 1 n m g d)=false):=by show _=_;unfold fI;simp only [eH.op,eH.n,eH.m,eH.at_,eH.args];simp [*]
       have q:n<0:=by omega
       clear a;go_enter func213,ntmps213;go_wp2_with fail;go_ret;exact ⟨ret_bool z.symm,fq _ _ _⟩
   . have z:Hid (fI c (.mk 1 n m g d)=false):=by show _=_;unfold fI;simp only [eH.op,eH.n,eH.m,eH.at_,eH.args];simp [*]
     have q:Ln d≠0:=by omega
     clear j;go_enter func213,ntmps213;go_wp2_with fail;go_ret;exact ⟨ret_bool z.symm,fq _ _ _⟩
 have b2:Hid (fI c (.mk p n m g d)=(decide ((Ln d:Int)=lr p)&&(decide (n=0)&&(decide (m=0)&&decide (g=0))))):=by
  show _=_;unfold fI;exact (if_neg V).trans ((if_neg a6).trans ((if_neg b).trans ((if_neg h).trans (if_neg I))))
 have aE:=hid (H2 p);generalize lr p=g at *
 by_cases a:(Ln d:Int)=g
 . by_cases ak:n=0
   . by_cases O:m=0
     . by_cases l:g=0
       . have z:Hid (fI c (.mk p n m g d)=true):=by show _=_;rw [b2.out];simp [*]
         go_enter func213,ntmps213;go_wp2_with fail;refine (aE _).mono ?_;rintro e eq ⟨rfl,rfl⟩;go_wp2_with fail;go_ret;exact ⟨ret_bool z.symm,fq _ _ _⟩
       . have z:Hid (fI c (.mk p n m g d)=false):=by show _=_;rw [b2.out];simp [*]
         have q:g≠0:=by omega
         clear l;go_enter func213,ntmps213;go_wp2_with fail;refine (aE _).mono ?_;rintro e eq ⟨rfl,rfl⟩;go_wp2_with fail;go_ret;exact ⟨ret_bool (by first | exact z.symm | (rw [z.out];first | (simp;omega) | (simp [*];done))),fq _ _ _⟩
     . have z:Hid (fI c (.mk p n m g d)=false):=by show _=_;rw [b2.out];simp [*]
       have q:m≠0:=by omega
       clear O;go_enter func213,ntmps213;go_wp2_with fail;refine (aE _).mono ?_;rintro e eq ⟨rfl,rfl⟩;go_wp2_with fail;go_ret;exact ⟨ret_bool z.symm,fq _ _ _⟩
   . have z:Hid (fI c (.mk p n m g d)=false):=by show _=_;rw [b2.out];simp [*]
     have q:n≠0:=by omega
     clear ak;go_enter func213,ntmps213;go_wp2_with fail;refine (aE _).mono ?_;rintro e eq ⟨rfl,rfl⟩;go_wp2_with fail;go_ret;exact ⟨ret_bool z.symm,fq _ _ _⟩
 . have z:Hid (fI c (.mk p n m g d)=false):=by show _=_;rw [b2.out];simp [*]
   have q:(Ln d:Int)≠g:=by omega
   clear a;go_enter func213,ntmps213;go_wp2_with fail;refine (aE _).mono ?_;rintro e eq ⟨rfl,rfl⟩;go_wp2_with fail;go_ret;exact ⟨ret_bool z.symm,fq _ _ _⟩
theorem Id (c:Ck) (s:ByteArray) (E:OA) (T:Nat) (ae:OA) (X:Nat) (H:OA) (f y3:Nat) (y:Value) (x:eB) (t:OA) (cp:Nat) (b7:OA) (bj:Nat) (o:OA) (ag:Nat) (w:World) (a1:m8 w c (.agg #[.string s,.slice E c.uses T,em c.data,.slice ae (Ln c.parts) X,.slice H f y3,y,em c.locals])) (a8:(Lit.int .i64 x.m).wf=true) (ab:(Lit.int .i64 x.at_).wf=true) (a2:Ln x.args<=17592186044416) :
 ew 169 #[.agg #[.string s,.slice E c.uses T,em c.data,.slice ae (Ln c.parts) X,.slice H f y3,y,em c.locals],.agg #[em x.op,em x.n,em x.m,em x.at_,.slice t (Ln x.args) cp,.slice b7 (Ln x.body) bj,.slice o (Ln x.other) ag]] w fun e r=>e = .returned (.bool (fJ c x))/\et w r:=by
 obtain ⟨p,n,m,g,d,U,N⟩:=x;simp only [eB.op,eB.n,eB.m,eB.at_,eB.args,eB.body,eB.other] at *;have ao:=hid a1;have aq:=hid a8;have ar:=hid ab;clear a1 a8 ab
 by_cases I:p=1
 . subst I
   by_cases i:m = -1
   . subst i
     by_cases O:Ln d=1
     . by_cases l:n=0
       . have z:Hid (fJ c (.mk 1 n (-1) g d U N)=mF c g):=by show _=_;unfold fJ;simp only [eB.op,eB.n,eB.m,eB.at_,eB.args];simp [*]
         go_enter func169,ntmps169;go_wp2_with fail;refine (BA c s E T ae X H f y3 y g _).mono ?_;rintro e eq ⟨rfl,ai⟩;have B:=hid (es (fq w _ _) ai);clear ai;go_wp2_with fail;go_ret;exact ⟨ret_bool z.symm,B⟩
       . have z:Hid (fJ c (.mk 1 n (-1) g d U N)=false):=by show _=_;unfold fJ;simp only [eB.op,eB.n,eB.m,eB.at_,eB.args];simp [*]
         have q:n≠0:=by omega
         clear l;go_enter func169,ntmps169;go_wp2_with fail;go_ret;exact ⟨ret_bool z.symm,fq _ _ _⟩
     . have z:Hid (fJ c (.mk 1 n (-1) g d U N)=false):=by show _=_;unfold fJ;simp only [eB.op,eB.n,eB.m,eB.at_,eB.args];simp [*]
       have q:Ln d≠1:=by omega
       clear O;go_enter func169,ntmps169;go_wp2_with fail;go_ret;exact ⟨ret_bool z.symm,fq _ _ _⟩
   . by_cases O:Ln d=1
     . by_cases l:n=0
       . have z:Hid (fJ c (.mk 1 n m g d U N)=numB c m g 1):=by show _=_;unfold fJ;simp only [eB.op,eB.n,eB.m,eB.at_,eB.args];simp [*]
         go_enter func169,ntmps169;go_wp2_with fail;refine (ao.num _ (fq _ _ _) m g 1 aq ar (by decide) (by decide)).mono ?_;rintro e eq ⟨rfl,ai⟩;have B:=hid (es (fq w _ _) ai);clear ai;go_wp2_with fail;go_ret;exact ⟨ret_bool z.symm,B⟩
       . have z:Hid (fJ c (.mk 1 n m g d U N)=false):=by show _=_;unfold fJ;simp only [eB.op,eB.n,eB.m,eB.at_,eB.args];simp [*]
         have q:n≠0:=by omega
         clear l;go_enter func169,ntmps169;go_wp2_with fail;go_ret;exact ⟨ret_bool z.symm,fq _ _ _⟩
     . have z:Hid (fJ c (.mk 1 n m g d U N)=false):=by show _=_;unfold fJ;simp only [eB.op,eB.n,eB.m,eB.at_,eB.args];simp [*]
       have q:Ln d≠1:=by omega
       clear O;go_enter func169,ntmps169;go_wp2_with fail;go_ret;exact ⟨ret_bool z.symm,fq _ _ _⟩
 by_cases K:p=2
 . subst K
   by_cases l:Ln d=2
   . have z:Hid (fJ c (.mk 2 n m g d U N)=m2 c n m g):=by show _=_;unfold fJ;simp only [eB.op,eB.n,eB.m,eB.at_,eB.args];simp [*]
     go_enter func169,ntmps169;go_wp2_with fail;refine (BC c s E T ae X H f y3 y n m g _ (ao.later (fq _ _ _)) aq ar).mono ?_;rintro e eq ⟨rfl,ai⟩;have B:=hid (es (fq w _ _) ai);clear ai;go_wp2_with fail;go_ret;exact ⟨ret_bool z.symm,B⟩
   . have z:Hid (fJ c (.mk 2 n m g d U N)=false):=by show _=_;unfold fJ;simp only [eB.op,eB.n,eB.m,eB.at_,eB.args];simp [*]
     have q:Ln d≠2:=by omega
     clear l;go_enter func169,ntmps169;go_wp2_with fail;go_ret;exact ⟨ret_bool z.symm,fq _ _ _⟩
 by_cases V:p=3
 . subst V
   by_cases l:n=0
   . have z:Hid (fJ c (.mk 3 n m g d U N)=ip c m g (Ln d)):=by show _=_;unfold fJ;simp only [eB.op,eB.n,eB.m,eB.at_,eB.args];simp [*]
     go_enter func169,ntmps169;go_wp2_with fail;refine (ao.prt _ (fq _ _ _) m g (Ln d) aq ar a2).mono ?_;rintro e eq ⟨rfl,ai⟩;have B:=hid (es (fq w _ _) ai);clear ai;go_wp2_with fail;go_ret;exact ⟨ret_bool z.symm,B⟩
   . have z:Hid (fJ c (.mk 3 n m g d U N)=false):=by show _=_;unfold fJ;simp only [eB.op,eB.n,eB.m,eB.at_,eB.args];simp [*]
     have q:n≠0:=by omega
     clear l;go_enter func169,ntmps169;go_wp2_with fail;go_ret;exact ⟨ret_bool z.symm,fq _ _ _⟩
 by_cases a6:p=4
 . subst a6
   by_cases a:Ln d=1
   . by_cases ak:n=0
     . by_cases O:m=0
       . by_cases l:g=0
         . have z:Hid (fJ c (.mk 4 n m g d U N)=true):=by show _=_;unfold fJ;simp only [eB.op,eB.n,eB.m,eB.at_,eB.args];simp [*]
           go_enter func169,ntmps169;go_wp2_with fail;go_ret;exact ⟨ret_bool z.symm,fq _ _ _⟩
         . have z:Hid (fJ c (.mk 4 n m g d U N)=false):=by show _=_;unfold fJ;simp only [eB.op,eB.n,eB.m,eB.at_,eB.args];simp [*]
           have q:g≠0:=by omega
           clear l;go_enter func169,ntmps169;go_wp2_with fail;go_ret;exact ⟨ret_bool (by first | exact z.symm | (rw [z.out];first | (simp;omega) | (simp [*];done))),fq _ _ _⟩
       . have z:Hid (fJ c (.mk 4 n m g d U N)=false):=by show _=_;unfold fJ;simp only [eB.op,eB.n,eB.m,eB.at_,eB.args];simp [*]
         have q:m≠0:=by omega
         clear O;go_enter func169,ntmps169;go_wp2_with fail;go_ret;exact ⟨ret_bool z.symm,fq _ _ _⟩
     . have z:Hid (fJ c (.mk 4 n m g d U N)=false):=by show _=_;unfold fJ;simp only [eB.op,eB.n,eB.m,eB.at_,eB.args];simp [*]
       have q:n≠0:=by omega
       clear ak;go_enter func169,ntmps169;go_wp2_with fail;go_ret;exact ⟨ret_bool z.symm,fq _ _ _⟩
   . have z:Hid (fJ c (.mk 4 n m g d U N)=false):=by show _=_;unfold fJ;simp only [eB.op,eB.n,eB.m,eB.at_,eB.args];simp [*]
     have q:Ln d≠1:=by omega
     clear a;go_enter func169,ntmps169;go_wp2_with fail;go_ret;exact ⟨ret_bool z.symm,fq _ _ _⟩
 by_cases b:p=5
 . subst b
   by_cases a:Ln d=1
   . by_cases ak:n=0
     . by_cases O:m=0
       . by_cases l:g=0
         . have z:Hid (fJ c (.mk 5 n m g d U N)=true):=by show _=_;unfold fJ;simp only [eB.op,eB.n,eB.m,eB.at_,eB.args];simp [*]
           go_enter func169,ntmps169;go_wp2_with fail;go_ret;exact ⟨ret_bool z.symm,fq _ _ _⟩
         . have z:Hid (fJ c (.mk 5 n m g d U N)=false):=by show _=_;unfold fJ;simp only [eB.op,eB.n,eB.m,eB.at_,eB.args];simp [*]
           have q:g≠0:=by omega
           clear l;go_enter func169,ntmps169;go_wp2_with fail;go_ret;exact ⟨ret_bool (by first | exact z.symm | (rw [z.out];first | (simp;omega) | (simp [*];done))),fq _ _ _⟩
       . have z:Hid (fJ c (.mk 5 n m g d U N)=false):=by show _=_;unfold fJ;simp only [eB.op,eB.n,eB.m,eB.at_,eB.args];simp [*]
         have q:m≠0:=by omega
         clear O;go_enter func169,ntmps169;go_wp2_with fail;go_ret;exact ⟨ret_bool z.symm,fq _ _ _⟩
     . have z:Hid (fJ c (.mk 5 n m g d U N)=false):=by show _=_;unfold fJ;simp only [eB.op,eB.n,eB.m,eB.at_,eB.args];simp [*]
       have q:n≠0:=by omega
       clear ak;go_enter func169,ntmps169;go_wp2_with fail;go_ret;exact ⟨ret_bool z.symm,fq _ _ _⟩
   . have z:Hid (fJ c (.mk 5 n m g d U N)=false):=by show _=_;unfold fJ;simp only [eB.op,eB.n,eB.m,eB.at_,eB.args];simp [*]
     have q:Ln d≠1:=by omega
     clear a;go_enter func169,ntmps169;go_wp2_with fail;go_ret;exact ⟨ret_bool z.symm,fq _ _ _⟩
 by_cases h:p=6
 . subst h
   by_cases a:Ln d=1
   . by_cases ak:n=0
     . by_cases O:m=0
       . by_cases l:g=0
         . have z:Hid (fJ c (.mk 6 n m g d U N)=true):=by show _=_;unfold fJ;simp only [eB.op,eB.n,eB.m,eB.at_,eB.args];simp [*]
           go_enter func169,ntmps169;go_wp2_with fail;go_ret;exact ⟨ret_bool z.symm,fq _ _ _⟩
         . have z:Hid (fJ c (.mk 6 n m g d U N)=false):=by show _=_;unfold fJ;simp only [eB.op,eB.n,eB.m,eB.at_,eB.args];simp [*]
           have q:g≠0:=by omega
           clear l;go_enter func169,ntmps169;go_wp2_with fail;go_ret;exact ⟨ret_bool (by first | exact z.symm | (rw [z.out];first | (simp;omega) | (simp [*];done))),fq _ _ _⟩
       . have z:Hid (fJ c (.mk 6 n m g d U N)=false):=by show _=_;unfold fJ;simp only [eB.op,eB.n,eB.m,eB.at_,eB.args];simp [*]
         have q:m≠0:=by omega
         clear O;go_enter func169,ntmps169;go_wp2_with fail;go_ret;exact ⟨ret_bool z.symm,fq _ _ _⟩
     . have z:Hid (fJ c (.mk 6 n m g d U N)=false):=by show _=_;unfold fJ;simp only [eB.op,eB.n,eB.m,eB.at_,eB.args];simp [*]
       have q:n≠0:=by omega
       clear ak;go_enter func169,ntmps169;go_wp2_with fail;go_ret;exact ⟨ret_bool z.symm,fq _ _ _⟩
   . have z:Hid (fJ c (.mk 6 n m g d U N)=false):=by show _=_;unfold fJ;simp only [eB.op,eB.n,eB.m,eB.at_,eB.args];simp [*]
     have q:Ln d≠1:=by omega
     clear a;go_enter func169,ntmps169;go_wp2_with fail;go_ret;exact ⟨ret_bool z.symm,fq _ _ _⟩
 by_cases v:p=7
 . subst v
   by_cases a:Ln d=1
   . by_cases ak:n=0
     . by_cases O:m=0
       . by_cases l:g=0
         . have z:Hid (fJ c (.mk 7 n m g d U N)=true):=by show _=_;unfold fJ;simp only [eB.op,eB.n,eB.m,eB.at_,eB.args];simp [*]
           go_enter func169,ntmps169;go_wp2_with fail;go_ret;exact ⟨ret_bool z.symm,fq _ _ _⟩
         . have z:Hid (fJ c (.mk 7 n m g d U N)=false):=by show _=_;unfold fJ;simp only [eB.op,eB.n,eB.m,eB.at_,eB.args];simp [*]
           have q:g≠0:=by omega
           clear l;go_enter func169,ntmps169;go_wp2_with fail;go_ret;exact ⟨ret_bool (by first | exact z.symm | (rw [z.out];first | (simp;omega) | (simp [*];done))),fq _ _ _⟩
       . have z:Hid (fJ c (.mk 7 n m g d U N)=false):=by show _=_;unfold fJ;simp only [eB.op,eB.n,eB.m,eB.at_,eB.args];simp [*]
         have q:m≠0:=by omega
         clear O;go_enter func169,ntmps169;go_wp2_with fail;go_ret;exact ⟨ret_bool z.symm,fq _ _ _⟩
     . have z:Hid (fJ c (.mk 7 n m g d U N)=false):=by show _=_;unfold fJ;simp only [eB.op,eB.n,eB.m,eB.at_,eB.args];simp [*]
       have q:n≠0:=by omega
       clear ak;go_enter func169,ntmps169;go_wp2_with fail;go_ret;exact ⟨ret_bool z.symm,fq _ _ _⟩
   . have z:Hid (fJ c (.mk 7 n m g d U N)=false):=by show _=_;unfold fJ;simp only [eB.op,eB.n,eB.m,eB.at_,eB.args];simp [*]
     have q:Ln d≠1:=by omega
     clear a;go_enter func169,ntmps169;go_wp2_with fail;go_ret;exact ⟨ret_bool z.symm,fq _ _ _⟩
 have z:Hid (fJ c (.mk p n m g d U N)=false):=by
  show _=_;unfold fJ;exact (if_neg I).trans ((if_neg K).trans ((if_neg V).trans (if_neg (by show ¬ (4<=p/\p<=7);omega))))
 go_enter func169,ntmps169;go_wp2_with fail;go_ret;exact ⟨ret_bool z.symm,fq _ _ _⟩
theorem BE (c:Ck) (s:ByteArray) (E:OA) (T:Nat) (ae:OA) (X:Nat) (H:OA) (f y3:Nat) (y:Value) (a:OA) (I:Nat) (m:Int) (w:World) :
 ew 170 #[.agg #[.string s,.slice E c.uses T,em c.data,.slice ae (Ln c.parts) X,.slice H f y3,y,em c.locals],.slice a 0 I,em m] w fun e r=>e = .returned (.bool true)/\et w r:=by
 go_enter func170,ntmps170;go_wp2_with fail
 go_loopw [18] (fun i wr=>i=em 0/\et w wr) (fun _ _=>0)
 case atStart=>exact ⟨rfl,ey _ _⟩
 case round=>
  obtain ⟨rfl,F⟩:=hrel;have ad:=hid F;clear F;go_wp2_with fail;go_ret;exact ⟨rfl,ad⟩
theorem Ie (c:Ck) (s:ByteArray) (E:OA) (T:Nat) (ae:OA) (X:Nat) (H:OA) (f y3:Nat) (y:Value) (a:OA) (n I:Nat) (w:World) (U:0<n) :
 ew 170 #[.agg #[.string s,.slice E c.uses T,em c.data,.slice ae (Ln c.parts) X,.slice H f y3,y,em c.locals],.slice a n I,em 7] w fun e r=>e = .returned (.bool false)/\et w r:=by
 go_enter func170,ntmps170;go_wp2_with fail;go_ret;exact ⟨rfl,ey _ _⟩
theorem Ig (c:Ck) (k:Nat):gW c k []=true:=by cases k<;>simp [gW]
theorem BF (c:Ck) (s:ByteArray) (E:OA) (T:Nat) (ae:OA) (X:Nat) (H:OA) (f y3:Nat) (y:Value):∀ (k:Nat),k<=6->∀ (K:List eH) (A:Nat->Prop) (a:OA) (I:Nat) (m:Int) (w:World),m=7 - (k:Int)->eE w A a (Ln K) (fY K)->m8 w c (.agg #[.string s,.slice E c.uses T,em c.data,.slice ae (Ln c.parts) X,.slice H f y3,y,em c.locals])->
 ew 170 #[.agg #[.string s,.slice E c.uses T,em c.data,.slice ae (Ln c.parts) X,.slice H f y3,y,em c.locals],.slice a (Ln K) I,em m] w fun e r=>e = .returned (.bool (gW c k K))/\et w r
 | 0,_,K,A,a,I,m,w,ez,_,_=>by
   obtain rfl:m=7:=by omega
   rcases tV (Ln K) with a3 | a3
   . obtain rfl:=ii a3
     exact BE c s E T ae X H f y3 y a I 7 w
   . have:gW c 0 K=false:=by simp only [gW];exact decide_eq_false (by omega)
     rw [this];exact Ie c s E T ae X H f y3 y a (Ln K) I w a3
 | k + 1, N,K,A,a,I,m,w,ez,ax,a1=>by
   have az:=hid (fun (K:List eH) (A:Nat->Prop) (a:OA) (I:Nat) (w:World)=>BF c s E T ae X H f y3 y k (by omega) K A a I (m+1) w (by omega))
   rcases tV (Ln K) with a3 | a3
   . obtain rfl:=ii a3
     rw [Ig];exact BE c s E T ae X H f y3 y a I m w
   have z:Hid (gW c (k+1) K=K.all (fun q=>fI c q&&gW c k q.args)):=by show _=_;simp [gW]
   have bC:=ax.bound
   have au:1<=m:=by omega
   have V:m<=6:=by omega
   have aK:=hid ax;have ao:=hid a1;clear ax a1 ez;go_enter func170,ntmps170;go_wp2_with fail
   go_loopw [18] (fun i wr=>∃ j:Nat,j<=Ln K/\i=em j/\(K.take j).all (fun q=>fI c q&&gW c k q.args)=true/\et w wr/\wr.heap[w.heap.size]? = some (.cells #[.string s,.slice E c.uses T,em c.data,.slice ae (Ln c.parts) X,.slice H f y3,y,em c.locals] 206)) (fun i _=>Ln K - (intOf i).toNat)
   case atStart=>exact ⟨0,eY _,rfl,rfl,ey _ _,eT _ _⟩
   case round=>
    obtain ⟨j,ac,rfl,aO,F,ab⟩:=hrel;obtain ⟨av,an,aD,aR,b3,q5,q6,aV⟩:=f6 ab;have ad:=hid F;have aN:=hid ab;have b8:=hid aO;clear aO ab F
    by_cases a0:j<Ln K
    . obtain ⟨b,C,t,bo,rfl,Q⟩:=(aK.later ad).nd j a0
      have p:=hid (fun (h:(fI c K[j]&&gW c k K[j].args)=false)=>all_not K (fun q=>fI c q&&gW c k q.args) j a0 h);have P:=hid (fun (h:(fI c K[j]&&gW c k K[j].args)=true)=>(by rw [all_snoc K _ j a0,b8.out,h];rfl:(K.take (j+1)).all (fun q=>fI c q&&gW c k q.args)=true));obtain ⟨ap,af,x1',x2',aA,aj,hargs,_,_,a8,a5⟩:=Q;have ar:=hid hargs;have ak:=hargs.bound;have aq:=hid a8;have g:=hid a5;clear hargs a8 a5;generalize K[j]=q at *;go_wp2_with fail;refine (Ic c s E T ae X H f y3 y q t bo _ (ao.later (es ad (ey _ _))) aq g ak).mono ?_
      cases G:fI c q with
      | false=>
        rintro e eC ⟨rfl,a2⟩;have aP:=hid (es ad (es (ey _ _) a2));have n:=hid (p (by rw [G];rfl));clear a2;go_wp2_with fail;go_ret;exact ⟨ret_bool (by rw [z.out,n.out]),aP⟩
      | true=>
        rintro e eC ⟨rfl,a2⟩;have aP:=hid (es (ey wr _) a2);have be:=(aP.block _ (lt_of_heap aN)).trans aN;have fE:=(a2.block _ (by simp)).trans (eT wr (i6 q.op q.n q.m q.at_ t (Ln q.args) bo));have Z:=hid be;clear av an aD aR b3 q5 q6 aV af x1' x2' aA aj ap;obtain ⟨av,an,aD,aR,b3,q5,q6,aV⟩:=f6 be;obtain ⟨D,aZ,b6,bk,bm,_⟩:=fi fE;have u:=lt_of_heap fE;clear a2 be fE;go_wp2_with fail;refine (az q.args A t bo _ (ar.later aP) (ao.later (es ad aP))).mono ?_
        cases J:gW c k q.args with
        | false=>
          rintro e eA ⟨rfl,aW⟩;have b1:=hid (es (es ad aP) aW);have n:=hid (p (by rw [G,J];rfl));clear aW;go_wp2_with fail;go_ret;exact ⟨ret_bool (by rw [z.out,n.out]),b1⟩
        | true=>
          rintro e eA ⟨rfl,aW⟩;have b1:=hid (es (es ad aP) aW);have L:=hid ((aW.block _ (lt_of_heap Z)).trans Z);have a4:=hid (P (by rw [G,J];rfl));clear aW;go_wp2_with fail;go_roundw
          case rel=>exact ⟨j+1,by omega,by go_num,a4,b1,L⟩
          case measure=>simp [intOf];omega
    . have P:Hid (K.all (fun q=>fI c q&&gW c k q.args)=true):=kS b8 a0
      go_wp2_with fail;go_ret;exact ⟨ret_bool (by rw [z.out,P.out]),ad⟩
def nR (c:Ck) (k:Nat) (a:eB):Bool:=if a.op=4 then gw c k a.body&&gw c k a.other else if a.op=5 then gw c k a.body&&decide (Ln a.other=0) else decide (Ln a.body=0)&&decide (Ln a.other=0)
def uD (c:Ck) (q:Value) (k:Nat):Prop:=∀ (K:List eB) (A:Nat->Prop) (a:OA) (I:Nat) (m:Int) (w:World),m=7 - (k:Int)->eE w A a (Ln K) (f9 K)->m8 w c q->
    ew 128 #[q,.slice a (Ln K) I,em m] w fun e r=>e = .returned (.bool (gw c k K))/\et w r
theorem Ih (c:Ck) (s:ByteArray) (E:OA) (T:Nat) (ae:OA) (X:Nat) (H:OA) (f y3:Nat) (y:Value) (k:Nat) (N:k<=6) (aH:uD c (.agg #[.string s,.slice E c.uses T,em c.data,.slice ae (Ln c.parts) X,.slice H f y3,y,em c.locals]) k) (x:eB) (A:Nat->Prop) (t:OA) (cp:Nat) (b7:OA) (bj:Nat) (o:OA) (ag:Nat) (m:Int) (w:World) (ez:m=7 - (k:Int)) (ab:eE w A b7 (Ln x.body) (f9 x.body)) (aQ:eE w A o (Ln x.other) (f9 x.other)) (a1:m8 w c (.agg #[.string s,.slice E c.uses T,em c.data,.slice ae (Ln c.parts) X,.slice H f y3,y,em c.locals])) :
 ew 171 #[.agg #[.string s,.slice E c.uses T,em c.data,.slice ae (Ln c.parts) X,.slice H f y3,y,em c.locals],.agg #[em x.op,em x.n,em x.m,em x.at_,.slice t (Ln x.args) cp,.slice b7 (Ln x.body) bj,.slice o (Ln x.other) ag],em m] w fun e r=>e = .returned (.bool (nR c k x))/\et w r:=by
 have az:=hid (fun K A a I w=>aH K A a I m w ez);have j:=ab.bound;have Z:=aQ.bound;have ad:=hid ab;have aG:=hid aQ;have ao:=hid a1;clear aH ab aQ a1 ez
 by_cases a6:x.op=4
 . have z:Hid (nR c k x=(gw c k x.body&&gw c k x.other)):=if_pos a6
   go_enter func171,ntmps171;go_wp2_with fail;refine (az x.body A b7 bj _ (ad.later (fq _ _ _)) (ao.later (fq _ _ _))).mono ?_
   cases G:gw c k x.body with
   | false=>
     rintro e eC ⟨rfl,a2⟩;have aP:=hid (es (fq w _ _) a2);clear a2;go_wp2_with fail;go_ret;exact ⟨ret_bool (by rw [z.out,G];rfl),aP⟩
   | true=>
     rintro e eC ⟨rfl,a2⟩;have aP:=hid (es (fq w _ _) a2);have be:=(a2.block w.heap.size (by simp;omega)).trans (fF (eT w (.cells #[.string s,.slice E c.uses T,em c.data,.slice ae (Ln c.parts) X,.slice H f y3,y,em c.locals] 206)));have fE:=(a2.block (w.heap.size+1) (by simp)).trans (BB w _ _);obtain ⟨av,an,aD,aR,b3,q5,q6,aV⟩:=f6 be;obtain ⟨D,aZ,b6,bk,bm,a7,aJ,u⟩:=f6 fE;clear a2 be fE;go_wp2_with fail;refine (az x.other A o ag _ (aG.later aP) (ao.later aP)).mono ?_;rintro e eA ⟨rfl,aW⟩;have b1:=hid (es aP aW);clear aW;go_wp2_with fail;go_ret;exact ⟨ret_bool (by rw [z.out,G];rfl),b1⟩
 by_cases b:x.op=5
 . have z:Hid (nR c k x=(gw c k x.body&&decide (Ln x.other=0))):=(if_neg a6).trans (if_pos b)
   go_enter func171,ntmps171;go_wp2_with fail;refine (az x.body A b7 bj _ (ad.later (fq _ _ _)) (ao.later (fq _ _ _))).mono ?_
   cases G:gw c k x.body with
   | false=>
     rintro e eC ⟨rfl,a2⟩;have aP:=hid (es (fq w _ _) a2);clear a2;go_wp2_with fail;go_ret;exact ⟨ret_bool (by rw [z.out,G];rfl),aP⟩
   | true=>
     rintro e eC ⟨rfl,a2⟩;have aP:=hid (es (fq w _ _) a2);have fE:=(a2.block (w.heap.size+1) (by simp)).trans (BB w _ _);obtain ⟨D,aZ,b6,bk,bm,a7,aJ,u⟩:=f6 fE;clear a2 fE
     by_cases a3:Ln x.other=0
     . go_wp2_with fail
       go_ret;exact ⟨ret_bool (by rw [z.out,G,decide_eq_true a3];rfl),aP⟩
     . have d:Ln x.other≠0:=a3
       have v:Hid (nR c k x=false):=by show _=_;rw [z.out,G,decide_eq_false a3];rfl
       clear a3;go_wp2_with fail;go_ret;exact ⟨ret_bool (by first | exact v.symm | (rw [v.out];first | (simp;omega) | (simp [*];done))),aP⟩
 . have z:Hid (nR c k x=(decide (Ln x.body=0)&&decide (Ln x.other=0))):=(if_neg a6).trans (if_neg b)
   by_cases Q:Ln x.body=0
   . by_cases a3:Ln x.other=0
     . have v:Hid (nR c k x=true):=by show _=_;rw [z.out,decide_eq_true a3,decide_eq_true Q];rfl
       go_enter func171,ntmps171;go_wp2_with fail;go_ret;exact ⟨ret_bool v.symm,fq _ _ _⟩
     . have d:Ln x.other≠0:=a3
       have v:Hid (nR c k x=false):=by show _=_;rw [z.out,decide_eq_false a3,decide_eq_true Q];rfl
       clear a3;go_enter func171,ntmps171;go_wp2_with fail;go_ret;exact ⟨ret_bool (by first | exact v.symm | (rw [v.out];first | (simp;omega) | (simp [*];done))),fq _ _ _⟩
   . have d:Ln x.body≠0:=Q
     have v:Hid (nR c k x=false):=by show _=_;rw [z.out,decide_eq_false Q];rfl
     clear Q;go_enter func171,ntmps171;go_wp2_with fail;go_ret;exact ⟨ret_bool v.symm,fq _ _ _⟩
theorem Ii (c:Ck) (s:ByteArray) (E:OA) (T:Nat) (ae:OA) (X:Nat) (H:OA) (f y3:Nat) (y:Value) (a:OA) (n I:Nat) (w:World) :
 ew 128 #[.agg #[.string s,.slice E c.uses T,em c.data,.slice ae (Ln c.parts) X,.slice H f y3,y,em c.locals],.slice a n I,em 7] w fun e r=>e = .returned (.bool false)/\et w r:=by
 go_enter func128,ntmps128;go_wp2_with fail;go_ret;exact ⟨rfl,ey _ _⟩
theorem Ij (c:Ck) (s:ByteArray) (E:OA) (T:Nat) (ae:OA) (X:Nat) (H:OA) (f y3:Nat) (y:Value) (a:OA) (n I:Nat) (m:Int) (w:World) (ez:m<=6) (U:10<n) (a8:n<=17592186044416) :
 ew 128 #[.agg #[.string s,.slice E c.uses T,em c.data,.slice ae (Ln c.parts) X,.slice H f y3,y,em c.locals],.slice a n I,em m] w fun e r=>e = .returned (.bool false)/\et w r:=by
 go_enter func128,ntmps128;go_wp2_with fail;go_ret;exact ⟨rfl,ey _ _⟩
def mG (c:Ck) (k:Nat) (x:eB):Bool:=fJ c x&&(gW c 6 x.args&&nR c k x)
theorem BG (c:Ck) (k:Nat) (l:List eB):gw c (k+1) l=(decide (Ln l<=10)&&l.all (mG c k)):=by
 rw [gw]
 rfl
theorem Ik (c:Ck) (s:ByteArray) (E:OA) (T:Nat) (ae:OA) (X:Nat) (H:OA) (f y3:Nat) (y:Value) (k:Nat) (N:k+1<=6) (aH:uD c (.agg #[.string s,.slice E c.uses T,em c.data,.slice ae (Ln c.parts) X,.slice H f y3,y,em c.locals]) k):uD c (.agg #[.string s,.slice E c.uses T,em c.data,.slice ae (Ln c.parts) X,.slice H f y3,y,em c.locals]) (k+1):=by
 intro K A a I m w ez ax a1;have bC:=ax.bound
 by_cases B:10<Ln K
 . have:gw c (k+1) K=false:=by rw [BG,decide_eq_false (by omega)];rfl
   rw [this];exact Ij c s E T ae X H f y3 y a (Ln K) I m w (by omega) B bC
 have d:Ln K<=10:=by omega
 have z:Hid (gw c (k+1) K=K.all (mG c k)):=by show _=_;rw [BG,decide_eq_true d];rfl
 have au:1<=m:=by omega
 have V:m<=6:=by omega
 have az:=hid (fun q A t bo b7 bj o ag w=>Ih c s E T ae X H f y3 y k (by omega) aH q A t bo b7 bj o ag (m+1) w (by omega));have aK:=hid ax;have ao:=hid a1;clear ax a1 ez B aH;go_enter func128,ntmps128;go_wp2_with fail
 go_loopw [18] (fun i wr=>∃ j:Nat,j<=Ln K/\i=em j/\(K.take j).all (mG c k)=true/\et w wr/\wr.heap[w.heap.size]? = some (.cells #[.string s,.slice E c.uses T,em c.data,.slice ae (Ln c.parts) X,.slice H f y3,y,em c.locals] 206)) (fun i _=>Ln K - (intOf i).toNat)
 case atStart=>exact ⟨0,eY _,rfl,rfl,ey _ _,eT _ _⟩
 case round=>
  obtain ⟨j,ac,rfl,aO,F,ab⟩:=hrel;obtain ⟨av,an,aD,aR,b3,q5,q6,aV⟩:=f6 ab;have ad:=hid F;have aN:=hid ab;have b8:=hid aO;clear aO ab F
  by_cases a0:j<Ln K
  . obtain ⟨b,C,t,bo,b7,bj,o,ag,rfl,Q⟩:=(aK.later ad).ac j a0
    have p:=hid (fun (h:mG c k K[j]=false)=>all_not K (mG c k) j a0 h);have P:=hid (fun (h:mG c k K[j]=true)=>(by rw [all_snoc K _ j a0,b8.out,h];rfl:(K.take (j+1)).all (mG c k)=true));obtain ⟨ap,af,x1',x2',aA,aj,al,O,hargs,hbody,hother,_,_,a8,a5⟩:=Q;have ak:=hargs.bound;have ar:=hid hargs;have ay:=hid hbody;have aQ:=hid hother;have aq:=hid a8;have g:=hid a5;clear hargs hbody hother a8 a5;generalize K[j]=q at *;go_wp2_with fail;refine (Id c s E T ae X H f y3 y q t bo b7 bj o ag _ (ao.later (es ad (ey _ _))) aq g ak).mono ?_
    cases G:fJ c q with
    | false=>
      rintro e eC ⟨rfl,a2⟩;have aP:=hid (es ad (es (ey _ _) a2));have n:=hid (p (by unfold mG;rw [G];rfl));clear a2;go_wp2_with fail;go_ret;exact ⟨ret_bool (by rw [z.out,n.out]),aP⟩
    | true=>
      rintro e eC ⟨rfl,a2⟩;have aP:=hid (es (ey wr _) a2);have be:=(aP.block _ (lt_of_heap aN)).trans aN;have fE:=(a2.block _ (by simp)).trans (eT wr (fV q.op q.n q.m q.at_ t (Ln q.args) bo b7 (Ln q.body) bj o (Ln q.other) ag));have Z:=hid be;have x:=hid fE;clear av an aD aR b3 q5 q6 aV af x1' x2' aA aj al O ap;obtain ⟨av,an,aD,aR,b3,q5,q6,aV⟩:=f6 be;obtain ⟨D,aZ,b6,bk,bm,a7,aJ,u⟩:=f6 fE;clear a2 be fE;go_wp2_with fail;refine (BF c s E T ae X H f y3 y 6 (by decide) q.args A t bo 1 _ (by decide) (ar.later aP) (ao.later (es ad aP))).mono ?_
      cases J:gW c 6 q.args with
      | false=>
        rintro e eA ⟨rfl,aW⟩;have b1:=hid (es (es ad aP) aW);have n:=hid (p (by unfold mG;rw [G,J];rfl));clear aW;go_wp2_with fail;go_ret;exact ⟨ret_bool (by rw [z.out,n.out]),b1⟩
      | true=>
        rintro e eA ⟨rfl,aW⟩;have b1:=hid (es aP aW);have be:=(aW.block _ (lt_of_heap Z)).trans Z;have fE:=(aW.block _ (lt_of_heap x)).trans x;have L:=hid be;clear av an aD aR b3 q5 q6 aV D aZ b6 bk bm a7 aJ u;obtain ⟨av,an,aD,aR,b3,q5,q6,aV⟩:=f6 be;obtain ⟨D,aZ,b6,bk,bm,a7,aJ,u⟩:=f6 fE;clear aW be fE;go_wp2_with fail;refine (az q A t bo b7 bj o ag _ (ay.later b1) (aQ.later b1) (ao.later (es ad b1))).mono ?_
        cases S:nR c k q with
        | false=>
          rintro e eJ ⟨rfl,b5⟩;have bb:=hid (es (es ad b1) b5);have n:=hid (p (by unfold mG;rw [G,J,S];rfl));clear b5;go_wp2_with fail;go_ret;exact ⟨ret_bool (by rw [z.out,n.out]),bb⟩
        | true=>
          rintro e eJ ⟨rfl,b5⟩;have bb:=hid (es (es ad b1) b5);have aa:=hid ((b5.block _ (lt_of_heap L)).trans L);have a4:=hid (P (by unfold mG;rw [G,J,S];rfl));clear b5;go_wp2_with fail;go_roundw
          case rel=>exact ⟨j+1,by omega,by go_num,a4,bb,aa⟩
          case measure=>simp [intOf];omega
  . have P:Hid (K.all (mG c k)=true):=kS b8 a0
    go_wp2_with fail;go_ret;exact ⟨ret_bool (by rw [z.out,P.out]),ad⟩
theorem xG (c:Ck) (s:ByteArray) (E:OA) (T:Nat) (ae:OA) (X:Nat) (H:OA) (f y3:Nat) (y:Value):∀ (k:Nat),k<=6->uD c (.agg #[.string s,.slice E c.uses T,em c.data,.slice ae (Ln c.parts) X,.slice H f y3,y,em c.locals]) k
 | 0,_=>fun K A a I m w ez _ _=>by
   obtain rfl:m=7:=by omega
   exact Ii c s E T ae X H f y3 y a (Ln K) I w
 | k+1,N=>Ik c s E T ae X H f y3 y k N (xG c s E T ae X H f y3 y k (by omega))
structure kV (w:World) (u:ga) (x1:OA) (y1:Nat) (x2:OA) (y2:Nat) (x3:OA) (y3:Nat):Prop where
 wn:u.name.size<=maxLen
 uses:eE w eV x1 (Ln u.uses) (fj u.uses)
 wd:(Lit.int .i64 u.data).wf=true
 parts:eE w eV x2 (Ln u.parts) (iI u.parts)
 main:eE w eV x3 (Ln u.main) (f9 u.main)
theorem kV.later {u:ga} (h:kV w u E T ae X H y3) (F:et w r):kV r u E T ae X H y3:=⟨h.wn,h.uses.later F,h.wd,h.parts.later F,h.main.later F⟩
theorem kV.mo {u:ga} (h:kV w u E T ae X H y3):hm w eV ⟨u.name,u.uses,[],[],[]⟩ (.agg #[.string u.name,.slice E (Ln u.uses) T,eu,eu,eu]) E T none 0 none 0 none 0:=
 ⟨rfl,h.wn,h.uses,⟨eD _,eY _,Or.inl rfl⟩,⟨eD _,eY _,Or.inl rfl⟩,⟨eD _,eY _,Or.inl rfl⟩⟩
theorem Il (u:ga) (E:OA) (T:Nat) (ae:OA) (X:Nat) (H:OA) (y3:Nat) (w:World) (d:kV w u E T ae X H y3) :
 ew 127 #[.agg #[.string u.name,.slice E (Ln u.uses) T,em u.data,.slice ae (Ln u.parts) X,.slice H (Ln u.main) y3]] w fun e r=>e = .returned (.bool (ie u))/\et w r:=by
 have ao:=hid (HX _ _ _ _ _ _ _ _ _ _ (w.alloc (g5 u.name E (Ln u.uses) T u.data ae (Ln u.parts) X H (Ln u.main) y3)) (d.later (ey _ _)).mo);have bG:=d.parts.bound;have bl:=hid d;clear d;have b2:Hid (ie u=(decide (j1 ⟨u.name,u.uses,[],[],[]⟩=0)&&(u.parts.all jJ&&(decide (0<=u.data/\u.data<=512)&&decide (Ln u.parts<=6))))):=rfl
 go_enter func127,ntmps127;go_wp2_with fail;refine ao.mono ?_;rintro e eq ⟨a3,ai⟩;have B:=hid (es (ey w _) ai);have g:=hid ((ai.block _ (by simp)).trans (eT w (g5 u.name E (Ln u.uses) T u.data ae (Ln u.parts) X H (Ln u.main) y3)));have b0:=lt_of_heap g;unfold xC at a3;clear ai ao
 rcases a3 with ⟨a1,rfl⟩ | ⟨a1,af,cf,rfl,_⟩
 . have p:Hid (ie u=false):=by show _=_;rw [b2.out,decide_eq_false a1];rfl
   generalize j1 ⟨u.name,u.uses,[],[],[]⟩=z at *;go_wp2_with fail;go_ret;exact ⟨ret_bool (by first | exact p.symm | (rw [p.out];first | (simp;omega) | (simp [*];done))),es B (ey _ _)⟩
 . have k : Hid (ie u=(u.parts.all jJ&&(decide (0<=u.data/\u.data<=512)&&decide (Ln u.parts<=6)))):=by show _=_;rw [b2.out,decide_eq_true a1];rfl
   generalize uB ⟨u.name,u.uses,[],[],[]⟩=sh at *;obtain ⟨av,an,aD,aR,b3,_⟩:=fi g;clear a1 b2;go_wp2_with fail
   go_loopw [21] (fun i wr=>∃ j:Nat,j<=Ln u.parts/\i=em j/\(u.parts.take j).all jJ=true/\et w wr/\wr.heap[w.heap.size]? = some (g5 u.name E (Ln u.uses) T u.data ae (Ln u.parts) X H (Ln u.main) y3)) (fun i _=>Ln u.parts - (intOf i).toNat)
   case atStart=>exact ⟨0,eY _,rfl,rfl,es B (ey _ _),fF g⟩
   case round=>
    clear av an aD aR b3;obtain ⟨j,ac,rfl,aO,F,ab⟩:=hrel;obtain ⟨av,an,aD,aR,b3,_⟩:=fi ab;have aV:=lt_of_heap ab;have ad:=hid F;have aN:=hid ab;have b8:=hid aO;clear aO ab F
    by_cases a0:j<Ln u.parts
    . obtain ⟨b,C,b7,bj,rfl,Q⟩:=((bl.later ad).parts).pt j a0
      have p:=hid (fun (h:jJ u.parts[j]=false)=>(by rw [k.out,all_not u.parts jJ j a0 h];rfl:ie u=false));have P:=hid (fun (h:jJ u.parts[j]=true)=>(by rw [all_snoc u.parts _ j a0,b8.out,h];rfl:(u.parts.take (j+1)).all jJ=true));obtain ⟨ap,a6,be,fE,_,_,_⟩:=Q;generalize u.parts[j]=y at *
      by_cases l:y.params<0
      . have n:=hid (p (by unfold jJ;rw [decide_eq_false (by omega)];rfl))
        go_wp2_with fail;go_ret;exact ⟨ret_bool (by first | exact n.symm | (rw [n.out];first | (simp;omega) | (simp [*];done))),es ad (ey _ _)⟩
      have I:0<=y.params:=by omega
      by_cases O:3<y.params
      . have n:=hid (p (by unfold jJ;rw [decide_eq_false (by omega)];rfl))
        clear l;go_wp2_with fail;go_ret;exact ⟨ret_bool (by first | exact n.symm | (rw [n.out];first | (simp;omega) | (simp [*];done))),es ad (ey _ _)⟩
      have R:y.params<=3:=by omega
      by_cases ak:y.locals<0
      . have n:=hid (p (by unfold jJ;rw [decide_eq_true ⟨I,R⟩,decide_eq_false (by omega)];rfl))
        clear l O;go_wp2_with fail;go_ret;exact ⟨ret_bool (by first | exact n.symm | (rw [n.out];first | (simp;omega) | (simp [*];done))),es ad (ey _ _)⟩
      have c:0<=y.locals:=by omega
      by_cases a:4<y.locals
      . have n:=hid (p (by unfold jJ;rw [decide_eq_true ⟨I,R⟩,decide_eq_false (by omega)];rfl))
        clear l O ak;go_wp2_with fail;go_ret;exact ⟨ret_bool (by first | exact n.symm | (rw [n.out];first | (simp;omega) | (simp [*];done))),es ad (ey _ _)⟩
      have f:y.locals<=4:=by omega
      have a4:=hid (P (by unfold jJ;rw [decide_eq_true ⟨I,R⟩,decide_eq_true ⟨c,f⟩];rfl));clear l O ak a;go_wp2_with fail;go_roundw
      case rel=>exact ⟨j+1,by omega,by go_num,a4,es ad (ey _ _),fF aN⟩
      case measure=>simp [intOf];omega
    . have A:Hid (ie u=(decide (0<=u.data/\u.data<=512)&&decide (Ln u.parts<=6))):=by show _=_;rw [k.out,kS b8.out a0];rfl
      by_cases l:0<=u.data
      . by_cases O:u.data<=512
        . by_cases ak:Ln u.parts<=6
          . have z:Hid (ie u=true):=by show _=_;rw [A.out,decide_eq_true ⟨l,O⟩,decide_eq_true ak];rfl
            go_wp2_with fail;go_ret;exact ⟨ret_bool (by first | exact z.symm | (rw [z.out];first | (simp;omega) | (simp [*];done))),ad⟩
          . have z:Hid (ie u=false):=by show _=_;rw [A.out,decide_eq_true ⟨l,O⟩,decide_eq_false ak];rfl
            have c:6<Ln u.parts:=by omega
            clear ak;go_wp2_with fail;go_ret;exact ⟨ret_bool (by first | exact z.symm | (rw [z.out];first | (simp;omega) | (simp [*];done))),ad⟩
        . have z:Hid (ie u=false):=by show _=_;rw [A.out,decide_eq_false (by omega)];rfl
          have R:512<u.data:=by omega
          clear O;go_wp2_with fail;go_ret;exact ⟨ret_bool z.symm,ad⟩
      . have z:Hid (ie u=false):=by show _=_;rw [A.out,decide_eq_false (by omega)];rfl
        have I:u.data<0:=by omega
        clear l;go_wp2_with fail;go_ret;exact ⟨ret_bool z.symm,ad⟩
theorem xH {u:ga} (h:ie u=true):0<=u.data/\u.data<=512:=by
 unfold ie at h;simp only [fs,decide_eq_true_eq] at h;exact h.2.2.1
theorem Im {u:ga} (h:ie u=true) (j:Nat) (ac:j<Ln u.parts):(0<=u.parts[j].params/\u.parts[j].params<=3)/\0<=u.parts[j].locals/\u.parts[j].locals<=4:=by
 unfold ie at h;simp only [fs,decide_eq_true_eq,hJ] at h;have:=h.2.1 u.parts[j] (fO ac);unfold jJ at this;simpa only [fs,decide_eq_true_eq] using this
theorem Io (u:ga) (c a:Int->Int->Int->Bool) (E:OA) (T:Nat) (ae:OA) (X:Nat) (H:OA) (y3:Nat) (o:TypeId) (q:Value) (w:World) (d:kV w u E T ae X H y3)
 (a1:ie u=true->∀ (l:Int) (M:World),et w M->m8 M (hT u c a l) (.agg #[.string u.name,.slice E (Ln u.uses) T,em u.data,.slice ae (Ln u.parts) X,.slice H (Ln u.main) y3,.iface o q,em l])) :
 ew 77 #[.agg #[.string u.name,.slice E (Ln u.uses) T,em u.data,.slice ae (Ln u.parts) X,.slice H (Ln u.main) y3],.iface o q] w fun e r=>e = .returned (.bool (ji u c a))/\et w r:=by
 have S:=hid (Il u E T ae X H y3 (w.alloc (g5 u.name E (Ln u.uses) T u.data ae (Ln u.parts) X H (Ln u.main) y3)) (d.later (ey _ _)));have bG:=d.parts.bound;have bl:=hid d;have ao:=hid a1;have b2:Hid (ji u c a=(ie u&&(u.parts.all (fun y=>gw (hT u c a (y.params+y.locals)) 6 y.body)&&gw (hT u c a 0) 6 u.main))):=rfl;clear d a1;go_enter func77,ntmps77;go_wp2_with fail;refine S.mono ?_
 cases m:ie u with
 | false=>
   rintro e eq ⟨rfl,ai⟩;have B:=hid (es (ey w _) ai)
   have z:Hid (ji u c a=false):=by show _=_;rw [b2.out,m];rfl
   clear ai;go_wp2_with fail;go_ret;exact ⟨ret_bool z.symm,B⟩
 | true =>
   rintro e eq ⟨rfl,ai⟩;have B:=hid (es (ey w _) ai);have g:=hid ((ai.block _ (by simp)).trans (eT w (g5 u.name E (Ln u.uses) T u.data ae (Ln u.parts) X H (Ln u.main) y3)));have f:=hid (ao m);have s:=hid m
   have k:Hid (ji u c a=(u.parts.all (fun y=>gw (hT u c a (y.params+y.locals)) 6 y.body)&&gw (hT u c a 0) 6 u.main)):=by show _=_;rw [b2.out,m];rfl
   obtain ⟨av,an,aD,aR,b3,_⟩:=fi g;have aV:=lt_of_heap g;clear ai ao b2 S m;go_wp2_with fail
   go_loopw [14] (fun i wr=>∃ j:Nat,j<=Ln u.parts/\i=em j/\(u.parts.take j).all (fun y=>gw (hT u c a (y.params+y.locals)) 6 y.body)=true/\et w wr/\wr.heap[w.heap.size]? = some (g5 u.name E (Ln u.uses) T u.data ae (Ln u.parts) X H (Ln u.main) y3)) (fun i _=>Ln u.parts - (intOf i).toNat)
   case atStart=>exact ⟨0,eY _,rfl,rfl,B,g⟩
   case round=>
    clear av an aD aR b3 aV;obtain ⟨j,ac,rfl,aO,F,ab⟩:=hrel;obtain ⟨av,an,aD,aR,b3,_⟩:=fi ab;have aV:=lt_of_heap ab;have ad:=hid F;have aN:=hid ab;have b8:=hid aO;clear aO ab F
    by_cases a0:j<Ln u.parts
    . obtain ⟨b,C,b7,bj,rfl,Q⟩:=((bl.later ad).parts).pt j a0
      have p:=hid (fun (h:gw (hT u c a (u.parts[j].params+u.parts[j].locals)) 6 u.parts[j].body=false)=>(by rw [k.out,all_not u.parts (fun y=>gw (hT u c a (y.params+y.locals)) 6 y.body) j a0 h];rfl:ji u c a=false));have P:=hid (fun (h:gw (hT u c a (u.parts[j].params+u.parts[j].locals)) 6 u.parts[j].body=true)=>(by rw [all_snoc u.parts _ j a0,b8.out,h];rfl:(u.parts.take (j+1)).all (fun y=>gw (hT u c a (y.params+y.locals)) 6 y.body)=true));obtain ⟨⟨ax,bf⟩,aQ,bn⟩:=Im s j a0;obtain ⟨ap,a6,be,fE,bw,_,_⟩:=Q;have ay:=hid bw;clear bw;generalize u.parts[j]=y at *;go_wp2_with fail;refine (xG (hT u c a (y.params+y.locals)) u.name E T _ X H (Ln u.main) y3 (.iface o q) 6 (by decide) y.body eV b7 bj 1 _ (by decide) (ay.later (fq _ _ _)) (f (y.params+y.locals) _ (es ad (fq _ _ _)))).mono ?_
      cases G:gw (hT u c a (y.params+y.locals)) 6 y.body with
      | false=>
        rintro e eC ⟨rfl,a2⟩;have aP:=hid (es ad (es (fq _ _ _) a2));have n:=hid (p G);clear a2;go_wp2_with fail;go_ret;exact ⟨ret_bool (by first | exact n.symm | (rw [n.out];first | (simp;omega) | (simp [*];done))),aP⟩
      | true=>
        rintro e eC ⟨rfl,a2⟩;have aP:=hid (es (fq wr _ _) a2);have Z:=hid ((aP.block _ (lt_of_heap aN)).trans aN);have a4:=hid (P G);clear a2;go_wp2_with fail;go_roundw
        case rel=>exact ⟨j+1,by omega,by go_num,a4,es ad aP,Z⟩
        case measure=>simp [intOf];omega
    . have z:Hid (ji u c a=gw (hT u c a 0) 6 u.main):=by show _=_;rw [k.out,kS b8.out a0];rfl
      go_wp2_with fail;refine (xG (hT u c a 0) u.name E T ae X H (Ln u.main) y3 (.iface o q) 6 (by decide) u.main eV H y3 1 _ (by decide) (bl.later ad).main (f 0 _ ad)).mono ?_;rintro e eC ⟨rfl,a2⟩;have aP:=hid (es ad a2);clear a2;go_wp2_with fail;go_ret;exact ⟨ret_bool z.symm,aP⟩
theorem Ip:laidOutB prog=true:=by kernel_rfl
theorem Iq:prog.keyType 244=true:=by kernel_rfl
theorem xI:Keyed prog 244:=Keyed.of_law (deep_law_laid Ip (m:=3) (by decide) (of_decide_eq_true (by kernel_rfl)) (by kernel_rfl) (by kernel_rfl))
def pF (s u:ByteArray):Lit:=.string (keyBytes [.string s.data.toList,.string u.data.toList])
theorem uE (s u:ByteArray) (G:s.size<=maxLen) (J:u.size<=maxLen):keyOf prog 244 (.agg #[.string s,.string u])=some (pF s u):=by
 have ag:(Value.agg #[.string s,.string u]).formed prog 244=true:=by kernel_rfl
 have a2:prog.keyLits (prog.types.size+1) 244 (Value.agg #[.string s,.string u]).cells.toList=some [.string s.data.toList,.string u.data.toList]:=by
  have a3:0<prog.types.size:=of_decide_eq_true (by kernel_rfl)
  obtain ⟨k,N⟩:∃ k,prog.types.size=k+1:=⟨prog.types.size - 1,by omega⟩
  rw [N]
  have Z:∀ s:ByteArray,s.size<=maxLen->prog.keyLits (k+1) 9 [.string s]=some [.string s.data.toList]:=fun s h=>by
   unfold Program.keyLits;rw [Tryz.underlying9];exact if_pos h
  have e:(Value.agg #[.string s,.string u]).cells.toList=[.string s,.string u]:=rfl
  have a4:prog.cellsOf 244=2:=by kernel_rfl
  have L:prog.cellsOf 9=1:=by kernel_rfl
  rw [e];unfold Program.keyLits;rw [Tryz.underlying244];simp [a4,L,Z s G,Z u J]
 unfold keyOf;rw [Tryz.underlying244];simp only [Iq,ag,a2]
 rfl
theorem Ir {a b c d:ByteArray} (G:a.size<=maxLen) (J:b.size<=maxLen) (S:c.size<=maxLen) (a6:d.size<=maxLen) (h:¬ (a=c/\b=d)):pF a b≠pF c d:=fun e=>by
 have ak:=uE a b G J;have au:=uE c d S a6;rw [← e] at au;have:=xI.inj ak au
 injection this with this
 have:=congrArg Array.toList this;simp at this;exact h this
def qC (K:Kn) (s u:ByteArray) (x:Mg):Kn:=fun a b=>if a=s/\b=u then some x else K a b
def uF (D:DataW Value) (K:Kn):Prop:=∀ a b:ByteArray,a.size<=maxLen->b.size<=maxLen->has D (pF a b)=(K a b).isSome/\D.atKey (pF a b) (.held hf.val) = .held ((K a b).getD hf).val
theorem uF.put {D:DataW Value} (h:uF D K) (ax:IsMap D) (s u:ByteArray) (G:s.size<=maxLen) (J:u.size<=maxLen) (x:Mg):uF (D.put (pF s u) (.held x.val)) (qC K s u x):=by
 intro a b ab F
 by_cases e:a=s/\b=u
 . obtain ⟨rfl,rfl⟩:=e
   simp only [qC,and_self,if_true];exact ⟨has_put_same (k:=pF a b) ax trivial _,atKey_put_same (k:=pF a b) ax trivial _ _⟩
 . have aV:=Ir ab F G J e
   simp only [qC,if_neg e];rw [has_put_other aV,atKey_put_other aV];exact h a b ab F
def iW (w:World) (b n:Nat) (K:Kn):Prop:=∃ D,w.ownsMap prog 244 pv b n D/\uF D K
theorem iW.lt (h:iW w b n K):b<w.heap.size:=by obtain ⟨D,G,_⟩:=h;exact G.lt
theorem iW.block (h:iW w b n K) (F:r.heap[b]? = w.heap[b]?):iW r b n K:=by
 obtain ⟨D,G,J⟩:=h;obtain ⟨t,clock,aJ,O⟩:=G;exact ⟨D,⟨t,clock,F.trans aJ,O⟩,J⟩
theorem iW.later (h:iW w b n K) (F:et w r):iW r b n K:=h.block (F.block b h.lt)
theorem iW.made (w:World):iW (w.alloc (.map #[] 0)) w.heap.size 0 (fun _ _=>none):=⟨.map [],r1 w _ _ _,fun _ _ _ _=>⟨rfl,rfl⟩⟩
theorem Is (w:World):(zeroValue 242).run prog w = .ok hf.val w:=by kernel_rfl
theorem iW.known (h:iW w b n K):jg w (.map (some b)) K:=by
 intro r F s u G J;obtain ⟨D,ak,au⟩:=h.later F;obtain ⟨v,H,hrun,a7⟩:=ak.look_ok xI Tryz.underlying187 (Is r) (zd:=.held hf.val) (zp:=[]) rfl (uE s u G J);rw [(au s u G J).2] at a7;simp only [pv,kR,rq,sw] at a7;rw [hrun,a7.1,(au s u G J).1]
theorem iW.put (h:iW w b n K) (U:n<maxLen) (s u:ByteArray) (G:s.size<=maxLen) (J:u.size<=maxLen) (x:Mg) :
 ∃ r,(Instr.mapUpdate 187 (.map (some b)) (.agg #[.string s,.string u]) x.val).run prog w = .ok () r/\iW r b (n+1) (qC K s u x)/\w.grownBy r (some b):=by
 obtain ⟨D,ak,au⟩:=h;obtain ⟨r,b2,bi,bt⟩:=ak.update xI Tryz.underlying187 U (uE s u G J) (val:=x.val) (d:=.held x.val) (ps:=[]) rfl;exact ⟨r,b2,⟨_,bi,au.put ak.isMap s u G J x⟩,bt⟩
theorem eI.grown {R:Nat} {eq w2:World} (h:eI R w eq) (af:eq.grownBy w2 (some R)):eI R w w2:=
 h.trans ⟨af.os,af.tape,af.output,af.size,fun k G J=>af.block k G (fun e=>J (fe e))⟩
def sL (m:Int) (i:It):Mg:=⟨i.kind,i.n,m,i.at_⟩
def lU (K:Kn) (s:ByteArray) (m:Int) (l:List It):Kn:=l.foldl (fun K i=>qC K s i.name (sL m i)) K
theorem Iu (K:Kn) (s:ByteArray) (m:Int) (l:List It) (i:It):lU K s m (l++[i])=qC (lU K s m l) s i.name (sL m i):=by
 unfold lU;rw [mS];rfl
theorem BH (K:Kn) (b n:Nat) (s:ByteArray) (c:Int) (l:List It) (a:OA) (I:Nat) (w:World) (aA:iW w b n K) (a8:s.size<=maxLen) (t:Fx.zcy w a l) (br:Fx.AllFit l) (a2:Ln l<=1000) (U:n<=1000) (v:∀ bA C,l≠[]->a=some (ep bA C)->bA≠b) :
 ew 119 #[.agg #[.map (some b)],.string s,em c,.slice a (Ln l) I] w fun e r=>e = .returned (.tuple #[])/\iW r b (n+Ln l) (lU K s c l)/\eI b w r:=by
 have az:=hid t;have p:=hid br;have a6:=hid aA;have k:=hid v;have bk:=aA.lt;clear t br aA v;go_enter func119,ntmps119;go_wp2_with fail
 go_loopw [9,12] (fun _ i wr=>∃ j:Nat,j<=Ln l/\i=em j/\iW wr b (n+j) (lU K s c (l.take j))/\wr.heap[w.heap.size]? = some (.cells #[.map (some b)] 189)/\eI b w wr) (fun _ i _=>Ln l - (intOf i).toNat)
 case atStart=>exact ⟨0,eY _,rfl,a6.later (ey _ _),eT _ _,(eI.refl _ _).alloc _⟩
 case round=>
  obtain ⟨j,ac,rfl,N,hbx,aa⟩:=hrel;have d:=hid N;have aN:=hid hbx;have aH:=hid aa;have bN:=aa.size;have u:=lt_of_heap hbx;clear N aa
  by_cases a0:j<Ln l
  . obtain ⟨V,C,rfl,ap,bh,a9,a4,c3⟩:=az.place a0
    have aV:=k V C (fun h=>by rw [h] at a0;simp at a0) rfl;have b5:=(aH.cell (C:=C+j*4) ap aV).trans bh;have aL:=(aH.cell (C:=C+j*4+1) ap aV).trans a9;have aU:=(aH.cell (C:=C+j*4+2) ap aV).trans a4;have bd:=(aH.cell (C:=C+j*4+3) ap aV).trans c3;have m:V<wr.heap.size:=gl ap bN;have bu:=p l[j] (fO _)
    have ab:Hid (qC (lU K s c (l.take j)) s l[j].name (sL c l[j])=lU K s c (l.take (j+1))):=by
     show _=lU K s c (l.take (j+1));rw [hI a0,Iu]
    generalize l[j]=q at *;obtain ⟨w2,hrun,g,f⟩:=(d.later (ey _ (kq q.kind q.n q.at_ q.name))).put (by unfold maxLen;omega) s q.name a8 bu (sL c q);simp only [Mg.val,sL] at hrun;rw [ab.out] at g;have X:=hid g;have bG:=hid ((aH.alloc _).grown f);have y:Hid (w2.heap[w.heap.size]? = some (.cells #[.map (some b)] 189)):=(f.block _ (by simp;omega) (fun e=>by have:=fe e;omega)).trans (fF aN)
    have ag:wr.cell? (ep w.heap.size 0)=some (.map (some b)):=by rw [fU aN.out];rfl
    clear bh a9 a4 c3 g f hbx bu;go_wp2_with fail;go_roundw
    case rel=>exact ⟨j+1,by omega,by go_num,by rw [← kd];exact X,y,bG⟩
    case measure=>simp [intOf];omega
  . obtain rfl:j=Ln l:=by omega
    have o:Hid (iW wr b (n+Ln l) (lU K s c l)):=by have:=d.out;rw [iA] at this;exact this
    clear hbx;go_wp2_with fail;go_end0;exact ⟨rfl,o,aH⟩
end Go.Proofs.YtndkhgakfodldaaGreatDoor
