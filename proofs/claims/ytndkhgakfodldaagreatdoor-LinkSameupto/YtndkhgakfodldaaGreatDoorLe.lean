import Derived.Test.YtndkhgakfodldaaGreatDoorLa
import Derived.Test.YtndkhgakfodldaaGreatDoorRb
set_option maxRecDepth 100000
set_option maxHeartbeats 12800000
set_option linter.unusedSimpArgs false
set_option linter.unusedVariables false
open Go.Proofs.Tryz
namespace Go.Proofs.YtndkhgakfodldaaGreatDoor
open Go.RowKit Go.Maps Go.Sort Go.WideMaps
variable {B q j n sz:Nat} {c:List eK} {e:TypeId} {l:List dP} {o:dP} {v:Value} {w:World} {ao:List Value}
def t7 (l:List dP) (j:Nat):eK:=match l[j]? with | some o=>⟨13,(l.length:Int)+1+hx (l.take j)+o.main,0⟩ | none=>⟨0,0,0⟩
def jT (l:List dP) (j:Nat):List eK:=(List.range j).map (t7 l)
theorem Ao (l:List dP) (j:Nat):jT l (j+1)=jT l j++[t7 l j]:=by unfold jT;rw [xv,j2];rfl
theorem sJ (l:List dP) (j:Nat):(jT l j).length=j:=by simp [jT]
theorem t8 (h:j<l.length):t7 l j=⟨13,(l.length:Int)+1+hx (l.take j)+l[j].main,0⟩:=by unfold t7;rw [ew h]
theorem rp (Z:(hY l).Nodup) (h:j<l.length):hA l l[j].name.data.toList l.length=some j:=by
 have F:=wz (l:=l) l[j].name.data.toList l.length (dA _);rw [gu] at F
 have a1:(hY l).contains l[j].name.data.toList=true:=by
  rw [uQ];exact ig.2 ⟨l[j],eb h,rfl⟩
 rw [a1] at F;obtain ⟨i,V⟩:=Option.isSome_iff_exists.1 F;obtain ⟨_,ac,ar⟩:=tZ _ _ _ (dA _) V;rw [V]
 have aJ:(hY l)[i]'(by rw [tY];exact ac)=(hY l)[j]'(by rw [tY];exact h):=by simpa [hY] using ar
 rw [(List.getElem_inj Z).1 aJ]
theorem FV (a b c d:Value):∀ w:World,(Instr.field 227 (.agg #[a,b,c,d]) 1).run prog w = .ok b w:=fun _=>by kernel_rfl
structure Ap (l:List dP):Prop where
 main:∀ o ∈ l,0<=o.main/\o.main<=4096
 once:(hY l).Nodup
theorem FW (l:List dP) (y:Nat->Value) (a:OA) (q an:Nat) (w:World) (b6:kY w a l y) (aw:od l) (bC:hZ w an l y l.length) (a7:Ap l) :
 dw 103 #[.slice a l.length q,.map (some an)] w fun e G=>∃ v,e = .returned v/\G.ownsRow w.heap.size 69 3 v (l.length+1) (fw (jT l l.length++[⟨20,0,0⟩]))/\dm w G:=by
 have bK:=b6.bound;have aa:=aw.1;have P:=hid b6;have A:=hid bC;have aV:=hid aw;have a0:=hid a7;clear b6 bC aw a7;go_enter func103,ntmps103;go_wp2_with fail
 go_loopw [5,7,10] (fun c _ i wr=>∃ j:Nat,j<=l.length/\i=di j/\wr.ownsRow w.heap.size 69 3 c j (fw (jT l j))/\dm w wr) (fun _ _ i _=>l.length - (intOf i).toNat)
 case atStart=>exact ⟨0,dY _,rfl,jU _ _ _ _,Below.refl _ _⟩
 case round=>
  obtain ⟨j,a2,rfl,b5,I⟩:=hrel;obtain ⟨a8,aB,rfl, -, -⟩:=hS b5;have br:=hid b5;have ag:=hid I;clear b5
  by_cases ac:j<l.length
  . obtain ⟨p,C,a4,ad,a5,bi,ax,b4,aG,bx,rfl,b8,bt,ah,ae,c3,K,av,aW,ap, -, -⟩:=(P.later I).get j ac
    have b:=ap.wn
    obtain ⟨g,E⟩:∃ g,g=wr.alloc (iP l[j].name a4 l[j].uses.length ad l[j].data a5 l[j].code.length bi ax l[j].fixes.length b4 aG l[j].entries.length bx l[j].main):=⟨_,rfl⟩
    have Y:dm wr g:=Qg
    have h:g.heap[wr.heap.size]? = some (iP l[j].name a4 l[j].uses.length ad l[j].data a5 l[j].code.length bi ax l[j].fixes.length b4 aG l[j].entries.length bx l[j].main):=Qh
    have bM:g.heap.size=wr.heap.size+1:=by rw [E];simp
    have aZ:=hid E;have bj:=I.size;have aY:=(A.later (dp I Y)).look b;rw [rp a0.out.once ac] at aY;simp only [Option.elim,io] at aY;have bI:=hid (ownsRow_later br Y);have bv:=hid (dp I Y);have af:=hid (t8 ac)
    have bg:=(ni aV j N7)
    obtain ⟨H,aq⟩:=a0.main l[j] (eb ac);have n:=lt_of_heap h
    have bP:∃ bf be b9 bm bk bO,g.heap[wr.heap.size]? = some (.cells #[.string l[j].name,be,b9,bm,bk,bO,di l[j].main] 62)/\bf=0:=⟨0,_,_,_,_,_,h,rfl⟩
    generalize d:y j=ej at *;generalize bF:l[j].name=s at *;generalize k:l[j].main=mn at *;generalize hx (l.take j)=aH at *;generalize g9 (l.take j)=f at *
    have aE:IntKind.i64.wrap ((l.length:Int)+1+aH+mn)=(l.length:Int)+1+aH+mn:=Oj
    have D:=FV (di j) (di ((l.length:Int)+1+aH)) (di f) ej;clear Y E I;go_upto_region 5 with fail;rw [← aZ.out];obtain ⟨bE,aT,aU,bh,a3,bp,bL,_⟩:=fi h;clear h bt ah ae c3 K av aW ap bP
    go_wp2_with (at_builtin;refine tC rfl (.tmp 14) (.tmp 24) 59 rfl w.heap.size 69 _ 3 24 Tryz.underlying59 Tryz.infoInstr rfl N9 g (.slice a8 j aB) j (fw (jT l j)) rfl bI #[di 13,di ((l.length:Int)+1+aH+mn),di 0] _ bM.symm rfl rfl (tB ⟨13,_,0⟩) N7 N9 N7 _ rfl ?_;intro al R dk ap;have bR:=hid ap;have m:=ap.size;clear ap aY D bE aT aU bh a3 bp bL)
    go_wp2_with fail;go_roundw
    case rel=>exact ⟨j+1,N7,Ou,by rw [Ao,af.out,yI];exact bR.own,bv.trans bR.below⟩
    case measure=>simp [intOf];omega
  . obtain rfl:j=l.length:=by omega
    have bj:=I.size;clear I
    go_wp2_with (at_builtin;refine tC rfl (.tmp 27) (.tmp 29) 59 rfl w.heap.size 69 _ 3 24 Tryz.underlying59 Tryz.infoInstr rfl N9 wr (.slice a8 l.length aB) l.length (fw (jT l l.length)) rfl br #[di 20,di 0,di 0] _ rfl rfl rfl (tB ⟨20,0,0⟩) N7 N9 N7 _ rfl ?_;intro al R dk ap;have bR:=hid ap;clear ap)
    go_wp2_with fail;go_ret;exact ⟨_,rfl,by rw [yI];exact bR.own,ag.trans bR.below⟩
theorem ua (b C j:Nat):((dj b C):Addr).add j=⟨b,C+j,none⟩:=On
theorem ub {α:Type} (f:α->List Value) (n:Nat) (Y:∀ x,(f x).length=n):∀ (l:List α) (i:Nat) (h:i<l.length) (j:Nat),j<n->(l.flatMap f)[i*n+j]? = (f l[i])[j]?
 | [],i,h,_,_=>Pq
 | x :: r,0,_,j,a2=>by
   have:=Y x;rw [ki,gF,fY,kh N7]
   rfl
 | x :: r,i+1,h,j,a2=>by
   have:=Y x;rw [ki,lC (by rw [Nat.add_mul];omega),nD,← ub f n Y r i OU j a2]
   congr 1
   rw [Nat.add_mul];omega
theorem Aq (w:World) (y:Nat) (d:TypeId) (v:Value) (ao:List eK) (T:w.ownsRow y 69 3 v ao.length (fw ao)) (a:OA) (q:Nat) (b:List eK) (an:b.length≠0->∃ p C,a=some (dj p C)/\∀ j (h:j<b.length),w.cell? ⟨p,C+j*3,none⟩=some (di b[j].op)/\w.cell? ⟨p,C+j*3+1,none⟩=some (di b[j].a)/\w.cell? ⟨p,C+j*3+2,none⟩=some (di b[j].b)) (I:ao.length+b.length<=4194304) (L:y<=w.heap.size) :
 ∃ aa G,(Builtin.append_ #[59,59] d #[v,.slice a b.length q]).run prog w = .ok aa G/\G.ownsRow y 69 3 aa (ao.length+b.length) (fw (ao++b))/\w.grownBy G v.ownBlock/\(aa.ownBlock=v.ownBlock\/aa.ownBlock=some w.heap.size):=by
 obtain ⟨aY,V,a9,ba,bA⟩:=info_parts Tryz.infoInstr
 have A:∀ H:Addr,(∀ j (u:Value),(fw b)[j]? = some u->w.cell? (H.add j)=some u)->∃ aa G,(Builtin.append_ #[59,59] d #[v,.slice (some H) b.length q]).run prog w = .ok aa G/\G.ownsRow y 69 3 aa (ao.length+b.length) (fw (ao++b))/\w.grownBy G v.ownBlock/\(aa.ownBlock=v.ownBlock\/aa.ownBlock=some w.heap.size):=by
  intro H W
  obtain ⟨aa,G,Q,J,U,_,aB⟩:=run_append_own_at (P:=prog) w y 59 d 69 aY _ 3 24 Tryz.underlying59 V a9 ba bA rfl N7 v ao.length _ T H b.length q (fw b) (Dx b) W
   (fun u aL=>by unfold fw at aL;obtain ⟨i,_,h⟩:=List.mem_flatMap.1 aL;exact tB i u h) (by simp only [maxLen];omega) N7 L
  refine ⟨aa,G,Q,?_,U,aB⟩
  have:fw (ao++b)=fw ao++fw b:=by simp [fw]
  rw [this];exact J
 by_cases ab:b.length≠0
 . obtain ⟨p,C,rfl,W⟩:=an ab
   refine A (dj p C) (fun j u aL=>?_)
   have a2:j<b.length*3:=by rw [← Dx];exact (pu.1 aL).1
   have U:j=j / 3*3+j % 3:=N7
   have c:j / 3<b.length:=N7
   obtain ⟨bE,aT,aU⟩:=W (j / 3) c;rw [ua];have ak:(fw b)[j / 3*3+j % 3]? = (ks b[j / 3])[j % 3]?:=ub ks 3 (fun _=>rfl) b (j / 3) c (j % 3) N7;rw [← U,aL] at ak
   have a1:j % 3=0\/j % 3=1\/j % 3=2:=N7
   rcases a1 with h | h | h
   . rw [h] at ak;cases ak
     rw [show C+j=C+j / 3*3 by omega];exact bE
   . rw [h] at ak;cases ak
     rw [show C+j=C+j / 3*3+1 by omega];exact aT
   . rw [h] at ak;cases ak
     rw [show C+j=C+j / 3*3+2 by omega];exact aU
 . have a4:b=[]:=hF N7
   subst a4
   cases a with
   | some H=>exact A H (fun j u h=>by simp [fw] at h)
   | none=>
     refine ⟨v,w,?_,by rw [qD];exact T,⟨rfl,rfl,rfl,dA _,fun _ _ _=>rfl⟩,Or.inl rfl⟩
     rcases T.2 with ⟨rfl,_⟩ | ⟨al,R,o,rfl,_,ak,Z,_⟩
     . simp [Builtin.append_,run_underlying Tryz.underlying59,sizeOf,typeInfo,V,Builtin.lenOf,Builtin.firstCells]
     . simp [Builtin.append_,run_underlying Tryz.underlying59,sizeOf,typeInfo,V,Builtin.lenOf,Builtin.firstCells,loadCells,storeCells,Z]
def nj (l:List dP) (o:dP) (f:gd):Int:=jk f.kind (jy o f.at_) ((l.length:Int)+1+hx (l.take (fH l o f.m))) (g9 (l.take (fH l o f.m))) (kA l (fH l o f.m))
def gO (l:List dP) (o:dP):Nat->List eK
 | 0=>o.code
 | j+1=>match o.fixes[j]? with
   | some f=>(gO l o j).modify f.at_.toNat (jM (nj l o f))
   | none=>gO l o j
theorem og (l:List dP) (o:dP):∀ j,(gO l o j).length=o.code.length
 | 0=>rfl
 | j+1=>by
   rw [gO];split
   . rw [List.length_modify];exact og l o j
   . exact og l o j
theorem uc (l:List dP) (o:dP) (h:j<o.fixes.length):gO l o (j+1)=(gO l o j).modify o.fixes[j].at_.toNat (jM (nj l o o.fixes[j])):=by
 rw [gO,ew h]
theorem FX (o:dP) (h:j<o.fixes.length):m8 o (j+1)=o.fixes[j].at_:=by rw [m8,ew h]
theorem Ar (h:fD o=0) (a2:j<o.fixes.length):m8 o j<o.fixes[j].at_:=by
 obtain ⟨_,_,_,Y⟩:=rl h;have:=iN.1 Y j a2;unfold n0 at this;rw [ew a2] at this;simp only [dO] at this;exact of_decide_eq_true this.1
theorem As (l:List dP) (h:fD o=0):∀ (j:Nat) (D:Nat),j<=o.fixes.length->m8 o j<D->(gO l o j)[D]? = o.code[D]?
 | 0,D,_,_=>rfl
 | j+1,D,a2,aA=>by
   have ac:j<o.fixes.length:=N7
   have F:=Ar h ac;rw [FX o ac] at aA;have ab:=(t2 h ac).at0
   have aX:o.fixes[j].at_.toNat≠D:=N7
   rw [uc l o ac,xk];simp only [if_neg aX,id_map'];exact As l h j D N7 N7
theorem rq {B':Nat} (h:w.ownsRow B e sz v n ao) (aF:B'<=B):w.ownsRow B' e sz v n ao:=by
 refine ⟨h.1,?_⟩
 rcases h.2 with F | ⟨al,q,o,af,I,ak,Q⟩
 . exact Or.inl F
 . exact Or.inr ⟨al,q,o,af,N7,ak,Q⟩
theorem ud (h:w.ownsRow B e sz v n ao) (Z:0<n):∃ al q,v = .slice (some (dj al 0)) n q/\B<=al/\al<w.heap.size:=by
 rcases h.2 with ⟨F,J⟩ | ⟨al,q,o,af,I,ak,_⟩
 . omega
 . exact ⟨al,q,af,I,lt_of_heap ak⟩
theorem FY {g:Nat} (h:w.ownsRow B 69 3 (.slice (some (dj g 0)) n q) n (fw c)) (p:Nat) (aA:p<c.length) (Z:c.length=n) :
 w.cell? ⟨g,p*3+1,none⟩=some (di c[p].a)/\w.frozen? ⟨g,p*3+1,none⟩=false/\g<w.heap.size/\∀ x,(w.setCell ⟨g,p*3+1,none⟩ (di x)).ownsRow B 69 3 (.slice (some (dj g 0)) n q) n (fw (c.modify p (jM x))):=by
 have W:=h.cells (g:=g) rfl _ _ (Dy c p aA);rw [ua,fY] at W;have ak:g<w.heap.size:=(h.lt g rfl).2;refine ⟨W,?_,ak,fun x=>?_⟩
 . rcases h.2 with ⟨F,_⟩ | ⟨ac,f,o,af,_,ak,_⟩
   . cases F
   . cases af;exact hD ak _
 . have b5:=ownsRow_set h (p*3+1) (di x) N7
   rw [← yJ c p x aA] at b5;exact b5
theorem FZ (bj:pi l=true) {i:Nat} (V:i<l.length) (a2:j<l[i].fixes.length):mG l l[i] l[i].fixes[j]=true:=by
 have F:=iN.1 bj i V;unfold ph at F;rw [ew V] at F;have J:=iN.1 F j a2;unfold lX at J;rw [ew a2] at J;exact J
theorem At (h:fD o=0):∀ x ∈ o.entries,0<=x/\x<=2048:=by
 obtain ⟨a1,_,W,_⟩:=rl h;unfold kv at a1;simp only [hG] at a1;have X:=of_decide_eq_false a1.2.2.2;unfold jh at W;simp only [dO] at W;intro x S;obtain ⟨i,V,rfl⟩:=kI S;have:=iN.1 W.2.1 i V;unfold qa at this;rw [ew V] at this;have:=of_decide_eq_true this;omega
theorem F2 (l:List dP) (y:Nat->Value) (a:OA) (an:Nat) (w:World) (b6:kY w a l y) (aw:od l) (bC:hZ w an l y l.length) (H:∀ o ∈ l,fD o=0) (b7:qh l) (bj:pi l=true) (i:Nat) (V:i<l.length)
 (a4:OA) (ad:Nat) (a5:OA) (y3:Nat) (ax:OA) (y4:Nat) (aG:OA) (y5:Nat) (ap:i1 w l[i] a4 a5 ax aG) :
 dw 104 #[.map (some an),Ah l[i] a4 ad a5 y3 ax y4 aG y5] w fun e G=>∃ v,e = .returned v/\G.ownsRow w.heap.size 69 3 v l[i].code.length (fw (gO l l[i] l[i].fixes.length))/\dm w G:=by
 have bQ:=ap.fixes.bound;have C:=ap.code.bound;have bY:=aw.2 l[i] (eb V);have K:=H l[i] (eb V);have aV:=hid aw;have P:=hid b6;have A:=hid bC;have s:=hid ap;have bF:=hid H;have bD:=hid (fun (R:Nat) (b3:R<l[i].fixes.length)=>t2 K b3);have bi:=hid (fun (R:Nat) (b3:R<l[i].fixes.length)=>Ar K b3);have aW:=hid (fun (R D:Nat) (F:R<=l[i].fixes.length) (J:m8 l[i] R<D)=>As l K R D F J);have be:=hid (fun (m:Int) (ab:0<=m) (F:m<=l[i].uses.length)=>wC b7 V ab F);have b9:=hid (fun (j:Nat) (a2:j<l[i].fixes.length)=>FZ bj V a2);have c1:=bY.1;have c6:=bY.2.1;clear b6 aw bC H b7 bj ap bY K;generalize l[i]=o at *
 obtain ⟨M,ai⟩:∃ M,M=w.alloc (iP o.name a4 o.uses.length ad o.data a5 o.code.length y3 ax o.fixes.length y4 aG o.entries.length y5 o.main):=⟨_,rfl⟩
 have bk:dm w M:=by rw [ai];exact dn _ _
 have c:M.heap[w.heap.size]? = some (iP o.name a4 o.uses.length ad o.data a5 o.code.length y3 ax o.fixes.length y4 aG o.entries.length y5 o.main):=by rw [ai];exact dX _ _
 have c0:M.heap.size=w.heap.size+1:=by rw [ai];simp
 have aS:=hid ai;have HbW:=hid bk;have HoW:=hid c
 obtain ⟨aF,dk,r,T,Q, -⟩:=Aq M M.heap.size 59 (dt) [] (jU _ _ _ _) a5 y3 o.code (fun Z=>by
  obtain ⟨aj,W,rfl,_⟩:=(s.later bk).code.gi 0 N7;refine ⟨aj,W,rfl,fun j a2=>?_⟩;obtain ⟨bx,co',e,X,aY,aE,O,_⟩:=(s.later bk).code.gi j a2
  cases e
  exact ⟨aY,aE,O⟩) Of (dA _)
 rw [List.nil_append,pA,fY] at T;obtain ⟨al,aB,rfl,hgB,hgl⟩:=ud T N7;have b4:=hid r;have bf:=hid T
 have aq:Below (w.heap.size+1) M dk:=by rw [← c0];exact (Below.refl _ _).grown Q (dA _) (fun k N=>by simp [Value.ownBlock] at N)
 have B:=hid aq;have ba:=aq.size;obtain ⟨bE,aT,aU,bh,a3,bp,bL,_⟩:=fi c;have bt:=lt_of_heap c;clear r T Q ai bk c;go_enter func104,ntmps104;go_upto_region 1 with fail;rw [← aS.out];clear aS
 go_wp2_with (at_builtin;refine Lib.wpList_append_run _ rfl _ _ _ _ rfl _ _ rfl rfl _ dk b4 ?_;clear bE aT aU bh a3 bp bL;have a3:=(fi ((B.block _ (xo _)).trans HoW)).2.2.2.2.1)
 clear a3
 go_loopw [7,14] (fun _ i wr=>∃ j:Nat,j<=o.fixes.length/\i=di j/\wr.ownsRow (w.heap.size+1) 69 3 (.slice (some (dj al 0)) o.code.length aB) o.code.length (fw (gO l o j))/\Below (w.heap.size+1) M wr) (fun _ i _=>o.fixes.length - (intOf i).toNat)
 case atStart=>exact ⟨0,dY _,rfl,by rw [← c0];exact bf,B⟩
 case round=>
  obtain ⟨j,a2,rfl,b5,I⟩:=hrel;have br:=hid b5;have ag:=hid I;have aR:dm w wr:=HbW.trans (I.mono N7);have bJ:=hid aR;have a8:=(I.block _ (xo _)).trans HoW;have bP:=(b5.lt al rfl).2;have bW:=(b5.lt al rfl).1;clear b5
  by_cases ac:j<o.fixes.length
  . obtain ⟨a7,fo,rfl,bu⟩:=((s.later aR).fixes).gf j ac
    obtain ⟨bA,fr2,fr3,fr4,fr5,fr6,fr7⟩:=bD j ac;obtain ⟨c2,hmlt⟩:=be o.fixes[j].m fr6 fr7;obtain ⟨c4,bU,bd,bs, -, -, -⟩:=bu;have bl:=hid (Am (o:=o) fr6 fr7);have bz:=hid (uc l o ac);have bG:=hid (b9 j ac);have aX:=s.uses.bound;have ah:=bi j ac;generalize o.fixes[j]=f at *
    obtain ⟨D,aA⟩:∃ D:Nat,f.at_=D:=⟨f.at_.toNat,N7⟩
    have a0:D<o.code.length:=N7
    have ar:D<(gO l o j).length:=by rw [og];exact a0
    have q:=aW j D N7 N7
    have b0:Hid (jy o f.at_=(gO l o j)[D].a):=by
     have:(gO l o j)[D]=o.code[D]:=by
      rw [ew ar,ew a0] at q;exact eX q
     show jy o f.at_=_;rw [this,aA];exact t6 a0
    have bV:(D:Int)<o.code.length:=N7
    rw [b0.out] at fr4 fr5;rw [aA] at bU
    obtain ⟨g,E⟩:∃ g,g=wr.alloc (.cells #[di D,di f.kind,di f.m] 67):=⟨_,rfl⟩
    have Y:dm wr g:=Qg
    have aZ:=hid E
    have bM:g.heap.size=wr.heap.size+1:=by rw [E];simp
    have bc:g.heap[wr.heap.size]? = some (.cells #[di D,di f.kind,di f.m] 67):=Qh
    have aL:=(Y.block _ (lt_of_heap a8)).trans a8;have bn:=lt_of_heap aL;have bB:=lt_of_heap bc;have HbX:=hid Y
    have aa:=hid (fun (M:World) (ai:M.heap[w.heap.size]? = g.heap[w.heap.size]?/\M.heap[wr.heap.size]? = g.heap[wr.heap.size]?)=>(by
     obtain ⟨bN,aJ,aI,bq,bo,t,am,_⟩:=fi (ai.1.trans aL);obtain ⟨aH,az,aK⟩:=An (ai.2.trans bc)
     exact ⟨bN,aJ,aI,bq,bo,t,am,aH,az,aK⟩:M.cell? (dj w.heap.size 0)=some (.string o.name)/\M.cell? (dj w.heap.size 1)=some (.slice a4 o.uses.length ad)/\M.cell? (dj w.heap.size 2)=some (di o.data)/\M.cell? (dj w.heap.size 3)=some (.slice a5 o.code.length y3)/\M.cell? (dj w.heap.size 4)=some (.slice (some (dj a7 fo)) o.fixes.length y4)/\M.cell? (dj w.heap.size 5)=some (.slice aG o.entries.length y5)/\M.cell? (dj w.heap.size 6)=some (di o.main)/\M.cell? (dj wr.heap.size 0)=some (di D)/\M.cell? (dj wr.heap.size 1)=some (di f.kind)/\M.cell? (dj wr.heap.size 2)=some (di f.m)))
    have aQ:=hid (fun M (ai:dm g M)=>aa M ⟨ai.block _ bn,ai.block _ bB⟩);have bv:=hid (aR.trans (Y.mono aR.size));obtain ⟨_,_,_,_,_,_,_,_,a6,a9, -, -, -, -, -, -, -, -, -,aP, -,hek⟩:=P.get (fH l o f.m) hmlt;rw [← qi hmlt] at hek;have L:=hid (fun M (ai:dm g M)=>Ak l y an M (A.later (dp bv ai)) o a4 ad a5 y3 (some (dj a7 fo)) y4 aG y5 (s.later (dp bv ai)) f.m _ bl _ c2 a6 _ a9 hek);have u:=aP.entries.bound;have bg:=ni aV (fH l o f.m) N7;have b8:=aV.1;have ae:=bF _ (eb hmlt)
    have c5:Hid (∀ x ∈ kA l (fH l o f.m),0<=x/\x<=2048):=by
     rw [qi hmlt];exact At ae
    have av:Hid (f.kind=2->(gO l o j)[D].a<(kA l (fH l o f.m)).length):=fun au=>by
     have F:mG l o f=true:=bG.out;unfold mG at F;rw [b0.out] at F;simp [au] at F;exact F
    have aD:=hid (fun M (ai:dm g M)=>FS (fH l o f.m) ((l.length:Int)+1+hx (l.take (fH l o f.m))) (g9 (l.take (fH l o f.m))) f.kind (gO l o j)[D].a (kA l (fH l o f.m)) a6 a9 M (by rw [qi hmlt];exact aP.entries.later (dp bv ai)) N7 N7 ⟨fr4,fr5⟩ av c5)
    have aM:Hid (nj l o f=jk f.kind (gO l o j)[D].a ((l.length:Int)+1+hx (l.take (fH l o f.m))) (g9 (l.take (fH l o f.m))) (kA l (fH l o f.m))):=by show nj l o f=_;unfold nj;rw [b0.out]
    have bI:=hid (ownsRow_later br Y);have b:=hid (fun M (ai:dm g M)=>FY (ownsRow_later bI ai) D ar (og l o j));have aN:=hek;clear aN aP hek c2 Y E aL a8 bc I aR ae q ah bA fr2 fr6 fr7;generalize jk f.kind (gO l o j)[D].a ((l.length:Int)+1+hx (l.take (fH l o f.m))) (g9 (l.take (fH l o f.m))) (kA l (fH l o f.m))=z at *;generalize (gO l o j)[D].a=ao at *;generalize kA l (fH l o f.m)=p at *;generalize bO:fH l o f.m=mo at *;go_upto_region 5 with fail;rw [← aZ.out];refine wp_region_held_drew (S:=(fun M=>M.cell? (dj w.heap.size 0)=some (.string o.name)/\M.cell? (dj w.heap.size 1)=some (.slice a4 o.uses.length ad)/\M.cell? (dj w.heap.size 2)=some (di o.data)/\M.cell? (dj w.heap.size 3)=some (.slice a5 o.code.length y3)/\M.cell? (dj w.heap.size 4)=some (.slice (some (dj a7 fo)) o.fixes.length y4)/\M.cell? (dj w.heap.size 5)=some (.slice aG o.entries.length y5)/\M.cell? (dj w.heap.size 6)=some (di o.main)/\M.cell? (dj wr.heap.size 0)=some (di D)/\M.cell? (dj wr.heap.size 1)=some (di f.kind)/\M.cell? (dj wr.heap.size 2)=some (di f.m))) (by kernel_rfl) (aQ _ (jj g)) (fun d=>?_)
    refine ft 0 (.slice (some (dj al 0)) o.code.length aB) rfl (by kernel_rfl) (fun _ _ _ h=>h) (fun M ai=>by kernel_rfl) d ?_;refine ft 1 (dF wr.heap.size 0) rfl (by kernel_rfl) (fun _ _ _ h=>h) (fun M ai=>by kernel_rfl) d ?_;refine ft 2 (di D) rfl (by kernel_rfl) (fun _ _ _ h=>h) (fun M ai=>by obtain ⟨U,ay,b1,eU,bH,s5,s6,s7,s8,s9⟩:=ai;go_simp) d ?_;refine ft 3 (.map (some an)) rfl (by kernel_rfl) (fun _ _ _ h=>h) (fun M ai=>by kernel_rfl) d ?_;refine ft 4 (.agg #[.string o.name,.slice a4 o.uses.length ad,di o.data,.slice a5 o.code.length y3,.slice (some (dj a7 fo)) o.fixes.length y4,.slice aG o.entries.length y5,di o.main]) rfl (by kernel_rfl) (fun _ _ _ h=>h) (fun M ai=>by obtain ⟨U,ay,b1,eU,bH,s5,s6,s7,s8,s9⟩:=ai;go_simp) d ?_;refine ft 5 (dF wr.heap.size 2) rfl (by kernel_rfl) (fun _ _ _ h=>h) (fun M ai=>by kernel_rfl) d ?_
    refine ft 6 (di f.m) rfl (by kernel_rfl) (fun _ _ _ h=>h) (fun M ai=>by obtain ⟨U,ay,b1,eU,bH,s5,s6,s7,s8,s9⟩:=ai;go_simp) d ?_;refine ft 8 (dF wr.heap.size 1) rfl (by kernel_rfl) (fun _ _ _ h=>h) (fun M ai=>by kernel_rfl) d ?_;refine ft 9 (di f.kind) rfl (by kernel_rfl) (fun _ _ _ h=>h) (fun M ai=>by obtain ⟨U,ay,b1,eU,bH,s5,s6,s7,s8,s9⟩:=ai;go_simp) d ?_;refine ft 10 (.slice (some (dj al 0)) o.code.length aB) rfl (by kernel_rfl) (fun _ _ _ h=>h) (fun M ai=>by kernel_rfl) d ?_;refine ft 11 (dF wr.heap.size 0) rfl (by kernel_rfl) (fun _ _ _ h=>h) (fun M ai=>by kernel_rfl) d ?_;refine ft 12 (di D) rfl (by kernel_rfl) (fun _ _ _ h=>h) (fun M ai=>by obtain ⟨U,ay,b1,eU,bH,s5,s6,s7,s8,s9⟩:=ai;go_simp) d ?_;refine ft 13 (.pointer (some ⟨al,D*3,none⟩)) rfl (by kernel_rfl) (fun _ _ _ h=>h) (fun M ai=>by go_simp) d ?_
    refine ft 14 (.pointer (some ⟨al,D*3+1,none⟩)) rfl (by kernel_rfl) (fun _ _ _ h=>h) (fun M ai=>by kernel_rfl) d ?_;have bK:=(b _ (jj g)).1
    (try simp only [Act.put,j1,k7,lH])
    refine wpAnyH_ready (rs:=[7,15]) (by kernel_rfl) Ob ?_;refine AllReadyH.cons rfl ?_ (AllReadyH.cons rfl ?_ AllReadyH.nil)
    . intro S aO
      clear bK;go_simp
      go_wp2_with (go_at_call 146;refine (L _ (jj g)).mono ?_;rintro e eP ⟨rfl,a1⟩)
      have ak:=hid (dp (jj g) a1);refine aO.out _ _ (aQ _ ak) (fun d=>?_);clear aO S a1
      (try simp only [Act.put,j1,k7,lH])
      have bK:=(b _ ak).1;refine wpAnyH_ready (rs:=[15]) (by kernel_rfl) Ob ?_;refine AllReadyH.cons rfl ?_ AllReadyH.nil;intro S aO;go_simp;refine aO.out _ _ (aQ _ ak) (fun d=>?_);clear aO S bK
      exact Qr
    . intro S aO
      go_simp;refine aO.out _ _ (aQ _ (jj g)) (fun d=>?_);clear aO S bK
      (try simp only [Act.put,j1,k7,lH])
      refine wpAnyH_ready (rs:=[7]) (by kernel_rfl) Ob ?_;refine AllReadyH.cons rfl ?_ AllReadyH.nil;intro S aO;go_simp
      go_wp2_with (go_at_call 146;refine (L _ (jj g)).mono ?_;rintro e eP ⟨rfl,a1⟩)
      have ak:=hid (dp (jj g) a1);refine aO.out _ _ (aQ _ ak) (fun d=>?_);clear aO S a1
      exact Qr
  . obtain rfl:j=o.fixes.length:=by omega
    have b2:=I.size;clear a8 aR;go_wp2_with fail;go_ret;exact ⟨_,rfl,rq br N7,HbW.trans (ag.mono N7)⟩
def mH:List dP->Int
 | []=>0
 | o :: r=>if fD o≠0 then fD o else mH r
theorem wD:∀ l:List dP,(∀ i (h:i<l.length),fD l[i]=0)->mH l=0
 | [],_=>rfl
 | o :: r,h=>by
   have ab:fD o=0:=h 0 Ob;unfold mH;rw [if_neg (by rw [ab];exact fun e=>e rfl)];exact wD r (fun i V=>h (i+1) PL)
theorem Au:∀ (l:List dP) (j:Nat) (a2:j<l.length),(∀ i (h:i<j),fD l[i]=0)->fD l[j]≠0->mH l=fD l[j]
 | o :: r,0,_,_,Z=>by
   unfold mH;rw [if_pos (show fD o≠0 from Z)]
   rfl
 | o :: r,j+1,a2,h,Z=>by
   have ab:fD o=0:=h 0 N7;unfold mH;rw [if_neg (by rw [ab];exact fun e=>e rfl)];exact Au r j PU (fun i V=>h (i+1) N7) Z
theorem Av:∀ {l:List dP},mH l=0->∀ o ∈ l,fD o=0
 | o :: r,h,x,S=>by
   unfold mH at h
   by_cases ab:fD o=0
   . rw [if_neg (by rw [ab];exact fun e=>e rfl)] at h
     rcases kk.1 S with rfl | S
     . exact ab
     . exact Av h x S
   . rw [if_pos ab] at h
     exact absurd h ab
def kB (l:List dP):Int:=if l.length<1\/4<l.length then 2 else if mH l≠0 then mH l else if ¬ (hY l).Nodup then 6 else if pg l=false then 9 else if pi l=false then 5 else 0
theorem Aw (h:fD o=0):1<=o.code.length/\o.code.length<=2048/\0<=o.data/\o.data<=512:=by
 obtain ⟨a1,_,W,_⟩:=rl h;unfold kv at a1;simp only [hG] at a1;have F:=of_decide_eq_false a1.2.2.1;have J:=of_decide_eq_false a1.2.2.2;unfold jh sy at W;simp only [dO] at W;have U:=of_decide_eq_true W.2.2.2;omega
theorem Ax (h:fD o=0):0<=o.main/\o.main<o.code.length:=by
 obtain ⟨a1,_,W,_⟩:=rl h;unfold jh sy at W;simp only [dO] at W;exact of_decide_eq_true W.2.2.1
theorem ue (aa:l.length<=4) (h:∀ o ∈ l,fD o=0):od l:=⟨aa,fun o ap=>Aw (h o ap)⟩
theorem wE (Z:(hY l).Nodup) (a7:pg l=true):qh l:=fun i V m ab F=>by
 unfold mF
 by_cases a1:m=0
 . rw [if_pos a1,rp Z V];rfl
 . rw [if_neg a1]
   have J:=iN.1 a7 i V;unfold pe at J;rw [ew V] at J
   have N:(m - 1).toNat<l[i].uses.length:=N7
   have U:=e1.1 J l[i].uses[(m - 1).toNat] (eb N);rw [fV,ew N];show (hA l (l[i].uses[(m - 1).toNat]).data.toList l.length).isSome=true;unfold oe at U
   cases e:hA l (l[i].uses[(m - 1).toNat]).data.toList l.length with
   | none=>rw [e] at U;cases U
   | some k=>rfl
theorem Ay (l:List dP) (y:Nat->Value) (a:OA) (q:Nat) (w:World) (b6:kY w a l y) :
 dw 43 #[.slice a l.length q] w fun e G=>e = .returned (di (kB l))/\dm w G:=by
 have bK:=b6.bound;have P:=hid b6;clear b6
 obtain ⟨r,Q⟩:∃ r,r=kB l:=⟨_,rfl⟩
 rw [← Q];unfold kB at Q;have z:=hid Q;clear Q;go_enter func43,ntmps43
 by_cases F:l.length<1
 . have bh:Hid (r=2):=z.trans (if_pos (Or.inl F))
   have b:(l.length:Int)<1:=N7
   have c:¬ (4<(l.length:Int)):=N7
   go_wp2_with fail;go_ret;exact ⟨PA,Below.refl _ _⟩
 by_cases aa:4<l.length
 . have bh:Hid (r=2):=z.trans (if_pos (Or.inr aa))
   have b:¬ ((l.length:Int)<1):=N7
   have c:(4:Int)<(l.length:Int):=N7
   go_wp2_with fail;go_ret;exact ⟨PA,Below.refl _ _⟩
 have aY:=hid (z.trans (if_neg N7))
 have b:¬ ((l.length:Int)<1):=N7
 have c:¬ (4<(l.length:Int)):=N7
 go_wp2_with fail;clear b c
 go_loopw [4,5,17] (fun _ _ i wr=>∃ j:Nat,j<=l.length/\i=di j/\(∀ k (h:k<l.length),k<j->fD l[k]=0)/\dm w wr) (fun _ _ i _=>l.length - (intOf i).toNat)
 case atStart=>exact ⟨0,dY _,rfl,fun k _ h=>absurd h (pz _),Below.refl _ _⟩
 case round=>
  obtain ⟨j,a2,rfl,aS,I⟩:=hrel;have aR:=hid aS;have ag:=hid I;clear aS
  by_cases ac:j<l.length
  . obtain ⟨p,C,a4,ad,a5,bi,ax,b4,aG,bx,rfl,b8,bt,ah,ae,c3,K,av,aW,ap,g, -⟩:=(P.later I).get j ac
    have ao:=hid (EP l[j] a4 ad a5 bi ax b4 aG bx (wr.alloc (iP l[j].name a4 l[j].uses.length ad l[j].data a5 l[j].code.length bi ax l[j].fixes.length b4 aG l[j].entries.length bx l[j].main)) (ap.later (dn _ _)) g);clear ap g I;go_wp2_with fail;refine ao.mono ?_;rintro e w2 ⟨rfl,aN⟩;have O:=hid (dp ag (dp (dn wr _) aN));clear aN ao bt ah ae c3 K av aW
    by_cases b2:fD l[j]=0
    . have f:Hid (∀ k (h:k<l.length),k<j+1->fD l[k]=0):=fun k h N=>by
       by_cases ar:k=j
       . subst ar;exact b2
       . exact aR k h N7
      go_wp2_with fail;go_roundw
      case rel=>exact ⟨j+1,N7,Ou,f,O⟩
      case measure=>simp [intOf];omega
    . have bh:Hid (r=fD l[j]):=by
       have ar:=Au l j ac (fun k N=>aR k N7 N) b2;show r=_;rw [aY.out,if_pos (by rw [ar];exact b2),ar]
      generalize fD l[j]=aX at *;go_wp2_with fail;go_ret;exact ⟨PA,O⟩
  . obtain rfl:j=l.length:=by omega
    have aS:∀ o ∈ l,fD o=0:=fun o ap=>by
     obtain ⟨i,V,rfl⟩:=kI ap;exact aR i V V
    have aP:=hid aS;have aV:=hid (ue N7 aS);have b3:=hid (aY.trans (if_neg (by rw [wD l (fun i h=>aR.out i h h)];exact fun e=>e rfl)));have J:=hid (Ag l y a q wr (P.later I) aV);clear aS aY aR I;go_wp2_with fail;refine J.mono ?_;rintro e w2 ⟨an,rfl,bC,aN⟩;have O:=hid (dp ag aN);have A:=hid bC;obtain ⟨m,a1,aq,aZ⟩:=bC.len;have d:=hid (FR l y a q an w2 (P.later O) N7 bC);have be:=hid (fun (Z:(hY l).Nodup) (a7:pg l=true) M (ai:dm w2 M)=>FU l y a q an M (P.later (dp O ai)) N7 (A.later ai) aP (wE Z a7));clear bC aN J
    by_cases Z:(hY l).Nodup
    . obtain rfl:=aq Z
      have n:¬ ((l.length:Int)<(l.length:Int)):=N7
      have al:=hid (b3.trans (if_neg (fun h=>h Z)));have b7:=hid Z;clear aq aZ Z b3;go_wp2_with fail;refine d.mono ?_;rintro e dC ⟨rfl,T⟩;have t:=hid T;clear T d a1
      cases a7:pg l with
      | false=>
        have bh:Hid (r=9):=al.trans (if_pos a7);clear a7;go_wp2_with fail;go_ret;exact ⟨PA,dp O t⟩
      | true=>
        have az:=hid (al.trans (if_neg (by rw [a7];decide)));have ao:=hid (be b7 a7 dC t);clear a7;go_wp2_with fail;refine ao.mono ?_;rintro e dD ⟨rfl,bc⟩;have X:=hid (dp t bc);clear bc ao
        cases W:pi l with
        | false=>
          have bh:Hid (r=5):=az.trans (if_pos W);clear W;go_wp2_with fail;go_ret;exact ⟨PA,dp O X⟩
        | true=>
          have bh:Hid (r=0):=az.trans (if_neg (by rw [W];decide));clear W;go_wp2_with fail;go_ret;exact ⟨PA,dp O X⟩
    . have bq:=aZ Z
      have n:(m:Int)<(l.length:Int):=N7
      have bh:Hid (r=6):=b3.trans (if_pos Z);clear aq aZ Z b3 d be;go_wp2_with fail;go_ret;exact ⟨PA,O⟩
def fX (l:List dP) (j:Nat):List eK:=(jT l l.length++[⟨20,0,0⟩])++(l.take j).flatMap (fun o=>gO l o o.fixes.length)
theorem rr (l:List dP) (h:j<l.length):fX l (j+1)=fX l j++gO l l[j] l[j].fixes.length:=by
 unfold fX;rw [gn h,uO];simp
theorem ug (l:List dP):∀ j,j<=l.length->((fX l j).length:Int)=l.length+1+hx (l.take j)
 | 0,_=>by simp [fX,sJ,hx]
 | j+1,h=>by
   have ay:=ug l j N7;rw [rr l (by omega:j<l.length),eM,og,ww (by omega:j<l.length)];omega
def kc (l:List dP):Except Int (List eK × Int):=if kB l≠0 then .error (kB l) else if 2048<(fX l l.length).length\/512<g9 l then .error 2 else .ok (fX l l.length,g9 l)
def F3 (lo:Nat) (r:Except Int (List eK × Int)) (e:Ending) (w:World):Prop:=
 match r with
 | .error c=>e = .returned (.tuple #[.agg #[.slice none 0 0,.int .i64 0],.int .i64 c])/\c≠0
 | .ok (c,d)=>∃ v,e = .returned (.tuple #[.agg #[v,.int .i64 d],.int .i64 0])/\w.ownsRow lo 69 3 v c.length (fw c)
theorem uh (h:kB l=0):1<=l.length/\l.length<=4/\(∀ o ∈ l,fD o=0)/\(hY l).Nodup/\pg l=true/\pi l=true:=by
 unfold kB at h
 split at h
 . cases h
 . rename_i F
   split at h
   . rename_i J;exact absurd h J
   . rename_i J
     split at h
     . cases h
     . rename_i U
       split at h
       . cases h
       . rename_i aa
         split at h
         . cases h
         . rename_i aB
           exact ⟨N7,N7,Av Pg,Qm,by simpa using aa,by simpa using aB⟩
theorem oh {b:Nat} {af a4:Value} {t:TypeId} (h:w.heap[b]? = some (.cells #[af,a4] t (0,0))):w.cell? (dj b 0)=some af/\w.cell? (dj b 1)=some a4/\∀ i,w.frozen? (dj b i)=false:=by
 refine ⟨?_,?_,fun i=>hD h i⟩<;>(rw [eZ h];rfl)
theorem Az {a:OA} (h:w.ownsRow B 69 3 (.slice a c.length q) c.length (fw c)) (Z:c.length≠0):∃ p C,a=some (dj p C)/\∀ j (a2:j<c.length),w.cell? ⟨p,C+j*3,none⟩=some (di c[j].op)/\w.cell? ⟨p,C+j*3+1,none⟩=some (di c[j].a)/\w.cell? ⟨p,C+j*3+2,none⟩=some (di c[j].b):=by
 obtain ⟨al,f,e,_,_⟩:=ud h N7
 injection e with aJ _ _
 subst aJ;refine ⟨al,0,rfl,fun j a2=>?_⟩
 have W:∀ k,k<3->∀ u,(ks c[j])[k]? = some u->w.cell? ⟨al,j*3+k,none⟩=some u:=fun k N u aL=>by
  have:=h.cells (g:=al) rfl (j*3+k) u ((ub ks 3 (fun _=>rfl) c j a2 k N).trans aL);rwa [ua,fY] at this
 rw [fY];exact ⟨W 0 N7 _ rfl,W 1 N7 _ rfl,W 2 N7 _ rfl⟩
theorem wF (l:List dP) (y:Nat->Value) (a:OA) (q:Nat) (w:World) (b6:kY w a l y) :
 dw 40 #[.slice a l.length q] w fun e G=>F3 w.heap.size (kc l) e G/\dm w G:=by
 have bK:=b6.bound;have P:=hid b6;have ao:=hid (Ay l y a q (w.alloc (.cells #[dt,di 0] 81)) (b6.later (dn _ _)));clear b6
 obtain ⟨r,Q⟩:∃ r,r=kc l:=⟨_,rfl⟩
 rw [← Q];unfold kc at Q;have z:=hid Q;clear Q;go_enter func40,ntmps40;go_wp2_with fail;refine ao.mono ?_;rintro e dk ⟨rfl,aq⟩;have B:=hid (dp (dn w _) aq);have bm:=hid ((aq.block w.heap.size Ob).trans (dX w (.cells #[dt,di 0] 81)));have ba:=aq.size;simp at ba;obtain ⟨bG,bp,rf⟩:=oh bm;have bZ:=lt_of_heap bm;clear aq ao
 by_cases ar:kB l=0
 rotate_left
 . have bh:Hid (r = .error (kB l)):=z.trans (if_pos ar)
   generalize kB l=aX at *;have a3:=hid ar;go_wp2_with fail;refine bodyPost_ret (v:=.tuple #[.agg #[dt,di 0],di aX]) (by simp [results,results40,go_sem,bG,bp,bZ]) rfl ⟨by rw [bh.out];exact ⟨rfl,a3⟩,?_⟩;exact (B.setCell (p:=(dj w.heap.size 0)) (dA _) _).setCell (p:=(dj w.heap.size 1)) (dA _) _
 obtain ⟨a9,au,bn,aH,k5,k6⟩:=uh ar;have aY:=hid (z.trans (if_neg (fun h=>h ar)));have aP:=hid bn;have aV:=hid (ue au bn);have b7:=hid aH;have aF:=hid (wE aH k5);have b9:=hid k6
 have a0:Hid (Ap l):=⟨fun o ap=>by have:=Ax (bn o ap);have:=Aw (bn o ap);omega,aH⟩
 have J:=hid (Ag l y a q dk (P.later B) aV);rw [ar];clear z bn aH k5 k6 ar;go_wp2_with fail;refine J.mono ?_;rintro e w2 ⟨an,rfl,bC,aN⟩;have O:=hid (dp B aN);have A:=hid bC;have bA:=aN.size;have bw:=hid ((aN.block _ bZ).trans bm);have af:=hid (FW l y a q an w2 (P.later O) aV bC a0);clear bC aN J bG bp rf;go_wp2_with fail;refine af.mono ?_;rintro e dC ⟨bl,rfl,ho3,T⟩;obtain ⟨a6,c3,rfl, -, -⟩:=hS ho3;have aM:=hid ho3;have bX:=T.size
 have bf:=fun k N=>(ho3.lt k N).2
 obtain ⟨b,a7⟩:∃ b,b=dC.heap.size:=⟨_,rfl⟩
 obtain ⟨M,ai⟩:∃ M,M=dC.alloc (.cells #[.slice a6 (l.length+1) c3,di 0] 81):=⟨_,rfl⟩
 have bk:dm dC M:=by rw [ai];exact dn _ _
 have HbW:=hid bk;have aS:=hid ai
 have ce:Hid (M.heap[b]? = some (.cells #[.slice a6 (l.length+1) c3,di 0] 81)):=by rw [a7,ai];exact dX _ _
 have c7:=hid (T.trans (bk.mono bX))
 have c4:Hid (∀ k,(Value.slice a6 (l.length+1) c3).ownBlock=some k->k≠b):=fun k N e=>by have:=bf k N;omega
 have c0:M.heap.size=b+1:=by rw [ai,a7];simp
 have ci:w2.heap.size<=b:=N7
 have ch:w.heap.size<b:=N7
 have L:=hid a7;clear ho3 T af ai bk bf;go_upto_region 6 with fail;rw [← aS.out,← a7];clear aS a7;go_wp2_with fail
 go_loopw [8,23] (fun _ i wr=>∃ (j:Nat) (aj:Value),j<=l.length/\i=di j/\wr.heap[b]? = some (.cells #[aj,di (g9 (l.take j))] 81 (0,0))/\wr.ownsRow w2.heap.size 69 3 aj (fX l j).length (fw (fX l j))/\aj.ownBlock≠some b/\dm w2 wr) (fun _ i _=>l.length - (intOf i).toNat)
 case atStart=>
  refine ⟨0,_,dY _,rfl,ce,?_,fun h=>c4 _ h rfl,c7⟩
  have aJ:fX l 0=jT l l.length++[⟨20,0,0⟩]:=by simp [fX]
  have aI:(fX l 0).length=l.length+1:=by rw [aJ];simp [sJ]
  rw [aI,aJ];exact ownsRow_later aM HbW
 case round=>
  obtain ⟨j,aj,a2,rfl,a1,b5,hvm,I⟩:=hrel;have ab:=hid hvm;have ag:=hid I;have cf:=hid a1;have br:=hid b5;have ca:=lt_of_heap a1;have aR:=dp O I;have bg:=ni aV j a2;have D:=ug l j a2;have bQ:=hid ((I.block _ (e4 (lt_of_heap bw) (dA _))).trans bw);obtain ⟨bL,aB,hvc, -, -⟩:=hS b5;clear hvm b5
  by_cases ac:j<l.length
  . obtain ⟨p,C,a4,ad,a5,bi,ax,b4,aG,bx,rfl,b8,bt,ah,ae,W,K,av,aW,ap, -, -⟩:=(P.later aR).get j ac
    clear hvc;have be:=ac;have bY:=aV.2 l[j] (eb ac);have c1:=bY.1;have c6:=bY.2.1;have c9:=bY.2.2.1;have cb:=bY.2.2.2;have b2:=wx ac
    obtain ⟨o,f⟩:∃ o,o=l[j]:=⟨_,rfl⟩
    have bz:=hid (rr l ac)
    obtain ⟨g,E⟩:∃ g,g=wr.alloc (iP o.name a4 o.uses.length ad o.data a5 o.code.length bi ax o.fixes.length b4 aG o.entries.length bx o.main):=⟨_,rfl⟩
    have Y:dm wr g:=Qg
    have aZ:=hid E
    have bM:g.heap.size=wr.heap.size+1:=by rw [E];simp
    have aL:g.heap[wr.heap.size]? = some (iP o.name a4 o.uses.length ad o.data a5 o.code.length bi ax o.fixes.length b4 aG o.entries.length bx o.main):=Qh
    have aa:=hid (fun (c:World) (ai:c.heap[wr.heap.size]? = some (iP o.name a4 o.uses.length ad o.data a5 o.code.length bi ax o.fixes.length b4 aG o.entries.length bx o.main))=>(by
     obtain ⟨bN,aJ,aI,bq,bo,t,am,_⟩:=fi ai
     exact ⟨bN,aJ,aI,bq,bo,t,am⟩:c.cell? (dj wr.heap.size 0)=some (.string o.name)/\c.cell? (dj wr.heap.size 1)=some (.slice a4 o.uses.length ad)/\c.cell? (dj wr.heap.size 2)=some (di o.data)/\c.cell? (dj wr.heap.size 3)=some (.slice a5 o.code.length bi)/\c.cell? (dj wr.heap.size 4)=some (.slice ax o.fixes.length b4)/\c.cell? (dj wr.heap.size 5)=some (.slice aG o.entries.length bx)/\c.cell? (dj wr.heap.size 6)=some (di o.main)))
    have aQ:=hid (fun c (ai:dm g c)=>aa c ((ai.block _ (lt_of_heap aL)).trans aL));have bv:=hid (I.trans (Y.mono I.size));have bO:=hid ((Y.block _ ca).trans a1);have bJ:=hid (fun c (ai:dm g c)=>oh ((ai.block _ (lt_of_heap bO)).trans bO));have bI:=hid (fun c (ai:dm g c)=>ownsRow_later (ownsRow_later br Y) ai)
    have aE:Hid (aj.ownBlock≠some wr.heap.size):=fun h=>by have:=(br.lt _ h).2;omega
    have V:Hid (∀ {u:Value} {n:Nat},(u.ownBlock=aj.ownBlock\/u.ownBlock=some n)->n≠b->u.ownBlock≠some b):=fun h Z e=>h.elim (fun h=>ab (h.symm.trans e)) (fun h=>Z (eX (h.symm.trans e)))
    have bD:=hid (fun c (ai:dm g c)=>F2 l y (some (dj p C)) an c (P.later (dp (dp O (I.trans (Y.mono I.size))) ai)) aV (A.later (dp (I.trans (Y.mono I.size)) ai)) aP aF b9 j ac a4 ad a5 bi ax b4 aG bx ((ap.later Y).later ai));rw [← f] at bD c1 c6 c9 cb b2 bz bt ah ae W K av aW;clear ap a1 bY;clear f Y E I aR;go_upto_region 9 with fail;rw [← aZ.out];refine wp_region_held_drew (S:=(fun c=>c.cell? (dj wr.heap.size 0)=some (.string o.name)/\c.cell? (dj wr.heap.size 1)=some (.slice a4 o.uses.length ad)/\c.cell? (dj wr.heap.size 2)=some (di o.data)/\c.cell? (dj wr.heap.size 3)=some (.slice a5 o.code.length bi)/\c.cell? (dj wr.heap.size 4)=some (.slice ax o.fixes.length b4)/\c.cell? (dj wr.heap.size 5)=some (.slice aG o.entries.length bx)/\c.cell? (dj wr.heap.size 6)=some (di o.main))) (by kernel_rfl) (aQ _ (jj g)) (fun d=>?_)
    refine ft 0 (dF b 0) rfl (by kernel_rfl) (fun _ _ _ h=>h) (fun M ai=>by kernel_rfl) d ?_;refine ft 2 (.map (some an)) rfl (by kernel_rfl) (fun _ _ _ h=>h) (fun M ai=>by kernel_rfl) d ?_;refine ft 3 (.agg #[.string o.name,.slice a4 o.uses.length ad,di o.data,.slice a5 o.code.length bi,.slice ax o.fixes.length b4,.slice aG o.entries.length bx,di o.main]) rfl (by kernel_rfl) (fun _ _ _ h=>h) (fun M ai=>by obtain ⟨U,ay,b1,eU,bH,s5,s6⟩:=ai;go_simp) d ?_;have H:=(bJ _ (jj g)).1
    (try simp only [Act.put,j1,k7,lH])
    refine wpAnyH_ready (rs:=[1,4]) (by kernel_rfl) Ob ?_;refine AllReadyH.cons rfl ?zA (AllReadyH.cons rfl ?zB AllReadyH.nil)
    case' zA=>
     intro S aO;go_simp;refine aO.out _ _ (aQ _ (jj g)) (fun d=>?_);clear aO S H
     (try simp only [Act.put,j1,k7,lH])
     refine wpAnyH_ready (rs:=[4]) (by kernel_rfl) Ob ?_;refine AllReadyH.cons rfl ?_ AllReadyH.nil;intro S aO;go_simp
     go_wp2_with (go_at_call 104;refine (bD _ (jj g)).mono ?_;rintro e dD ⟨a8,rfl,ho4,bc⟩)
     have X:=hid (dp (jj g) bc);have F:=hid ho4;refine aO.out _ _ (aQ _ X) (fun d=>?_);clear aO S bc ho4
    case' zB=>
     intro S aO;clear H;go_simp
     go_wp2_with (go_at_call 104;refine (bD _ (jj g)).mono ?_;rintro e dD ⟨a8,rfl,ho4,bc⟩)
     have X:=hid (dp (jj g) bc);have F:=hid ho4;refine aO.out _ _ (aQ _ X) (fun d=>?_);clear aO S bc ho4
     (try simp only [Act.put,j1,k7,lH])
     have H:=(bJ _ X).1;refine wpAnyH_ready (rs:=[1]) (by kernel_rfl) Ob ?_;refine AllReadyH.cons rfl ?_ AllReadyH.nil;intro S aO;go_simp;refine aO.out _ _ (aQ _ X) (fun d=>?_);clear aO S H
    all_goals
     (try simp only [Act.put,j1,k7,lH])
     obtain ⟨aU,cc4,rfl, -, -⟩:=hS F;obtain ⟨u,dJ,hr5,ho5,hg5,hat5⟩:=Aq dD w2.heap.size 59 aj (fX l j) (bI dD X) aU cc4 (gO l o o.fixes.length) (Az (by rw [og];exact F)) (by rw [og];omega) PR;rw [og] at hr5;obtain ⟨ak,cc5,rfl, -, -⟩:=hS ho5;generalize c2:(fX l j).length+(gO l o o.fixes.length).length=v at *;have cw:=hid c2;clear c2;have az:=hid hr5;have bP:=hid ho5;have cg:=hid hg5;have aw:=hid hat5;have bV:=hg5.size;have s:=hid (fun (p:Nat) (x:Obj) (I:g.heap[p]? = some x) (Z:aj.ownBlock≠some p)=>(hg5.block p (e4 (lt_of_heap I) X.size) (Ne.symm Z)).trans ((X.block p (lt_of_heap I)).trans I));have bu:=hid ((bv.trans (X.mono N7)).grown hg5 PR (fun k N=>((bI dD X).lt k N).1))
     clear hr5 ho5 hg5 hat5;refine wpAnyH_ready (rs:=[5]) (by kernel_rfl) Ob ?_;refine AllReadyH.cons (o:=⟨some 32,_,_,_,_,_⟩) rfl ?_ AllReadyH.nil;intro S aO;refine step_append_run rfl (.tmp 28) (.tmp 31) 59 rfl aj (.slice aU o.code.length cc4) (.slice ak v cc5) (by kernel_rfl) (by kernel_rfl) az ?_;refine aO.out _ _ (aa _ (s _ _ aL aE)) (fun d=>?_);clear aO S
     (try simp only [Act.put,j1,k7,lH])
     refine ft 6 (dF b 0) rfl (by kernel_rfl) (fun _ _ _ h=>h) (fun M ai=>by kernel_rfl) d ?_;have b3:=oh (s _ _ bO ab);have bb:=b3.1;have bT:=b3.2.1;have bR:=b3.2.2;have cn:b<dJ.heap.size:=lt_of_heap (s _ _ bO ab);clear b3;refine wpAnyH_ready (rs:=[7]) (by kernel_rfl) Ob ?_;refine AllReadyH.cons rfl ?_ AllReadyH.nil;intro S aO;go_simp;refine aO.out _ _ (aa _ ((eh (p:=(dj b 0)) (by show wr.heap.size≠b;omega) _).trans (s _ _ aL aE))) (fun d=>?_);clear aO S bb bT bR;refine wpAnyH_done (by kernel_rfl) ?_ _;clear d;go_simp;generalize aD:dJ.setCell (dj b 0) (.slice ak v cc5)=eD at *
     have m:eD.heap[b]? = some (.cells #[.slice ak v cc5,di (g9 (l.take j))] 81):=by rw [← aD];exact heap_set (s _ _ bO ab) _
     have cc:eD.heap.size=dJ.heap.size:=by rw [← aD];exact hk ..
     have bE:eD.heap[wr.heap.size]? = g.heap[wr.heap.size]?:=by rw [← aD];exact (eh (p:=(dj b 0)) (by show wr.heap.size≠b;omega) _).trans ((s _ _ aL aE).trans aL.symm)
     have aT:Hid (eD.ownsRow w2.heap.size 69 3 (.slice ak v cc5) v (fw (fX l j++gO l o o.fixes.length))):=by rw [← aD];exact iZ bP (fun k N=>eh (p:=(dj b 0)) Pk _)
     have bW:Hid (dm w2 eD):=by rw [← aD];exact bu.setCell (p:=(dj b 0)) (by show w2.heap.size<=b;omega) _
     have cm:=hid m;obtain ⟨b0,bB,mf⟩:=oh m;obtain ⟨bN,aJ,aI,bq,bo,t,am,_⟩:=fi (bE.trans aL);have bj:=lt_of_heap m;clear aD m bE bN aJ bq bo t am aL cn;go_wp2_with fail;go_roundw
     case rel=>exact ⟨j+1,_,N7,Ou,by rw [b2];exact heap_set cm _,by rw [bz.out,eM,cw.out];exact iZ aT (fun k N=>eh (p:=(dj b 1)) Pk _),V aw PR,bW.setCell (p:=(dj b 1)) (by show w2.heap.size<=b;omega) _⟩
     case measure=>simp [intOf];omega
  . obtain rfl:j=l.length:=by omega
    rw [gu] at a1 cf;obtain ⟨b0,bB,mf⟩:=oh a1;obtain ⟨bG,bp,rf⟩:=oh bQ;have al:=lt_of_heap bQ;subst hvc;have c8:=(ni aV l.length (dA _)).2.2;rw [gu] at c8;have R:=hid aR;clear a1 I aR
    by_cases bd:2048<(fX l l.length).length
    . have bh:Hid (r = .error 2):=aY.trans (if_pos (Or.inl bd))
      have c5:(2048:Int)<((fX l l.length).length:Int):=N7
      generalize (fX l l.length).length=aK at *;exact Q8
    . have c5:¬ ((2048:Int)<((fX l l.length).length:Int)):=by omega
      by_cases bs:512<g9 l
      . have bh:Hid (r = .error 2):=aY.trans (if_pos (Or.inr bs))
        generalize (fX l l.length).length=aK at *;generalize g9 l=dd at *;exact Q8
      . have bh:Hid (r = .ok (fX l l.length,g9 l)):=aY.trans (if_neg N7)
        have cd:=hid (rq br (by omega:w.heap.size<=w2.heap.size))
        have bF:∀ k,(Value.slice bL (fX l l.length).length aB).ownBlock=some k->k≠w.heap.size:=fun k N e=>by have:=(br.lt k N).1;omega
        have bU:=hid bF;clear bF;generalize aA:(fX l l.length).length=aK at *;generalize g9 l=dd at *;clear bd D;go_wp2_with fail;refine bodyPost_ret (v:=.tuple #[.agg #[.slice bL aK aB,di dd],di 0]) Ps rfl ⟨?_,?_⟩
        . rw [bh.out]
          refine ⟨_,rfl,?_⟩;rw [aA];exact iZ (iZ cd (fun k N=>eh (p:=(dj w.heap.size 0)) (bU k N) _)) (fun k N=>eh (p:=(dj w.heap.size 1)) (bU k N) _)
        . exact (R.setCell (p:=(dj w.heap.size 0)) (dA _) _).setCell (p:=(dj w.heap.size 1)) (dA _) _
end Go.Proofs.YtndkhgakfodldaaGreatDoor
