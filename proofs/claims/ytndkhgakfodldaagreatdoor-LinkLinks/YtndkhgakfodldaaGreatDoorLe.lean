import Derived.Test.YtndkhgakfodldaaGreatDoorLa
import Derived.Test.YtndkhgakfodldaaGreatDoorRb
set_option maxRecDepth 100000
set_option maxHeartbeats 12800000
set_option linter.unusedSimpArgs false
set_option linter.unusedVariables false
open Go.Proofs.Tryz
open List renaming length → Ln
namespace Go.Proofs.YtndkhgakfodldaaGreatDoor
open Go.RowKit Go.Maps Go.Sort Go.WideMaps
variable {B I i j n p:Nat} {c:List fM} {e:TypeId} {l:List eO} {o:eO} {s:ByteArray} {v:Value} {w:World} {ae:List Value}
def tr (l:List eO) (j:Nat):fM:=match l[j]? with | some o=>⟨13,(Ln l:Int)+1+gJ (l.take j)+o.main,0⟩ | none=>⟨0,0,0⟩
def kJ (l:List eO) (j:Nat):List fM:=(List.range j).map (tr l)
theorem yS (l:List eO) (j:Nat):kJ l (j+1)=kJ l j++[tr l j]:=by unfold kJ;rw [sx,mq];rfl
theorem rW (l:List eO) (j:Nat):(kJ l j).length=j:=by simp [kJ]
theorem yT (h:j<Ln l):tr l j=⟨13,(Ln l:Int)+1+gJ (l.take j)+l[j].main,0⟩:=by unfold tr;rw [gb h]
theorem qT (U:(hD l).Nodup) (h:j<Ln l):ht l l[j].name.data.toList (Ln l)=some j:=by
 have G:=vw (l:=l) l[j].name.data.toList (Ln l) (eD _);rw [iA] at G
 have a8:(hD l).contains l[j].name.data.toList=true:=by
  rw [rj];exact po.2 ⟨l[j],fO h,rfl⟩
 rw [a8] at G;obtain ⟨i,X⟩:=Option.isSome_iff_exists.1 G;obtain ⟨_,a0,ah⟩:=rT _ _ _ (eD _) X;rw [X]
 have aw:(hD l)[i]'(by rw [th];exact a0)=(hD l)[j]'(by rw [th];exact h):=by simpa [hD] using ah
 rw [(List.getElem_inj U).1 aw]
theorem Dh (a b c d:Value):∀ w:World,(Instr.field 227 (.agg #[a,b,c,d]) 1).run prog w = .ok b w:=fun _=>by kernel_rfl
structure vz (l:List eO):Prop where
 main:∀ o ∈ l,0<=o.main/\o.main<=4096
 once:(hD l).Nodup
theorem Di (l:List eO) (K:Nat->Value) (a:OA) (I aV:Nat) (w:World) (aQ:jM w a l K) (ay:rS l) (bp:iw w aV l K (Ln l)) (aS:vz l) :
 ew 103 #[.slice a (Ln l) I,.map (some aV)] w fun e r=>∃ v,e = .returned v/\r.ownsRow w.heap.size 69 3 v (Ln l+1) (gj (kJ l (Ln l)++[⟨20,0,0⟩]))/\et w r:=by
 have bC:=aQ.bound;have a6:=ay.1;have aG:=hid aQ;have A:=hid bp;have aF:=hid ay;have d1:=hid aS;clear aQ bp ay aS;go_enter func103,ntmps103;go_wp2_with fail
 go_loopw [5,7,10] (fun c _ i wr=>∃ j:Nat,j<=Ln l/\i=em j/\wr.ownsRow w.heap.size 69 3 c j (gj (kJ l j))/\et w wr) (fun _ _ i _=>Ln l - (intOf i).toNat)
 case atStart=>exact ⟨0,eY _,rfl,ko _ _ _ _,Below.refl _ _⟩
 case round=>
  obtain ⟨j,ac,rfl,ba,F⟩:=hrel;obtain ⟨aA,bP,rfl, -, -⟩:=im ba;have cc:=hid ba;have ad:=hid F;clear ba
  by_cases a0:j<Ln l
  . obtain ⟨V,C,E,T,H,bc,aj,b9,al,b7,rfl,bz,bh,a9,a4,c3,am,aX,aR,aa, -, -⟩:=(aG.later F).get j a0
    have h:=aa.wn
    obtain ⟨Z,bn⟩:∃ Z,Z=wr.alloc (hE l[j].name E (Ln l[j].uses) T l[j].data H (Ln l[j].code) bc aj (Ln l[j].fixes) b9 al (Ln l[j].entries) b7 l[j].main):=⟨_,rfl⟩
    have a5:et wr Z:=by rw [bn];exact ey _ _
    have f:Z.heap[wr.heap.size]? = some (hE l[j].name E (Ln l[j].uses) T l[j].data H (Ln l[j].code) bc aj (Ln l[j].fixes) b9 al (Ln l[j].entries) b7 l[j].main):=by rw [bn];exact eT _ _
    have de:Z.heap.size=wr.heap.size+1:=by rw [bn];simp
    have aN:=hid bn;have bN:=F.size;have y:=(A.later (es F a5)).look h;rw [qT d1.out.once a0] at y;simp only [Option.elim,iF] at y;have cn:=hid (ownsRow_later cc a5);have bZ:=hid (es F a5);have cY:=hid (yT a0)
    have c7:=(nw aF j (by omega))
    obtain ⟨cJ,ci⟩:=d1.main l[j] (fO a0);have m:=lt_of_heap f
    have b0:∃ D aZ b6 bk bm a7,Z.heap[wr.heap.size]? = some (.cells #[.string l[j].name,aZ,b6,bk,bm,a7,em l[j].main] 62)/\D=0:=⟨0,_,_,_,_,_,f,rfl⟩
    generalize d:K j=ej at *;generalize bu:l[j].name=x at *;generalize o:l[j].main=mn at *;generalize gJ (l.take j)=bT at *;generalize gv (l.take j)=n at *
    have b8:IntKind.i64.wrap ((Ln l:Int)+1+bT+mn)=(Ln l:Int)+1+bT+mn:=by simp only [IntKind.wrap,IntKind.bits,IntKind.signed];simp;omega
    have t:=Dh (em j) (em ((Ln l:Int)+1+bT)) (em n) ej;clear a5 bn F;go_upto_region 5 with fail;rw [← aN.out];obtain ⟨b5,aL,aU,bd,z,c0,W,_⟩:=f6 f;clear f bh a9 a4 c3 am aX aR aa b0
    go_wp2_with (at_builtin;refine pL rfl (.tmp 14) (.tmp 24) 59 rfl w.heap.size 69 _ 3 24 Tryz.underlying59 Tryz.infoInstr rfl (by decide) Z (.slice aA j bP) j (gj (kJ l j)) rfl cn #[em 13,em ((Ln l:Int)+1+bT+mn),em 0] _ de.symm rfl rfl (qO ⟨13,_,0⟩) (by omega) (by decide) (by omega) _ rfl ?_;intro g bo eq aa;have b:=hid aa;have k:=aa.size;clear aa y t b5 aL aU bd z c0 W)
    go_wp2_with fail;go_roundw
    case rel=>exact ⟨j+1,by omega,by go_num,by rw [yS,cY.out,uR];exact b.own,bZ.trans b.below⟩
    case measure=>simp [intOf];omega
  . obtain rfl:j=Ln l:=by omega
    have bN:=F.size;clear F
    go_wp2_with (at_builtin;refine pL rfl (.tmp 27) (.tmp 29) 59 rfl w.heap.size 69 _ 3 24 Tryz.underlying59 Tryz.infoInstr rfl (by decide) wr (.slice aA (Ln l) bP) (Ln l) (gj (kJ l (Ln l))) rfl cc #[em 20,em 0,em 0] _ rfl rfl rfl (qO ⟨20,0,0⟩) (by omega) (by decide) (by omega) _ rfl ?_;intro g bo eq aa;have b:=hid aa;clear aa)
    go_wp2_with fail;go_ret;exact ⟨_,rfl,by rw [uR];exact b.own,ad.trans b.below⟩
theorem rX (b C j:Nat):((ep b C):Addr).add j=⟨b,C+j,none⟩:=by unfold Addr.add;split<;>simp_all
theorem vA {α:Type} (f:α->List Value) (n:Nat) (ag:∀ q,(f q).length=n):∀ (l:List α) (i:Nat) (h:i<Ln l) (j:Nat),j<n->(l.flatMap f)[i*n+j]? = (f l[i])[j]?
 | [],i,h,_,_=>by simp at h
 | q :: O,0,_,j,ac=>by
   have:=ag q;rw [lh,jq,hv,mR (by omega)]
   rfl
 | q :: O,i+1,h,j,ac=>by
   have:=ag q;rw [lh,om (by rw [Nat.add_mul];omega),pl,← vA f n ag O i (by simpa using h) j ac]
   congr 1
   rw [Nat.add_mul];omega
theorem rY (w:World) (Y:Nat) (d:TypeId) (v:Value) (ae:List fM) (aW:w.ownsRow Y 69 3 v (Ln ae) (gj ae)) (a:OA) (I:Nat) (M:List fM) (ax:Ln M≠0->∃ V C,a=some (ep V C)/\∀ j (h:j<Ln M),w.cell? ⟨V,C+j*3,none⟩=some (em M[j].op)/\w.cell? ⟨V,C+j*3+1,none⟩=some (em M[j].a)/\w.cell? ⟨V,C+j*3+2,none⟩=some (em M[j].b)) (F:Ln ae+Ln M<=4194304) (p:Y<=w.heap.size) :
 ∃ l r,(Builtin.append_ #[59,59] d #[v,.slice a (Ln M) I]).run prog w = .ok l r/\r.ownsRow Y 69 3 l (Ln ae+Ln M) (gj (ae++M))/\w.grownBy r v.ownBlock/\(l.ownBlock=v.ownBlock\/l.ownBlock=some w.heap.size):=by
 obtain ⟨bx,X,al,b0,bl⟩:=info_parts Tryz.infoInstr
 have b:∀ y:Addr,(∀ j (u:Value),(gj M)[j]? = some u->w.cell? (y.add j)=some u)->∃ l r,(Builtin.append_ #[59,59] d #[v,.slice (some y) (Ln M) I]).run prog w = .ok l r/\r.ownsRow Y 69 3 l (Ln ae+Ln M) (gj (ae++M))/\w.grownBy r v.ownBlock/\(l.ownBlock=v.ownBlock\/l.ownBlock=some w.heap.size):=by
  intro y a1
  obtain ⟨l,r,W,J,S,_,ap⟩:=run_append_own_at (P:=prog) w Y 59 d 69 bx _ 3 24 Tryz.underlying59 X al b0 bl rfl (by omega) v (Ln ae) _ aW y (Ln M) I (gj M) (Cj M) a1
   (fun u aI=>by unfold gj at aI;obtain ⟨i,_,h⟩:=List.mem_flatMap.1 aI;exact qO i u h) (by simp only [maxLen];omega) (by omega) p
  refine ⟨l,r,W,?_,S,ap⟩
  have:gj (ae++M)=gj ae++gj M:=by simp [gj]
  rw [this];exact J
 by_cases a3:Ln M≠0
 . obtain ⟨V,C,rfl,a1⟩:=ax a3
   refine b (ep V C) (fun j u aI=>?_)
   have ac:j<Ln M*3:=by rw [← Cj];exact (ss.1 aI).1
   have S:j=j / 3*3+j % 3:=by omega
   have D:j / 3<Ln M:=by omega
   obtain ⟨b5,aL,aU⟩:=a1 (j / 3) D;rw [rX];have af:(gj M)[j / 3*3+j % 3]? = (kj M[j / 3])[j % 3]?:=vA kj 3 (fun _=>rfl) M (j / 3) D (j % 3) (by omega);rw [← S,aI] at af
   have a8:j % 3=0\/j % 3=1\/j % 3=2:=by omega
   rcases a8 with h | h | h
   . rw [h] at af;cases af
     rw [show C+j=C+j / 3*3 by omega];exact b5
   . rw [h] at af;cases af
     rw [show C+j=C+j / 3*3+1 by omega];exact aL
   . rw [h] at af;cases af
     rw [show C+j=C+j / 3*3+2 by omega];exact aU
 . have z:M=[]:=ii (by omega)
   subst z
   cases a with
   | some y=>exact b y (fun j u h=>by simp [gj] at h)
   | none=>
     refine ⟨v,w,?_,by rw [ot];exact aW,⟨rfl,rfl,rfl,eD _,fun _ _ _=>rfl⟩,Or.inl rfl⟩
     rcases aW.2 with ⟨rfl,_⟩ | ⟨g,bo,o,rfl,_,af,U,_⟩
     . simp [Builtin.append_,run_underlying Tryz.underlying59,sizeOf,typeInfo,X,Builtin.lenOf,Builtin.firstCells]
     . simp [Builtin.append_,run_underlying Tryz.underlying59,sizeOf,typeInfo,X,Builtin.lenOf,Builtin.firstCells,loadCells,storeCells,U]
def nB (l:List eO) (o:eO) (f:gQ):Int:=ma f.kind (jl o f.at_) ((Ln l:Int)+1+gJ (l.take (f7 l o f.m))) (gv (l.take (f7 l o f.m))) (jm l (f7 l o f.m))
def gT (l:List eO) (o:eO):Nat->List fM
 | 0=>o.code
 | j+1=>match o.fixes[j]? with
   | some f=>(gT l o j).modify f.at_.toNat (nU (nB l o f))
   | none=>gT l o j
theorem kn (l:List eO) (o:eO):∀ j,(gT l o j).length=Ln o.code
 | 0=>rfl
 | j+1=>by
   rw [gT];split
   . rw [List.length_modify];exact kn l o j
   . exact kn l o j
theorem vB (l:List eO) (o:eO) (h:j<Ln o.fixes):gT l o (j+1)=(gT l o j).modify o.fixes[j].at_.toNat (nU (nB l o o.fixes[j])):=by
 rw [gT,gb h]
theorem Dj (o:eO) (h:j<Ln o.fixes):lx o (j+1)=o.fixes[j].at_:=by rw [lx,gb h]
theorem vC (h:gd o=0) (ac:j<Ln o.fixes):lx o j<o.fixes[j].at_:=by
 obtain ⟨_,_,_,ag⟩:=qS h;have:=iO.1 ag j ac;unfold kl at this;rw [gb ac] at this;simp only [fs] at this;exact of_decide_eq_true this.1
theorem vD (l:List eO) (h:gd o=0):∀ (j:Nat) (y:Nat),j<=Ln o.fixes->lx o j<y->(gT l o j)[y]? = o.code[y]?
 | 0,y,_,_=>rfl
 | j+1,y,ac,az=>by
   have a0:j<Ln o.fixes:=by omega
   have G:=vC h a0;rw [Dj o a0] at az;have a3:=(rU h a0).at0
   have aV:o.fixes[j].at_.toNat≠y:=by omega
   rw [vB l o a0,wS];simp only [if_neg aV,id_map'];exact vD l h j y (by omega) (by omega)
theorem vE {B':Nat} (h:w.ownsRow B e p v n ae) (ab:B'<=B):w.ownsRow B' e p v n ae:=by
 refine ⟨h.1,?_⟩
 rcases h.2 with G | ⟨g,I,o,a7,F,af,W⟩
 . exact Or.inl G
 . exact Or.inr ⟨g,I,o,a7,by omega,af,W⟩
theorem p3 (h:w.ownsRow B e p v n ae) (U:0<n):∃ g I,v = .slice (some (ep g 0)) n I/\B<=g/\g<w.heap.size:=by
 rcases h.2 with ⟨G,J⟩ | ⟨g,I,o,a7,F,af,_⟩
 . omega
 . exact ⟨g,I,a7,F,lt_of_heap af⟩
theorem yU {g:Nat} (h:w.ownsRow B 69 3 (.slice (some (ep g 0)) n I) n (gj c)) (p:Nat) (az:p<Ln c) (U:Ln c=n) :
 w.cell? ⟨g,p*3+1,none⟩=some (em c[p].a)/\w.frozen? ⟨g,p*3+1,none⟩=false/\g<w.heap.size/\∀ q,(w.setCell ⟨g,p*3+1,none⟩ (em q)).ownsRow B 69 3 (.slice (some (ep g 0)) n I) n (gj (c.modify p (nU q))):=by
 have a1:=h.cells (g:=g) rfl _ _ (Cm c p az);rw [rX,hv] at a1;have af:g<w.heap.size:=(h.lt g rfl).2;refine ⟨a1,?_,af,fun q=>?_⟩
 . rcases h.2 with ⟨G,_⟩ | ⟨aj,f,o,a7,_,af,_⟩
   . cases G
   . cases a7;exact ih af _
 . have ba:=ownsRow_set h (p*3+1) (em q) (by omega)
   rw [← xY c p q az] at ba;exact ba
theorem yV (a1:o0 l=true) (X:i<Ln l) (ac:j<Ln l[i].fixes):kI l l[i] l[i].fixes[j]=true:=by
 have G:=iO.1 a1 i X;unfold mc at G;rw [gb X] at G;have J:=iO.1 G j ac;unfold jw at J;rw [gb ac] at J;exact J
theorem yW (h:gd o=0):∀ q ∈ o.entries,0<=q/\q<=2048:=by
 obtain ⟨a8,_,a1,_⟩:=qS h;unfold j4 at a8;simp only [jf] at a8;have a2:=of_decide_eq_false a8.2.2.2;unfold hA at a1;simp only [fs] at a1;intro q Q;obtain ⟨i,X,rfl⟩:=kx Q;have:=iO.1 a1.2.1 i X;unfold nr at this;rw [gb X] at this;have:=of_decide_eq_true this;omega
theorem Dk (l:List eO) (K:Nat->Value) (a:OA) (aV:Nat) (w:World) (aQ:jM w a l K) (ay:rS l) (bp:iw w aV l K (Ln l)) (bb:∀ o ∈ l,gd o=0) (br:tj l) (a1:o0 l=true) (i:Nat) (X:i<Ln l)
 (E:OA) (T:Nat) (H:OA) (y3:Nat) (aj:OA) (y4:Nat) (al:OA) (y5:Nat) (aa:jk w l[i] E H aj al) :
 ew 104 #[.map (some aV),yN l[i] E T H y3 aj y4 al y5] w fun e r=>∃ v,e = .returned v/\r.ownsRow w.heap.size 69 3 v (Ln l[i].code) (gj (gT l l[i] (Ln l[i].fixes)))/\et w r:=by
 have dy:=aa.fixes.bound;have C:=aa.code.bound;have bs:=ay.2 l[i] (fO X);have cx:=bb l[i] (fO X);have aF:=hid ay;have aG:=hid aQ;have A:=hid bp;have bW:=hid aa;have ah:=hid bb;have cj:=hid (fun (R:Nat) (Q:R<Ln l[i].fixes)=>rU cx Q);have dz:=hid (fun (R:Nat) (Q:R<Ln l[i].fixes)=>vC cx Q);have dq:=hid (fun (R y:Nat) (G:R<=Ln l[i].fixes) (J:lx l[i] R<y)=>vD l cx R y G J);have cp:=hid (fun (m:Int) (a3:0<=m) (G:m<=Ln l[i].uses)=>tn br X a3 G);have cs:=hid (fun (j:Nat) (ac:j<Ln l[i].fixes)=>yV a1 X ac);have dk:=bs.1;have dl:=bs.2.1;clear aQ ay bp bb br a1 aa bs cx;generalize l[i]=o at *
 obtain ⟨M,L⟩:∃ M,M=w.alloc (hE o.name E (Ln o.uses) T o.data H (Ln o.code) y3 aj (Ln o.fixes) y4 al (Ln o.entries) y5 o.main):=⟨_,rfl⟩
 have S:et w M:=by rw [L];exact ey _ _
 have I:M.heap[w.heap.size]? = some (hE o.name E (Ln o.uses) T o.data H (Ln o.code) y3 aj (Ln o.fixes) y4 al (Ln o.entries) y5 o.main):=by rw [L];exact eT _ _
 have ap:M.heap.size=w.heap.size+1:=by rw [L];simp
 have aO:=hid L;have HbW:=hid S;have HoW:=hid I
 obtain ⟨aK,eq,ck,aW,d2, -⟩:=rY M M.heap.size 59 (eu) [] (ko _ _ _ _) H y3 o.code (fun U=>by
  obtain ⟨bj,ag,rfl,_⟩:=(bW.later S).code.gi 0 (by omega);refine ⟨bj,ag,rfl,fun j ac=>?_⟩;obtain ⟨e4,co',e,a2,bx,bQ,i2,_⟩:=(bW.later S).code.gi j ac
  cases e
  exact ⟨bx,bQ,i2⟩) (by simp;omega) (eD _)
 rw [w4,qt,hv] at aW;obtain ⟨g,bP,rfl,hgB,cM⟩:=p3 aW (by omega);have bh:=hid ck;have cg:=hid aW
 have ai:Below (w.heap.size+1) M eq:=by rw [← ap];exact (Below.refl _ _).grown d2 (eD _) (fun k N=>by simp [Value.ownBlock] at N)
 have B:=hid ai;have b0:=ai.size;obtain ⟨b5,aL,aU,bd,z,c0,W,_⟩:=f6 I;have a9:=lt_of_heap I;clear ck aW d2 L S I;go_enter func104,ntmps104;go_upto_region 1 with fail;rw [← aO.out];clear aO
 go_wp2_with (at_builtin;refine Lib.wpList_append_run _ rfl _ _ _ _ rfl _ _ rfl rfl _ eq bh ?_;clear b5 aL aU bd z c0 W;have z:=(f6 ((B.block _ (Nat.lt_succ_self _)).trans HoW)).2.2.2.2.1)
 clear z
 go_loopw [7,14] (fun _ i wr=>∃ j:Nat,j<=Ln o.fixes/\i=em j/\wr.ownsRow (w.heap.size+1) 69 3 (.slice (some (ep g 0)) (Ln o.code) bP) (Ln o.code) (gj (gT l o j))/\Below (w.heap.size+1) M wr) (fun _ i _=>Ln o.fixes - (intOf i).toNat)
 case atStart=>exact ⟨0,eY _,rfl,by rw [← ap];exact cg,B⟩
 case round=>
  obtain ⟨j,ac,rfl,ba,F⟩:=hrel;have cc:=hid ba;have ad:=hid F;have bk:et w wr:=HbW.trans (F.mono (by omega));have a8:=hid bk;have s:=(F.block _ (Nat.lt_succ_self _)).trans HoW;have dQ:=(ba.lt g rfl).2;have e3:=(ba.lt g rfl).1;clear ba
  by_cases a0:j<Ln o.fixes
  . obtain ⟨ch,fo,rfl,hfx⟩:=((bW.later bk).fixes).gf j a0
    obtain ⟨cN,fr2,fr3,fr4,fr5,fr6,fr7⟩:=cj j a0;obtain ⟨ao,c5⟩:=cp o.fixes[j].m fr6 fr7;obtain ⟨cq,bM,ax,bf, -, -, -⟩:=hfx;have aI:=hid (yR (o:=o) fr6 fr7);have cv:=hid (vB l o a0);have cV:=hid (cs j a0);have bB:=bW.uses.bound;have cB:=dz j a0;generalize o.fixes[j]=f at *
    obtain ⟨y,az⟩:∃ y:Nat,f.at_=y:=⟨f.at_.toNat,by omega⟩
    have c2:y<Ln o.code:=by omega
    have d5:y<(gT l o j).length:=by rw [kn];exact c2
    have cR:=dq j y (by omega) (by omega)
    have ak:Hid (jl o f.at_=(gT l o j)[y].a):=by
     have:(gT l o j)[y]=o.code[y]:=by
      rw [gb d5,gb c2] at cR;exact fe cR
     show jl o f.at_=_;rw [this,az];exact tp c2
    have dB:(y:Int)<Ln o.code:=by omega
    rw [ak.out] at fr4 fr5;rw [az] at bM
    obtain ⟨Z,bn⟩:∃ Z,Z=wr.alloc (.cells #[em y,em f.kind,em f.m] 67):=⟨_,rfl⟩
    have a5:et wr Z:=by rw [bn];exact ey _ _
    have aN:=hid bn
    have de:Z.heap.size=wr.heap.size+1:=by rw [bn];simp
    have cd:Z.heap[wr.heap.size]? = some (.cells #[em y,em f.kind,em f.m] 67):=by rw [bn];exact eT _ _
    have ab:=(a5.block _ (lt_of_heap s)).trans s;have V:=lt_of_heap ab;have x:=lt_of_heap cd;have HbX:=hid a5
    have a6:=hid (fun (M:World) (L:M.heap[w.heap.size]? = Z.heap[w.heap.size]?/\M.heap[wr.heap.size]? = Z.heap[wr.heap.size]?)=>(by
     obtain ⟨bT,aw,aE,b4,b8,u,aP,_⟩:=f6 (L.1.trans ab);obtain ⟨av,an,aD⟩:=rV (L.2.trans cd)
     exact ⟨bT,aw,aE,b4,b8,u,aP,av,an,aD⟩:M.cell? (ep w.heap.size 0)=some (.string o.name)/\M.cell? (ep w.heap.size 1)=some (.slice E (Ln o.uses) T)/\M.cell? (ep w.heap.size 2)=some (em o.data)/\M.cell? (ep w.heap.size 3)=some (.slice H (Ln o.code) y3)/\M.cell? (ep w.heap.size 4)=some (.slice (some (ep ch fo)) (Ln o.fixes) y4)/\M.cell? (ep w.heap.size 5)=some (.slice al (Ln o.entries) y5)/\M.cell? (ep w.heap.size 6)=some (em o.main)/\M.cell? (ep wr.heap.size 0)=some (em y)/\M.cell? (ep wr.heap.size 1)=some (em f.kind)/\M.cell? (ep wr.heap.size 2)=some (em f.m)))
    have aJ:=hid (fun M (L:et Z M)=>a6 M ⟨L.block _ V,L.block _ x⟩);have bZ:=hid (bk.trans (a5.mono bk.size));obtain ⟨_,_,_,_,_,_,_,_,bR,bU, -, -, -, -, -, -, -, -, -,be, -,hek⟩:=aG.get (f7 l o f.m) c5;rw [← p2 c5] at hek;have aq:=hid (fun M (L:et Z M)=>yQ l K aV M (A.later (es bZ L)) o E T H y3 (some (ep ch fo)) y4 al y5 (bW.later (es bZ L)) f.m _ aI _ ao bR _ bU hek);have cb:=be.entries.bound;have c7:=nw aF (f7 l o f.m) (by omega);have b9:=aF.1;have P:=ah _ (fO c5)
    have b1:Hid (∀ q ∈ jm l (f7 l o f.m),0<=q/\q<=2048):=by
     rw [p2 c5];exact yW P
    have bG:Hid (f.kind=2->(gT l o j)[y].a<(jm l (f7 l o f.m)).length):=fun au=>by
     have G:kI l o f=true:=cV.out;unfold kI at G;rw [ak.out] at G;simp [au] at G;exact G
    have p:=hid (fun M (L:et Z M)=>De (f7 l o f.m) ((Ln l:Int)+1+gJ (l.take (f7 l o f.m))) (gv (l.take (f7 l o f.m))) f.kind (gT l o j)[y].a (jm l (f7 l o f.m)) bR bU M (by rw [p2 c5];exact be.entries.later (es bZ L)) (by omega) (by omega) ⟨fr4,fr5⟩ bG b1)
    have a4:Hid (nB l o f=ma f.kind (gT l o j)[y].a ((Ln l:Int)+1+gJ (l.take (f7 l o f.m))) (gv (l.take (f7 l o f.m))) (jm l (f7 l o f.m))):=by show nB l o f=_;unfold nB;rw [ak.out]
    have cn:=hid (ownsRow_later cc a5);have b:=hid (fun M (L:et Z M)=>yU (ownsRow_later cn L) y d5 (kn l o j));have a7:=hek;clear a7 be hek ao a5 bn ab s cd F bk P cR cB cN fr2 fr6 fr7;generalize ma f.kind (gT l o j)[y].a ((Ln l:Int)+1+gJ (l.take (f7 l o f.m))) (gv (l.take (f7 l o f.m))) (jm l (f7 l o f.m))=Y at *;generalize (gT l o j)[y].a=A at *;generalize jm l (f7 l o f.m)=t at *;generalize ae:f7 l o f.m=mo at *;go_upto_region 5 with fail;rw [← aN.out];refine wp_region_held_drew (S:=(fun M=>M.cell? (ep w.heap.size 0)=some (.string o.name)/\M.cell? (ep w.heap.size 1)=some (.slice E (Ln o.uses) T)/\M.cell? (ep w.heap.size 2)=some (em o.data)/\M.cell? (ep w.heap.size 3)=some (.slice H (Ln o.code) y3)/\M.cell? (ep w.heap.size 4)=some (.slice (some (ep ch fo)) (Ln o.fixes) y4)/\M.cell? (ep w.heap.size 5)=some (.slice al (Ln o.entries) y5)/\M.cell? (ep w.heap.size 6)=some (em o.main)/\M.cell? (ep wr.heap.size 0)=some (em y)/\M.cell? (ep wr.heap.size 1)=some (em f.kind)/\M.cell? (ep wr.heap.size 2)=some (em f.m))) (by kernel_rfl) (aJ _ (ix Z)) (fun d=>?_)
    refine fL 0 (.slice (some (ep g 0)) (Ln o.code) bP) rfl (by kernel_rfl) (fun _ _ _ h=>h) (fun M L=>by kernel_rfl) d ?_;refine fL 1 (eL wr.heap.size 0) rfl (by kernel_rfl) (fun _ _ _ h=>h) (fun M L=>by kernel_rfl) d ?_;refine fL 2 (em y) rfl (by kernel_rfl) (fun _ _ _ h=>h) (fun M L=>by obtain ⟨b3,D,b6,fX,bw,s5,s6,s7,s8,s9⟩:=L;go_simp) d ?_;refine fL 3 (.map (some aV)) rfl (by kernel_rfl) (fun _ _ _ h=>h) (fun M L=>by kernel_rfl) d ?_;refine fL 4 (.agg #[.string o.name,.slice E (Ln o.uses) T,em o.data,.slice H (Ln o.code) y3,.slice (some (ep ch fo)) (Ln o.fixes) y4,.slice al (Ln o.entries) y5,em o.main]) rfl (by kernel_rfl) (fun _ _ _ h=>h) (fun M L=>by obtain ⟨b3,D,b6,fX,bw,s5,s6,s7,s8,s9⟩:=L;go_simp) d ?_;refine fL 5 (eL wr.heap.size 2) rfl (by kernel_rfl) (fun _ _ _ h=>h) (fun M L=>by kernel_rfl) d ?_
    refine fL 6 (em f.m) rfl (by kernel_rfl) (fun _ _ _ h=>h) (fun M L=>by obtain ⟨b3,D,b6,fX,bw,s5,s6,s7,s8,s9⟩:=L;go_simp) d ?_;refine fL 8 (eL wr.heap.size 1) rfl (by kernel_rfl) (fun _ _ _ h=>h) (fun M L=>by kernel_rfl) d ?_;refine fL 9 (em f.kind) rfl (by kernel_rfl) (fun _ _ _ h=>h) (fun M L=>by obtain ⟨b3,D,b6,fX,bw,s5,s6,s7,s8,s9⟩:=L;go_simp) d ?_;refine fL 10 (.slice (some (ep g 0)) (Ln o.code) bP) rfl (by kernel_rfl) (fun _ _ _ h=>h) (fun M L=>by kernel_rfl) d ?_;refine fL 11 (eL wr.heap.size 0) rfl (by kernel_rfl) (fun _ _ _ h=>h) (fun M L=>by kernel_rfl) d ?_;refine fL 12 (em y) rfl (by kernel_rfl) (fun _ _ _ h=>h) (fun M L=>by obtain ⟨b3,D,b6,fX,bw,s5,s6,s7,s8,s9⟩:=L;go_simp) d ?_;refine fL 13 (.pointer (some ⟨g,y*3,none⟩)) rfl (by kernel_rfl) (fun _ _ _ h=>h) (fun M L=>by go_simp) d ?_
    refine fL 14 (.pointer (some ⟨g,y*3+1,none⟩)) rfl (by kernel_rfl) (fun _ _ _ h=>h) (fun M L=>by kernel_rfl) d ?_;have bq:=(b _ (ix Z)).1
    (try simp only [Act.put,gD,gE,gH])
    refine wpAnyH_ready (rs:=[7,15]) (by kernel_rfl) (by simp) ?_;refine AllReadyH.cons rfl ?_ (AllReadyH.cons rfl ?_ AllReadyH.nil)
    . intro c aA
      clear bq;go_simp
      go_wp2_with (go_at_call 146;refine (aq _ (ix Z)).mono ?_;rintro e eW ⟨rfl,O⟩)
      have bD:=hid (es (ix Z) O);refine aA.out _ _ (aJ _ bD) (fun d=>?_);clear aA c O
      (try simp only [Act.put,gD,gE,gH])
      have bq:=(b _ bD).1;refine wpAnyH_ready (rs:=[15]) (by kernel_rfl) (by simp) ?_;refine AllReadyH.cons rfl ?_ AllReadyH.nil;intro c aA;go_simp;refine aA.out _ _ (aJ _ bD) (fun d=>?_);clear aA c bq
      (try simp only [Act.put,gD,gE,gH])
      refine wpAnyH_ready (rs:=[16]) (by kernel_rfl) (by simp) ?_;refine AllReadyH.cons rfl ?_ AllReadyH.nil;intro c aA;go_simp
      go_wp2_with (go_at_call 147;refine (p _ bD).mono ?_;rintro e aY ⟨rfl,n⟩)
      have af:=hid (es bD n);refine aA.out _ _ (aJ _ af) (fun d=>?_);clear aA c n
      (try simp only [Act.put,gD,gE,gH])
      refine fL 17 (.pointer (some ⟨g,y*3,none⟩)) rfl (by kernel_rfl) (fun _ _ _ h=>h) (fun M L=>by go_simp) d ?_;refine fL 18 (.pointer (some ⟨g,y*3+1,none⟩)) rfl (by kernel_rfl) (fun _ _ _ h=>h) (fun M L=>by kernel_rfl) d ?_;have Q:=b _ af;have aT:=Q.1;have bX:=Q.2.1;have bY:=Q.2.2.1;clear Q;refine wpAnyH_ready (rs:=[19]) (by kernel_rfl) (by simp) ?_;refine AllReadyH.cons rfl ?_ AllReadyH.nil;intro c aA;go_simp;refine aA.out _ _ (a6 _ ⟨(fa (p:=⟨g,y*3+1,none⟩) (by show w.heap.size≠g;omega) _).trans (af.block _ V),(fa (p:=⟨g,y*3+1,none⟩) (by show wr.heap.size≠g;omega) _).trans (af.block _ x)⟩) (fun d=>?_);clear aA c aT bX bY;refine wpAnyH_done (by kernel_rfl) ?_ _;clear d;go_simp;have co:=af.size;clear aq p aJ a6;go_wp2_with fail;go_roundw
      case rel=>exact ⟨j+1,by omega,by go_num,by rw [cv.out,a4.out,az];exact (b _ af).2.2.2 Y,(ad.trans ((HbX.trans (af.mono (by omega))).mono (by omega))).setCell (p:=⟨g,y*3+1,none⟩) (by show w.heap.size+1<=g;omega) _⟩
      case measure=>simp [intOf];omega
    . intro c aA
      go_simp;refine aA.out _ _ (aJ _ (ix Z)) (fun d=>?_);clear aA c bq
      (try simp only [Act.put,gD,gE,gH])
      refine wpAnyH_ready (rs:=[7]) (by kernel_rfl) (by simp) ?_;refine AllReadyH.cons rfl ?_ AllReadyH.nil;intro c aA;go_simp
      go_wp2_with (go_at_call 146;refine (aq _ (ix Z)).mono ?_;rintro e eW ⟨rfl,O⟩)
      have bD:=hid (es (ix Z) O);refine aA.out _ _ (aJ _ bD) (fun d=>?_);clear aA c O
      (try simp only [Act.put,gD,gE,gH])
      refine wpAnyH_ready (rs:=[16]) (by kernel_rfl) (by simp) ?_;refine AllReadyH.cons rfl ?_ AllReadyH.nil;intro c aA;go_simp
      go_wp2_with (go_at_call 147;refine (p _ bD).mono ?_;rintro e aY ⟨rfl,n⟩)
      have af:=hid (es bD n);refine aA.out _ _ (aJ _ af) (fun d=>?_);clear aA c n
      (try simp only [Act.put,gD,gE,gH])
      refine fL 17 (.pointer (some ⟨g,y*3,none⟩)) rfl (by kernel_rfl) (fun _ _ _ h=>h) (fun M L=>by go_simp) d ?_;refine fL 18 (.pointer (some ⟨g,y*3+1,none⟩)) rfl (by kernel_rfl) (fun _ _ _ h=>h) (fun M L=>by kernel_rfl) d ?_;have Q:=b _ af;have aT:=Q.1;have bX:=Q.2.1;have bY:=Q.2.2.1;clear Q;refine wpAnyH_ready (rs:=[19]) (by kernel_rfl) (by simp) ?_;refine AllReadyH.cons rfl ?_ AllReadyH.nil;intro c aA;go_simp;refine aA.out _ _ (a6 _ ⟨(fa (p:=⟨g,y*3+1,none⟩) (by show w.heap.size≠g;omega) _).trans (af.block _ V),(fa (p:=⟨g,y*3+1,none⟩) (by show wr.heap.size≠g;omega) _).trans (af.block _ x)⟩) (fun d=>?_);clear aA c aT bX bY;refine wpAnyH_done (by kernel_rfl) ?_ _;clear d;go_simp;have co:=af.size;clear aq p aJ a6;go_wp2_with fail;go_roundw
      case rel=>exact ⟨j+1,by omega,by go_num,by rw [cv.out,a4.out,az];exact (b _ af).2.2.2 Y,(ad.trans ((HbX.trans (af.mono (by omega))).mono (by omega))).setCell (p:=⟨g,y*3+1,none⟩) (by show w.heap.size+1<=g;omega) _⟩
      case measure=>simp [intOf];omega
  . obtain rfl:j=Ln o.fixes:=by omega
    have aS:=F.size;clear s bk;go_wp2_with fail;go_ret;exact ⟨_,rfl,vE cc (by omega),HbW.trans (ad.mono (by omega))⟩
def nD:List eO->Int
 | []=>0
 | o :: O=>if gd o≠0 then gd o else nD O
theorem vF:∀ l:List eO,(∀ i (h:i<Ln l),gd l[i]=0)->nD l=0
 | [],_=>rfl
 | o :: O,h=>by
   have a3:gd o=0:=h 0 (by simp);unfold nD;rw [if_neg (by rw [a3];exact fun e=>e rfl)];exact vF O (fun i X=>h (i+1) (by simpa using X))
theorem vG:∀ (l:List eO) (j:Nat) (ac:j<Ln l),(∀ i (h:i<j),gd l[i]=0)->gd l[j]≠0->nD l=gd l[j]
 | o :: O,0,_,_,U=>by
   unfold nD;rw [if_pos (show gd o≠0 from U)]
   rfl
 | o :: O,j+1,ac,h,U=>by
   have a3:gd o=0:=h 0 (by omega);unfold nD;rw [if_neg (by rw [a3];exact fun e=>e rfl)];exact vG O j (by simpa using ac) (fun i X=>h (i+1) (by omega)) U
theorem yX:∀ {l:List eO},nD l=0->∀ o ∈ l,gd o=0
 | o :: O,h,q,Q=>by
   unfold nD at h
   by_cases a3:gd o=0
   . rw [if_neg (by rw [a3];exact fun e=>e rfl)] at h
     rcases lM.1 Q with rfl | Q
     . exact a3
     . exact yX h q Q
   . rw [if_pos a3] at h
     exact absurd h a3
def jx (l:List eO):Int:=if (Ln l)<1\/4<Ln l then 2 else if nD l≠0 then nD l else if ¬ (hD l).Nodup then 6 else if ny l=false then 9 else if o0 l=false then 5 else 0
theorem vH (h:gd o=0):1<=Ln o.code/\Ln o.code<=2048/\0<=o.data/\o.data<=512:=by
 obtain ⟨a8,_,a1,_⟩:=qS h;unfold j4 at a8;simp only [jf] at a8;have G:=of_decide_eq_false a8.2.2.1;have J:=of_decide_eq_false a8.2.2.2;unfold hA oW at a1;simp only [fs] at a1;have S:=of_decide_eq_true a1.2.2.2;omega
theorem yY (h:gd o=0):0<=o.main/\o.main<Ln o.code:=by
 obtain ⟨a8,_,a1,_⟩:=qS h;unfold hA oW at a1;simp only [fs] at a1;exact of_decide_eq_true a1.2.2.1
theorem vI (a6:Ln l<=4) (h:∀ o ∈ l,gd o=0):rS l:=⟨a6,fun o aa=>vH (h o aa)⟩
theorem tt (U:(hD l).Nodup) (ab:ny l=true):tj l:=fun i X m a3 G=>by
 unfold nA
 by_cases a8:m=0
 . rw [if_pos a8,qT U X];rfl
 . rw [if_neg a8]
   have J:=iO.1 ab i X;unfold k5 at J;rw [gb X] at J
   have N:(m - 1).toNat<Ln l[i].uses:=by omega
   have S:=hJ.1 J l[i].uses[(m - 1).toNat] (fO N);rw [lJ,gb N];show (ht l (l[i].uses[(m - 1).toNat]).data.toList (Ln l)).isSome=true;unfold k4 at S
   cases e:ht l (l[i].uses[(m - 1).toNat]).data.toList (Ln l) with
   | none=>rw [e] at S;cases S
   | some k=>rfl
theorem vJ (l:List eO) (K:Nat->Value) (a:OA) (I:Nat) (w:World) (aQ:jM w a l K) :
 ew 43 #[.slice a (Ln l) I] w fun e r=>e = .returned (em (jx l))/\et w r:=by
 have bC:=aQ.bound;have aG:=hid aQ;clear aQ
 obtain ⟨O,W⟩:∃ O,O=jx l:=⟨_,rfl⟩
 rw [← W];unfold jx at W;have z:=hid W;clear W;go_enter func43,ntmps43
 by_cases G:Ln l<1
 . have ae:Hid (O=2):=z.trans (if_pos (Or.inl G))
   have c:(Ln l:Int)<1:=by omega
   have d:¬ (4<(Ln l:Int)):=by omega
   go_wp2_with fail;go_ret;exact ⟨by rw [ae.out];rfl,Below.refl _ _⟩
 by_cases a6:4<Ln l
 . have ae:Hid (O=2):=z.trans (if_pos (Or.inr a6))
   have c:¬ ((Ln l:Int)<1):=by omega
   have d:(4:Int)<(Ln l:Int):=by omega
   go_wp2_with fail;go_ret;exact ⟨by rw [ae.out];rfl,Below.refl _ _⟩
 have aZ:=hid (z.trans (if_neg (by omega)))
 have c:¬ ((Ln l:Int)<1):=by omega
 have d:¬ (4<(Ln l:Int)):=by omega
 go_wp2_with fail;clear c d
 go_loopw [4,5,17] (fun _ _ i wr=>∃ j:Nat,j<=Ln l/\i=em j/\(∀ k (h:k<Ln l),k<j->gd l[k]=0)/\et w wr) (fun _ _ i _=>Ln l - (intOf i).toNat)
 case atStart=>exact ⟨0,eY _,rfl,fun k _ h=>absurd h (jU _),Below.refl _ _⟩
 case round=>
  obtain ⟨j,ac,rfl,aO,F⟩:=hrel;have ar:=hid aO;have ad:=hid F;clear aO
  by_cases a0:j<Ln l
  . obtain ⟨V,C,E,T,H,bc,aj,b9,al,b7,rfl,bz,bh,a9,a4,c3,am,aX,aR,aa,s, -⟩:=(aG.later F).get j a0
    have ao:=hid (CZ l[j] E T H bc aj b9 al b7 (wr.alloc (hE l[j].name E (Ln l[j].uses) T l[j].data H (Ln l[j].code) bc aj (Ln l[j].fixes) b9 al (Ln l[j].entries) b7 l[j].main)) (aa.later (ey _ _)) s);clear aa s F;go_wp2_with fail;refine ao.mono ?_;rintro e w2 ⟨rfl,aB⟩;have aM:=hid (es ad (es (ey wr _) aB));clear aB ao bh a9 a4 c3 am aX aR
    by_cases aS:gd l[j]=0
    . have ai:Hid (∀ k (h:k<Ln l),k<j+1->gd l[k]=0):=fun k h N=>by
       by_cases ah:k=j
       . subst ah;exact aS
       . exact ar k h (by omega)
      go_wp2_with fail;go_roundw
      case rel=>exact ⟨j+1,by omega,by go_num,ai,aM⟩
      case measure=>simp [intOf];omega
    . have ae:Hid (O=gd l[j]):=by
       have ah:=vG l j a0 (fun k N=>ar k (by omega) N) aS;show O=_;rw [aZ.out,if_pos (by rw [ah];exact aS),ah]
      generalize gd l[j]=z at *;go_wp2_with fail;go_ret;exact ⟨by rw [ae.out];rfl,aM⟩
  . obtain rfl:j=Ln l:=by omega
    have aO:∀ o ∈ l,gd o=0:=fun o aa=>by
     obtain ⟨i,X,rfl⟩:=kx aa;exact ar i X X
    have aH:=hid aO;have aF:=hid (vI (by omega) aO);have b3:=hid (aZ.trans (if_neg (by rw [vF l (fun i h=>ar.out i h h)];exact fun e=>e rfl)));have af:=hid (yM l K a I wr (aG.later F) aF);clear aO aZ ar F;go_wp2_with fail;refine af.mono ?_;rintro e w2 ⟨aV,rfl,bp,aB⟩;have aM:=hid (es ad aB);have A:=hid bp;obtain ⟨m,a8,ci,b⟩:=bp.len;have cz:=hid (Dd l K a I aV w2 (aG.later aM) (by omega) bp);have cp:=hid (fun (U:(hD l).Nodup) (ab:ny l=true) M (L:et w2 M)=>Dg l K a I aV M (aG.later (es aM L)) (by omega) (A.later L) aH (tt U ab));clear bp aB af
    by_cases U:(hD l).Nodup
    . obtain rfl:=ci U
      have dA:¬ ((Ln l:Int)<(Ln l:Int)):=by omega
      have b4:=hid (b3.trans (if_neg (fun h=>h U)));have d0:=hid U;clear ci b U b3;go_wp2_with fail;refine cz.mono ?_;rintro e eC ⟨rfl,a2⟩;have aP:=hid a2;clear a2 cz a8
      cases ab:ny l with
      | false=>
        have ae:Hid (O=9):=b4.trans (if_pos ab);clear ab;go_wp2_with fail;go_ret;exact ⟨by rw [ae.out];rfl,es aM aP⟩
      | true=>
        have bu:=hid (b4.trans (if_neg (by rw [ab];decide)));have ao:=hid (cp d0 ab eC aP);clear ab;go_wp2_with fail;refine ao.mono ?_;rintro e eA ⟨rfl,aW⟩;have b1:=hid (es aP aW);clear aW ao
        cases a1:o0 l with
        | false=>
          have ae:Hid (O=5):=bu.trans (if_pos a1);clear a1;go_wp2_with fail;go_ret;exact ⟨by rw [ae.out];rfl,es aM b1⟩
        | true=>
          have ae:Hid (O=0):=bu.trans (if_neg (by rw [a1];decide));clear a1;go_wp2_with fail;go_ret;exact ⟨by rw [ae.out];rfl,es aM b1⟩
    . have ax:=b U
      have dA:(m:Int)<(Ln l:Int):=by omega
      have ae:Hid (O=6):=b3.trans (if_pos U);clear ci b U b3 cz cp;go_wp2_with fail;go_ret;exact ⟨by rw [ae.out];rfl,aM⟩
def gK (l:List eO) (j:Nat):List fM:=(kJ l (Ln l)++[⟨20,0,0⟩])++(l.take j).flatMap (fun o=>gT l o (Ln o.fixes))
theorem vK (l:List eO) (h:j<Ln l):gK l (j+1)=gK l j++gT l l[j] (Ln l[j].fixes):=by
 unfold gK;rw [hI h,AA];simp
theorem tv (l:List eO):∀ j,j<=Ln l->((gK l j).length:Int)=Ln l+1+gJ (l.take j)
 | 0,_=>by simp [gK,rW,gJ]
 | j+1,h=>by
   have aH:=tv l j (by omega);rw [vK l (by omega:j<Ln l),gn,kn,te (by omega:j<Ln l)];omega
def kK (l:List eO):Except Int (List fM × Int):=if jx l≠0 then .error (jx l) else if 2048<(gK l (Ln l)).length\/512<gv l then .error 2 else .ok (gK l (Ln l),gv l)
def tw (K:Nat) (O:Except Int (List fM × Int)) (e:Ending) (w:World):Prop:=
 match O with
 | .error c=>e = .returned (.tuple #[.agg #[.slice none 0 0,.int .i64 0],.int .i64 c])/\c≠0
 | .ok (c,o)=>∃ v,e = .returned (.tuple #[.agg #[v,.int .i64 o],.int .i64 0])/\w.ownsRow K 69 3 v (Ln c) (gj c)
theorem yZ (h:jx l=0):1<=Ln l/\Ln l<=4/\(∀ o ∈ l,gd o=0)/\(hD l).Nodup/\ny l=true/\o0 l=true:=by
 unfold jx at h
 split at h
 . cases h
 . rename_i G
   split at h
   . rename_i J;exact absurd h J
   . rename_i J
     split at h
     . cases h
     . rename_i S
       split at h
       . cases h
       . rename_i a6
         split at h
         . cases h
         . rename_i ap
           exact ⟨by omega,by omega,yX (by simpa using J),by simpa using S,by simpa using a6,by simpa using ap⟩
theorem jy {b:Nat} {af E:Value} {t:TypeId} (h:w.heap[b]? = some (.cells #[af,E] t (0,0))):w.cell? (ep b 0)=some af/\w.cell? (ep b 1)=some E/\∀ i,w.frozen? (ep b i)=false:=by
 refine ⟨?_,?_,fun i=>ih h i⟩<;>(rw [fU h];rfl)
theorem rZ {a:OA} (h:w.ownsRow B 69 3 (.slice a (Ln c) I) (Ln c) (gj c)) (U:Ln c≠0):∃ V C,a=some (ep V C)/\∀ j (ac:j<Ln c),w.cell? ⟨V,C+j*3,none⟩=some (em c[j].op)/\w.cell? ⟨V,C+j*3+1,none⟩=some (em c[j].a)/\w.cell? ⟨V,C+j*3+2,none⟩=some (em c[j].b):=by
 obtain ⟨g,f,e,_,_⟩:=p3 h (by omega)
 injection e with aw _ _
 subst aw;refine ⟨g,0,rfl,fun j ac=>?_⟩
 have a1:∀ k,k<3->∀ u,(kj c[j])[k]? = some u->w.cell? ⟨g,j*3+k,none⟩=some u:=fun k N u aI=>by
  have:=h.cells (g:=g) rfl (j*3+k) u ((vA kj 3 (fun _=>rfl) c j ac k N).trans aI);rwa [rX,hv] at this
 rw [hv];exact ⟨a1 0 (by omega) _ rfl,a1 1 (by omega) _ rfl,a1 2 (by omega) _ rfl⟩
theorem vL (l:List eO) (K:Nat->Value) (a:OA) (I:Nat) (w:World) (aQ:jM w a l K) :
 ew 40 #[.slice a (Ln l) I] w fun e r=>tw w.heap.size (kK l) e r/\et w r:=by
 have bC:=aQ.bound;have aG:=hid aQ;have ao:=hid (vJ l K a I (w.alloc (.cells #[eu,em 0] 81)) (aQ.later (ey _ _)));clear aQ
 obtain ⟨O,W⟩:∃ O,O=kK l:=⟨_,rfl⟩
 rw [← W];unfold kK at W;have z:=hid W;clear W;go_enter func40,ntmps40;go_wp2_with fail;refine ao.mono ?_;rintro e eq ⟨rfl,ai⟩;have B:=hid (es (ey w _) ai);have c4:=hid ((ai.block w.heap.size (by simp)).trans (eT w (.cells #[eu,em 0] 81)));have b0:=ai.size;simp at b0;obtain ⟨bg,b2,rf⟩:=jy c4;have c8:=lt_of_heap c4;clear ai ao
 by_cases ah:jx l=0
 rotate_left
 . have ae:Hid (O = .error (jx l)):=z.trans (if_pos ah)
   generalize jx l=z at *;have cE:=hid ah;go_wp2_with fail;refine bodyPost_ret (v:=.tuple #[.agg #[eu,em 0],em z]) (by simp [results,results40,go_sem,bg,b2,c8]) rfl ⟨by rw [ae.out];exact ⟨rfl,cE⟩,?_⟩;exact (B.setCell (p:=(ep w.heap.size 0)) (eD _) _).setCell (p:=(ep w.heap.size 1)) (eD _) _
 obtain ⟨ak,au,aI,bq,c9,k6⟩:=yZ ah;have aZ:=hid (z.trans (if_neg (fun h=>h ah)));have aH:=hid aI;have aF:=hid (vI au aI);have d0:=hid bq;have d7:=hid (tt bq c9);have cs:=hid k6
 have d1:Hid (vz l):=⟨fun o aa=>by have:=yY (aI o aa);have:=vH (aI o aa);omega,bq⟩
 have af:=hid (yM l K a I eq (aG.later B) aF);rw [ah];clear z aI bq c9 k6 ah;go_wp2_with fail;refine af.mono ?_;rintro e w2 ⟨aV,rfl,bp,aB⟩;have aM:=hid (es B aB);have A:=hid bp;have bl:=aB.size;have ce:=hid ((aB.block _ c8).trans c4);have cY:=hid (Di l K a I aV w2 (aG.later aM) aF bp d1);clear bp aB af bg b2 rf;go_wp2_with fail;refine cY.mono ?_;rintro e eC ⟨aY,rfl,ho3,a2⟩;obtain ⟨a7,c3,rfl, -, -⟩:=im ho3;have aq:=hid ho3;have bE:=a2.size
 have bx:=fun k N=>(ho3.lt k N).2
 obtain ⟨b,aS⟩:∃ b,b=eC.heap.size:=⟨_,rfl⟩
 obtain ⟨M,L⟩:∃ M,M=eC.alloc (.cells #[.slice a7 (Ln l+1) c3,em 0] 81):=⟨_,rfl⟩
 have S:et eC M:=by rw [L];exact ey _ _
 have HbW:=hid S;have aO:=hid L
 have bm:Hid (M.heap[b]? = some (.cells #[.slice a7 (Ln l+1) c3,em 0] 81)):=by rw [aS,L];exact eT _ _
 have bt:=hid (a2.trans (S.mono bE))
 have bj:Hid (∀ k,(Value.slice a7 (Ln l+1) c3).ownBlock=some k->k≠b):=fun k N e=>by have:=bx k N;omega
 have ap:M.heap.size=b+1:=by rw [L,aS];simp
 have bv:w2.heap.size<=b:=by omega
 have dh:w.heap.size<b:=by omega
 have bL:=hid aS;clear ho3 a2 cY L S bx;go_upto_region 6 with fail;rw [← aO.out,← aS];clear aO aS;go_wp2_with fail
 go_loopw [8,23] (fun _ i wr=>∃ (j:Nat) (bV:Value),j<=Ln l/\i=em j/\wr.heap[b]? = some (.cells #[bV,em (gv (l.take j))] 81 (0,0))/\wr.ownsRow w2.heap.size 69 3 bV (gK l j).length (gj (gK l j))/\bV.ownBlock≠some b/\et w2 wr) (fun _ i _=>Ln l - (intOf i).toNat)
 case atStart=>
  refine ⟨0,_,eY _,rfl,bm,?_,fun h=>bj _ h rfl,bt⟩
  have aw:gK l 0=kJ l (Ln l)++[⟨20,0,0⟩]:=by simp [gK]
  have aE:(gK l 0).length=Ln l+1:=by rw [aw];simp [rW]
  rw [aE,aw];exact ownsRow_later aq HbW
 case round=>
  obtain ⟨j,bV,ac,rfl,a8,ba,hvm,F⟩:=hrel;have v:=hid hvm;have ad:=hid F;have aL:=hid a8;have cc:=hid ba;have bd:=lt_of_heap a8;have bk:=es aM F;have c7:=nw aF j ac;have cy:=tv l j ac;have J:=hid ((F.block _ (gl (lt_of_heap ce) (eD _))).trans ce);obtain ⟨aK,bP,hvc, -, -⟩:=im ba;clear hvm ba
  by_cases a0:j<Ln l
  . obtain ⟨V,C,E,T,H,bc,aj,b9,al,b7,rfl,bz,bh,a9,a4,t,am,aX,aR,aa, -, -⟩:=(aG.later bk).get j a0
    clear hvc;have a1:=a0;have bs:=aF.2 l[j] (fO a0);have dk:=bs.1;have dl:=bs.2.1;have dI:=bs.2.2.1;have du:=bs.2.2.2;have Y:=tg a0
    obtain ⟨o,g⟩:∃ o,o=l[j]:=⟨_,rfl⟩
    have cv:=hid (vK l a0)
    obtain ⟨Z,bn⟩:∃ Z,Z=wr.alloc (hE o.name E (Ln o.uses) T o.data H (Ln o.code) bc aj (Ln o.fixes) b9 al (Ln o.entries) b7 o.main):=⟨_,rfl⟩
    have a5:et wr Z:=by rw [bn];exact ey _ _
    have aN:=hid bn
    have de:Z.heap.size=wr.heap.size+1:=by rw [bn];simp
    have ab:Z.heap[wr.heap.size]? = some (hE o.name E (Ln o.uses) T o.data H (Ln o.code) bc aj (Ln o.fixes) b9 al (Ln o.entries) b7 o.main):=by rw [bn];exact eT _ _
    have a6:=hid (fun (x:World) (L:x.heap[wr.heap.size]? = some (hE o.name E (Ln o.uses) T o.data H (Ln o.code) bc aj (Ln o.fixes) b9 al (Ln o.entries) b7 o.main))=>(by
     obtain ⟨bT,aw,aE,b4,b8,u,aP,_⟩:=f6 L
     exact ⟨bT,aw,aE,b4,b8,u,aP⟩:x.cell? (ep wr.heap.size 0)=some (.string o.name)/\x.cell? (ep wr.heap.size 1)=some (.slice E (Ln o.uses) T)/\x.cell? (ep wr.heap.size 2)=some (em o.data)/\x.cell? (ep wr.heap.size 3)=some (.slice H (Ln o.code) bc)/\x.cell? (ep wr.heap.size 4)=some (.slice aj (Ln o.fixes) b9)/\x.cell? (ep wr.heap.size 5)=some (.slice al (Ln o.entries) b7)/\x.cell? (ep wr.heap.size 6)=some (em o.main)))
    have aJ:=hid (fun x (L:et Z x)=>a6 x ((L.block _ (lt_of_heap ab)).trans ab));have bZ:=hid (F.trans (a5.mono F.size));have p:=hid ((a5.block _ bd).trans a8);have az:=hid (fun x (L:et Z x)=>jy ((L.block _ (lt_of_heap p)).trans p));have cn:=hid (fun x (L:et Z x)=>ownsRow_later (ownsRow_later cc a5) L)
    have G:Hid (bV.ownBlock≠some wr.heap.size):=fun h=>by have:=(cc.lt _ h).2;omega
    have an:Hid (∀ {P:Value} {n:Nat},(P.ownBlock=bV.ownBlock\/P.ownBlock=some n)->n≠b->P.ownBlock≠some b):=fun h U e=>h.elim (fun h=>v (h.symm.trans e)) (fun h=>U (fe (h.symm.trans e)))
    have cj:=hid (fun x (L:et Z x)=>Dk l K (some (ep V C)) aV x (aG.later (es (es aM (F.trans (a5.mono F.size))) L)) aF (A.later (es (F.trans (a5.mono F.size)) L)) aH d7 cs j a0 E T H bc aj b9 al b7 ((aa.later a5).later L));rw [← g] at cj dk dl dI du Y cv bh a9 a4 t am aX aR;clear aa a8 bs;clear g a5 bn F bk;go_upto_region 9 with fail;rw [← aN.out];refine wp_region_held_drew (S:=(fun x=>x.cell? (ep wr.heap.size 0)=some (.string o.name)/\x.cell? (ep wr.heap.size 1)=some (.slice E (Ln o.uses) T)/\x.cell? (ep wr.heap.size 2)=some (em o.data)/\x.cell? (ep wr.heap.size 3)=some (.slice H (Ln o.code) bc)/\x.cell? (ep wr.heap.size 4)=some (.slice aj (Ln o.fixes) b9)/\x.cell? (ep wr.heap.size 5)=some (.slice al (Ln o.entries) b7)/\x.cell? (ep wr.heap.size 6)=some (em o.main))) (by kernel_rfl) (aJ _ (ix Z)) (fun d=>?_)
    refine fL 0 (eL b 0) rfl (by kernel_rfl) (fun _ _ _ h=>h) (fun M L=>by kernel_rfl) d ?_;refine fL 2 (.map (some aV)) rfl (by kernel_rfl) (fun _ _ _ h=>h) (fun M L=>by kernel_rfl) d ?_;refine fL 3 (.agg #[.string o.name,.slice E (Ln o.uses) T,em o.data,.slice H (Ln o.code) bc,.slice aj (Ln o.fixes) b9,.slice al (Ln o.entries) b7,em o.main]) rfl (by kernel_rfl) (fun _ _ _ h=>h) (fun M L=>by obtain ⟨b3,D,b6,fX,bw,s5,s6⟩:=L;go_simp) d ?_;have cJ:=(az _ (ix Z)).1
    (try simp only [Act.put,gD,gE,gH])
    refine wpAnyH_ready (rs:=[1,4]) (by kernel_rfl) (by simp) ?_;refine AllReadyH.cons rfl ?_ (AllReadyH.cons rfl ?_ AllReadyH.nil)
    . intro c aA
      go_simp;refine aA.out _ _ (aJ _ (ix Z)) (fun d=>?_);clear aA c cJ
      (try simp only [Act.put,gD,gE,gH])
      refine wpAnyH_ready (rs:=[4]) (by kernel_rfl) (by simp) ?_;refine AllReadyH.cons rfl ?_ AllReadyH.nil;intro c aA;go_simp
      go_wp2_with (go_at_call 104;refine (cj _ (ix Z)).mono ?_;rintro e eA ⟨be,rfl,ho4,aW⟩)
      have b1:=hid (es (ix Z) aW);have a3:=hid ho4;refine aA.out _ _ (aJ _ b1) (fun d=>?_);clear aA c aW ho4
      (try simp only [Act.put,gD,gE,gH])
      obtain ⟨X,cc4,rfl, -, -⟩:=im a3;obtain ⟨P,eJ,hr5,ho5,hg5,hat5⟩:=rY eA w2.heap.size 59 bV (gK l j) (cn eA b1) X cc4 (gT l o (Ln o.fixes)) (rZ (by rw [kn];exact a3)) (by rw [kn];omega) (by have:=b1.size;omega);rw [kn] at hr5;obtain ⟨ct,cc5,rfl, -, -⟩:=im ho5;generalize cT:(gK l j).length+(gT l o (Ln o.fixes)).length=c6 at *;have ay:=hid cT;clear cT;have bu:=hid hr5;have s:=hid ho5;have aU:=hid hg5;have y:=hid hat5;have bK:=hg5.size;have ar:=hid (fun (V:Nat) (q:Obj) (F:Z.heap[V]? = some q) (U:bV.ownBlock≠some V)=>(hg5.block V (gl (lt_of_heap F) b1.size) (ru U)).trans ((b1.block V (lt_of_heap F)).trans F));have bb:=hid ((bZ.trans (b1.mono (by omega))).grown hg5 (by have:=b1.size;omega) (fun k N=>((cn eA b1).lt k N).1))
      clear hr5 ho5 hg5 hat5;refine wpAnyH_ready (rs:=[5]) (by kernel_rfl) (by simp) ?_;refine AllReadyH.cons (o:=⟨some 32,_,_,_,_,_⟩) rfl ?_ AllReadyH.nil;intro c aA;refine step_append_run rfl (.tmp 28) (.tmp 31) 59 rfl bV (.slice X (Ln o.code) cc4) (.slice ct c6 cc5) (by kernel_rfl) (by kernel_rfl) bu ?_;refine aA.out _ _ (a6 _ (ar _ _ ab G)) (fun d=>?_);clear aA c
      (try simp only [Act.put,gD,gE,gH])
      refine fL 6 (eL b 0) rfl (by kernel_rfl) (fun _ _ _ h=>h) (fun M L=>by kernel_rfl) d ?_;have Q:=jy (ar _ _ p v);have aT:=Q.1;have bX:=Q.2.1;have bY:=Q.2.2;have bW:b<eJ.heap.size:=lt_of_heap (ar _ _ p v);clear Q;refine wpAnyH_ready (rs:=[7]) (by kernel_rfl) (by simp) ?_;refine AllReadyH.cons rfl ?_ AllReadyH.nil;intro c aA;go_simp;refine aA.out _ _ (a6 _ ((fa (p:=(ep b 0)) (by show wr.heap.size≠b;omega) _).trans (ar _ _ ab G))) (fun d=>?_);clear aA c aT bX bY;refine wpAnyH_done (by kernel_rfl) ?_ _;clear d;go_simp;generalize f:eJ.setCell (ep b 0) (.slice ct c6 cc5)=eZ at *
      have m:eZ.heap[b]? = some (.cells #[.slice ct c6 cc5,em (gv (l.take j))] 81):=by rw [← f];exact heap_set (ar _ _ p v) _
      have bo:eZ.heap.size=eJ.heap.size:=by rw [← f];exact gU ..
      have R:eZ.heap[wr.heap.size]? = Z.heap[wr.heap.size]?:=by rw [← f];exact (fa (p:=(ep b 0)) (by show wr.heap.size≠b;omega) _).trans ((ar _ _ ab G).trans ab.symm)
      have bi:Hid (eZ.ownsRow w2.heap.size 69 3 (.slice ct c6 cc5) c6 (gj (gK l j++gT l o (Ln o.fixes)))):=by rw [← f];exact il s (fun k N=>fa (p:=(ep b 0)) (by show k≠b;intro e;exact an y (by have:=b1.size;omega) (by rw [N,e])) _)
      have bO:Hid (et w2 eZ):=by rw [← f];exact bb.setCell (p:=(ep b 0)) (by show w2.heap.size<=b;omega) _
      have av:=hid m;obtain ⟨bF,br,mf⟩:=jy m;obtain ⟨bT,aw,aE,b4,b8,u,aP,_⟩:=f6 (R.trans ab);have cF:=lt_of_heap m;clear f m R bT aw b4 b8 u aP ab bW;go_wp2_with fail;go_roundw
      case rel=>exact ⟨j+1,_,by omega,by go_num,by rw [Y];exact heap_set av _,by rw [cv.out,gn,ay.out];exact il bi (fun k N=>fa (p:=(ep b 1)) (by show k≠b;intro e;exact an y (by have:=b1.size;omega) (by rw [N,e])) _),an y (by have:=b1.size;omega),bO.setCell (p:=(ep b 1)) (by show w2.heap.size<=b;omega) _⟩
      case measure=>simp [intOf];omega
    . intro c aA
      clear cJ;go_simp
      go_wp2_with (go_at_call 104;refine (cj _ (ix Z)).mono ?_;rintro e eA ⟨be,rfl,ho4,aW⟩)
      have b1:=hid (es (ix Z) aW);have a3:=hid ho4;refine aA.out _ _ (aJ _ b1) (fun d=>?_);clear aA c aW ho4
      (try simp only [Act.put,gD,gE,gH])
      have cJ:=(az _ b1).1;refine wpAnyH_ready (rs:=[1]) (by kernel_rfl) (by simp) ?_;refine AllReadyH.cons rfl ?_ AllReadyH.nil;intro c aA;go_simp;refine aA.out _ _ (aJ _ b1) (fun d=>?_);clear aA c cJ
      (try simp only [Act.put,gD,gE,gH])
      obtain ⟨X,cc4,rfl, -, -⟩:=im a3;obtain ⟨P,eJ,hr5,ho5,hg5,hat5⟩:=rY eA w2.heap.size 59 bV (gK l j) (cn eA b1) X cc4 (gT l o (Ln o.fixes)) (rZ (by rw [kn];exact a3)) (by rw [kn];omega) (by have:=b1.size;omega);rw [kn] at hr5;obtain ⟨ct,cc5,rfl, -, -⟩:=im ho5;generalize cT:(gK l j).length+(gT l o (Ln o.fixes)).length=c6 at *;have ay:=hid cT;clear cT;have bu:=hid hr5;have s:=hid ho5;have aU:=hid hg5;have y:=hid hat5;have bK:=hg5.size;have ar:=hid (fun (V:Nat) (q:Obj) (F:Z.heap[V]? = some q) (U:bV.ownBlock≠some V)=>(hg5.block V (gl (lt_of_heap F) b1.size) (ru U)).trans ((b1.block V (lt_of_heap F)).trans F));have bb:=hid ((bZ.trans (b1.mono (by omega))).grown hg5 (by have:=b1.size;omega) (fun k N=>((cn eA b1).lt k N).1))
      clear hr5 ho5 hg5 hat5;refine wpAnyH_ready (rs:=[5]) (by kernel_rfl) (by simp) ?_;refine AllReadyH.cons (o:=⟨some 32,_,_,_,_,_⟩) rfl ?_ AllReadyH.nil;intro c aA;refine step_append_run rfl (.tmp 28) (.tmp 31) 59 rfl bV (.slice X (Ln o.code) cc4) (.slice ct c6 cc5) (by kernel_rfl) (by kernel_rfl) bu ?_;refine aA.out _ _ (a6 _ (ar _ _ ab G)) (fun d=>?_);clear aA c
      (try simp only [Act.put,gD,gE,gH])
      refine fL 6 (eL b 0) rfl (by kernel_rfl) (fun _ _ _ h=>h) (fun M L=>by kernel_rfl) d ?_;have Q:=jy (ar _ _ p v);have aT:=Q.1;have bX:=Q.2.1;have bY:=Q.2.2;have bW:b<eJ.heap.size:=lt_of_heap (ar _ _ p v);clear Q;refine wpAnyH_ready (rs:=[7]) (by kernel_rfl) (by simp) ?_;refine AllReadyH.cons rfl ?_ AllReadyH.nil;intro c aA;go_simp;refine aA.out _ _ (a6 _ ((fa (p:=(ep b 0)) (by show wr.heap.size≠b;omega) _).trans (ar _ _ ab G))) (fun d=>?_);clear aA c aT bX bY;refine wpAnyH_done (by kernel_rfl) ?_ _;clear d;go_simp;generalize f:eJ.setCell (ep b 0) (.slice ct c6 cc5)=eZ at *
      have m:eZ.heap[b]? = some (.cells #[.slice ct c6 cc5,em (gv (l.take j))] 81):=by rw [← f];exact heap_set (ar _ _ p v) _
      have bo:eZ.heap.size=eJ.heap.size:=by rw [← f];exact gU ..
      have R:eZ.heap[wr.heap.size]? = Z.heap[wr.heap.size]?:=by rw [← f];exact (fa (p:=(ep b 0)) (by show wr.heap.size≠b;omega) _).trans ((ar _ _ ab G).trans ab.symm)
      have bi:Hid (eZ.ownsRow w2.heap.size 69 3 (.slice ct c6 cc5) c6 (gj (gK l j++gT l o (Ln o.fixes)))):=by rw [← f];exact il s (fun k N=>fa (p:=(ep b 0)) (by show k≠b;intro e;exact an y (by have:=b1.size;omega) (by rw [N,e])) _)
      have bO:Hid (et w2 eZ):=by rw [← f];exact bb.setCell (p:=(ep b 0)) (by show w2.heap.size<=b;omega) _
      have av:=hid m;obtain ⟨bF,br,mf⟩:=jy m;obtain ⟨bT,aw,aE,b4,b8,u,aP,_⟩:=f6 (R.trans ab);have cF:=lt_of_heap m;clear f m R bT aw b4 b8 u aP ab bW;go_wp2_with fail;go_roundw
      case rel=>exact ⟨j+1,_,by omega,by go_num,by rw [Y];exact heap_set av _,by rw [cv.out,gn,ay.out];exact il bi (fun k N=>fa (p:=(ep b 1)) (by show k≠b;intro e;exact an y (by have:=b1.size;omega) (by rw [N,e])) _),an y (by have:=b1.size;omega),bO.setCell (p:=(ep b 1)) (by show w2.heap.size<=b;omega) _⟩
      case measure=>simp [intOf];omega
  . obtain rfl:j=Ln l:=by omega
    rw [iA] at a8 aL;obtain ⟨bF,br,mf⟩:=jy a8;obtain ⟨bg,b2,rf⟩:=jy J;have ag:=lt_of_heap J;subst hvc;have b5:=(nw aF (Ln l) (eD _)).2.2;rw [iA] at b5;have cA:=hid bk;clear a8 F bk
    by_cases ax:2048<(gK l (Ln l)).length
    . have ae:Hid (O = .error 2):=aZ.trans (if_pos (Or.inl ax))
      have ds:(2048:Int)<((gK l (Ln l)).length:Int):=by omega
      generalize (gK l (Ln l)).length=cP at *;clear ax cy;go_wp2_with fail;refine bodyPost_ret (v:=.tuple #[.agg #[eu,em 0],em 2]) (by simp [results,results40,go_sem,bg,b2,ag]) rfl ⟨by rw [ae.out];exact ⟨rfl,by decide⟩,?_⟩;exact (cA.setCell (p:=(ep w.heap.size 0)) (eD _) _).setCell (p:=(ep w.heap.size 1)) (eD _) _
    . have ds:¬ ((2048:Int)<((gK l (Ln l)).length:Int)):=by omega
      by_cases bf:512<gv l
      . have ae:Hid (O = .error 2):=aZ.trans (if_pos (Or.inr bf))
        generalize (gK l (Ln l)).length=cP at *;generalize gv l=cO at *;clear ax cy;go_wp2_with fail;refine bodyPost_ret (v:=.tuple #[.agg #[eu,em 0],em 2]) (by simp [results,results40,go_sem,bg,b2,ag]) rfl ⟨by rw [ae.out];exact ⟨rfl,by decide⟩,?_⟩;exact (cA.setCell (p:=(ep w.heap.size 0)) (eD _) _).setCell (p:=(ep w.heap.size 1)) (eD _) _
      . have ae:Hid (O = .ok (gK l (Ln l),gv l)):=aZ.trans (if_neg (by omega))
        have dE:=hid (vE cc (by omega:w.heap.size<=w2.heap.size))
        have aD:∀ k,(Value.slice aK (gK l (Ln l)).length bP).ownBlock=some k->k≠w.heap.size:=fun k N e=>by have:=(cc.lt k N).1;omega
        have df:=hid aD;clear aD;generalize ca:(gK l (Ln l)).length=cP at *;generalize gv l=cO at *;clear ax cy;go_wp2_with fail;refine bodyPost_ret (v:=.tuple #[.agg #[.slice aK cP bP,em cO],em 0]) (by simp [results,results40,go_sem,bg,b2,ag]) rfl ⟨?_,?_⟩
        . rw [ae.out]
          refine ⟨_,rfl,?_⟩;rw [ca];exact il (il dE (fun k N=>fa (p:=(ep w.heap.size 0)) (df k N) _)) (fun k N=>fa (p:=(ep w.heap.size 1)) (df k N) _)
        . exact (cA.setCell (p:=(ep w.heap.size 0)) (eD _) _).setCell (p:=(ep w.heap.size 1)) (eD _) _
theorem k7 (w:World) (m:Nat):et w (w.drewN m):=by
 have h:et w w:=Below.refl _ _;exact ⟨h.os,h.tape,h.output,h.size,h.block⟩
def kL (l:List eO) (n:Nat) (s:ByteArray):Int:=match (l.take n).findIdx? (fun o=>decide (o.name=s)) with | some i=>(i:Int) | none=>-1
theorem y0 (ac:j<n) (a2:j<Ln l) (ah:l[j].name=s) (F:∀ k (h:k<Ln l),k<j->l[k].name≠s):kL l n s=j:=by
 have:(l.take n).findIdx? (fun o=>decide (o.name=s))=some j:=by
  rw [rc];refine ⟨by rw [ky];omega,by simpa using ah,fun k N=>?_⟩;rw [tY];simpa using F k (by omega) N
 unfold kL;rw [this]
theorem vM (F:∀ k (h:k<Ln l),k<n->l[k].name≠s):kL l n s = -1:=by
 have:(l.take n).findIdx? (fun o=>decide (o.name=s))=none:=by
  rw [tQ];intro o aa;obtain ⟨k,N,rfl⟩:=kx aa;rw [ky] at N;rw [tY];simpa using F k (by omega) (by omega)
 unfold kL;rw [this]
theorem y6 (l:List eO) (K:Nat->Value) (a:OA) (n I:Nat) (s:ByteArray) (w:World) (aQ:jM w a l K) (U:n<=Ln l) :
 ew 108 #[.slice a n I,.string s] w fun e r=>e = .returned (em (kL l n s))/\∃ m,r=w.drewN m:=by
 have bC:=aQ.bound;have aG:=hid aQ;clear aQ
 obtain ⟨O,W⟩:∃ O,O=kL l n s:=⟨_,rfl⟩
 rw [← W];have z:=hid W;clear W;go_enter func108,ntmps108;go_wp2_with fail
 go_loopw [5] (fun i wr=>∃ j:Nat,j<=n/\i=em j/\(∀ k (h:k<Ln l),k<j->l[k].name≠s)/\wr=w) (fun i _=>n - (intOf i).toNat)
 case atStart=>exact ⟨0,eY _,rfl,fun k _ h=>absurd h (jU _),rfl⟩
 case round=>
  obtain ⟨j,ac,rfl,aO,rfl⟩:=hrel;have ar:=hid aO;clear aO
  by_cases a0:j<n
  . have D:j<Ln l:=by omega
    obtain ⟨V,C,E,T,H,bc,aj,b9,al,b7,rfl,bz,bh, -⟩:=aG.get j D
    cases Z:decide (l[j].name=s) with
    | true=>
      have b6:(l[j].name.toList == s.toList)=true:=(va _ _).trans Z;have ae:Hid (O=j):=z.trans (y0 a0 D (of_decide_eq_true Z) ar);clear Z;go_wp2_with fail;go_ret;exact ⟨by rw [ae.out];rfl,0,rfl⟩
    | false=>
      have b6:(l[j].name.toList == s.toList)=false:=(va _ _).trans Z
      have ai:Hid (∀ k (h:k<Ln l),k<j+1->l[k].name≠s):=fun k h N=>by
       by_cases ah:k=j
       . subst ah;exact of_decide_eq_false Z
       . exact ar k h (by omega)
      clear Z;go_wp2_with fail;go_roundw
      case rel=>exact ⟨j+1,by omega,by go_num,ai,by first | rfl | trivial⟩
      case measure=>simp [intOf];omega
  . obtain rfl:j=n:=by omega
    have ae:Hid (O = -1):=z.trans (vM ar);go_wp2_with fail;go_ret;exact ⟨by rw [ae.out];rfl,0,rfl⟩
theorem y7 (U:(hD l).Nodup) (a2:n<=Ln l) (s:ByteArray):(match ht l s.data.toList (Ln l) with | some k=>decide (k<n) | none=>false)=decide (0<=kL l n s)/\∀ k,ht l s.data.toList (Ln l)=some k->k<n->kL l n s=k:=by
 have aV:∀ i j (X:i<Ln l) (ac:j<Ln l),l[i].name=l[j].name->i=j:=fun i j X ac e=>by
  have G:=qT U X;have J:=qT U ac;rw [e] at G;exact fe (G.symm.trans J)
 cases e:ht l s.data.toList (Ln l) with
 | none=>
   have F:∀ k (h:k<Ln l),k<n->l[k].name≠s:=fun k h _ ah=>by
    have:=qT U h;rw [ah,e] at this
    cases this
   rw [vM F];exact ⟨by simp,fun k h=>by cases h⟩
 | some k=>
   obtain ⟨_,N,aa⟩:=rT _ _ _ (eD _) e
   have b:l[k].name=s:=by
    apply w8
    exact Array.toList_inj.1 aa
   by_cases c:k<n
   . have a7:kL l n s=k:=y0 c N b (fun j ac a0 ah=>by have:=aV j k ac N (ah.trans b.symm);omega)
     refine ⟨by rw [a7];simp [c],fun m q _=>?_⟩;rw [← fe q];exact a7
   . have F:∀ j (h:j<Ln l),j<n->l[j].name≠s:=fun j h ac ah=>by have:=aV j k h N (ah.trans b.symm);omega
     rw [vM F];refine ⟨by simp [c],fun m q a0=>?_⟩;rw [← fe q] at a0;exact absurd a0 c
theorem Dl (U:(hD l).Nodup) (ab:ny l=true) (X:i<Ln l) {m:Nat} (a8:m<Ln l[i].uses):(f7 l l[i] ((m:Int)+1):Int)=kL l i l[i].uses[m]:=by
 have J:=iO.1 ab i X;unfold k5 at J;rw [gb X] at J;have S:=hJ.1 J l[i].uses[m] (fO a8)
 have bu:nA l[i] ((m:Int)+1)=l[i].uses[m]:=by
  unfold nA;rw [if_neg (by omega),lJ,show ((m:Int)+1 - 1).toNat=m by omega,gb a8]
  rfl
 unfold f7;rw [bu];unfold k4 at S
 cases e:ht l l[i].uses[m].data.toList (Ln l) with
 | none=>rw [e] at S;cases S
 | some k=>
   rw [e] at S;rw [(y7 U (by omega:i<=Ln l) l[i].uses[m]).2 k e (of_decide_eq_true S)]
   rfl
theorem y8 (U:(hD l).Nodup) (X:i<Ln l):f7 l l[i] 0=i:=by
 unfold f7 nA;rw [if_pos rfl,qT U X]
 rfl
theorem y9 (l:List eO) (K:Nat->Value) (a:OA) (I:Nat) (w:World) (aQ:jM w a l K) (ay:Ln l<=I) (U:(hD l).Nodup) (ab:ny l=true) (i:Nat) (X:i<Ln l) (m:Int) (cJ:0<=m) (ci:m<=Ln l[i].uses) :
 ew 105 #[.slice a (Ln l) I,em i,em m] w fun e r=>e = .returned (em (f7 l l[i] m))/\∃ k,r=w.drewN k:=by
 have bC:=aQ.bound
 by_cases a3:m=0
 . subst a3
   rw [y8 U X];go_enter func105,ntmps105;go_wp2_with fail;go_ret;exact ⟨rfl,0,rfl⟩
 . obtain ⟨k,rfl⟩:∃ k:Nat,m=(k:Int)+1:=⟨(m - 1).toNat,by omega⟩
   have N:k<Ln l[i].uses:=by omega
   rw [Dl U ab X N];obtain ⟨V,C,E,T,H,bc,aj,b9,al,b7,rfl,bz,bh,a9, -, -, -, -, -,aa, -, -⟩:=aQ.get i X;obtain ⟨aW,uo,rfl,bB,huc, -⟩:=aa.uses.str k N;have c1:=aa.uses.bound;have ao:=hid (fun R=>y6 l K (some (ep V C)) i I l[i].uses[k] (w.drewN R) (aQ.later (k7 w R)) (by omega))
   have b8:IntKind.i64.wrap ((k:Int)+1 - 1)=k:=by simp only [IntKind.wrap,IntKind.bits,IntKind.signed];simp;omega
   have b:¬ ((k:Int)+1=0):=by omega
   have d:(i:Int)<Ln l:=by omega
   have z:(i:Int)<=I:=by omega
   have c:(k:Int)<Ln l[i].uses:=by omega
   clear aQ aa U ab a3 cJ ci;generalize l[i].uses[k]=u at *;generalize kL l i u=O at *;go_enter func105,ntmps105;go_wp2_with fail
   go_quiet ((go_at_call 108;exact Calls.quiet_of (ao _)))
   go_wp2_with fail;go_ret;exact ⟨rfl,_,rfl⟩
end Go.Proofs.YtndkhgakfodldaaGreatDoor
