import Derived.Test.YtndkhgakfodldaaGreatDoorLa
import Derived.Test.YtndkhgakfodldaaGreatDoorRb
namespace Go.Proofs.YtndkhgakfodldaaGreatDoor
set_option maxRecDepth 100000
set_option maxHeartbeats 6400000
open Go.RowKit Go.Maps Go.Sort Go.WideMaps
set_option linter.unusedSimpArgs false
set_option linter.unusedVariables false
def mnO (l:List Ob) (j:Nat):Gi:=match l[j]? with | some o=>⟨13,(l.length:Int)+1+cdL (l.take j)+o.main,0⟩ | none=>⟨0,0,0⟩
def zeu (l:List Ob) (j:Nat):List Gi:=(List.range j).map (mnO l)
theorem zk1 (l:List Ob) (j:Nat):zeu l (j+1)=zeu l j++[mnO l j]:=by unfold zeu;rw [vdc,vbw];rfl
theorem zfj (l:List Ob) (j:Nat):(zeu l j).length=j:=by simp [zeu]
theorem z4y {l:List Ob} {j:Nat} (h:j<l.length):mnO l j=⟨13,(l.length:Int)+1+cdL (l.take j)+l[j].main,0⟩:=by unfold mnO;rw [vad h]
theorem zg0 {l:List Ob} (hn:(nmO l).Nodup) {j:Nat} (h:j<l.length):lkO l l[j].name.data.toList l.length=some j:=by
 have h1:=zsi (l:=l) l[j].name.data.toList l.length (vaa _);rw [vau] at h1
 have hm:(nmO l).contains l[j].name.data.toList=true:=by
  rw [vcj];exact vcy.2 ⟨l[j],vah h,rfl⟩
 rw [hm] at h1;obtain ⟨i,hi⟩:=Option.isSome_iff_exists.1 h1;obtain ⟨_,A0,he⟩:=zqo _ _ _ (vaa _) hi;rw [hi]
 have e1:(nmO l)[i]'(by rw [zou];exact A0)=(nmO l)[j]'(by rw [zou];exact h):=by simpa [nmO] using he
 rw [(List.getElem_inj hn).1 e1]
theorem z9v (a b c d:Value):∀ w:World,(Instr.field 227 (.agg #[a,b,c,d]) 1).run Tryz.prog w = .ok b w:=fun _=>ah
structure MainsB (l:List Ob):Prop where
 main:∀ o ∈ l,0<=o.main/\o.main<=4096
 once:(nmO l).Nodup
theorem zsm (l:List Ob) (ev:Nat->Value) (a:OA) (cap pb:Nat) (w:World) (hO:OsAt w a l ev) (hN:z7y l) (hP:zkm w pb l ev l.length) (hM:MainsB l) :
 qc 103 #[.slice a l.length cap,.map (some pb)] w fun e w'=>∃ v,e = .returned v/\w'.ownsRow w.heap.size 69 3 v (l.length+1) (zeb (zeu l l.length++[⟨20,0,0⟩]))/\qb w w':=by
 have Bz:=hO.bound;have h4:=hN.1;have HO:=hid hO;have HP:=hid hP;have HN:=hid hN;have Jx:=hid hM;clear hO hP hN hM;go_enter Tryz.func103,Tryz.ntmps103;go_wp2_with fail
 go_loopw [5,7,10] (fun c _ i wr=>∃ j:Nat,j<=l.length/\i=qi j/\wr.ownsRow w.heap.size 69 3 c j (zeb (zeu l j))/\qb w wr) (fun _ _ i _=>l.length - (intOf i).toNat)
 case atStart=>exact ⟨0,vaf _,rfl,ves _ _ _ _,Below.refl _ _⟩
 case round=>
  obtain ⟨j,hj,rfl,Aa,hb⟩:=hrel;obtain ⟨ca,cc,rfl, -, -⟩:=zag Aa;have DL:=hid Aa;have HB:=hid hb;clear Aa
  by_cases A0:j<l.length
  . obtain ⟨b,off,x1,y1,x3,y3,x4,y4,x5,y5,rfl,Bd,c0,c1,c2,c3,c4,c5,c6,ho, -, -⟩:=(HO.out.later hb).get j A0
    have MN:=ho.wn
    obtain ⟨X,hX⟩:∃ X,X=wr.alloc (kzD l[j].name x1 l[j].uses.length y1 l[j].data x3 l[j].code.length y3 x4 l[j].fixes.length y4 x5 l[j].entries.length y5 l[j].main):=⟨_,rfl⟩
    have BA:qb wr X:=dq
    have LU:X.heap[wr.heap.size]? = some (kzD l[j].name x1 l[j].uses.length y1 l[j].data x3 l[j].code.length y3 x4 l[j].fixes.length y4 x5 l[j].entries.length y5 l[j].main):=ct
    have JO:X.heap.size=wr.heap.size+1:=by rw [hX];simp
    have HX:=hid hX;have C1:=hb.size;have Br:=(HP.out.later (thenB hb BA)).look MN;rw [zg0 Jx.out.once A0] at Br;simp only [Option.elim,pv] at Br;have EZ:=hid (ownsRow_later DL.out BA);have CT:=hid (thenB hb BA);have Jw:=hid (z4y A0)
    have Bu:=(zfd HN.out j ae)
    obtain ⟨GY,E7⟩:=Jx.out.main l[j] (vah A0);have Uh:=lt_of_heap LU
    have Ew:∃ z0 z1 z2 z3 z4 z5,X.heap[wr.heap.size]? = some (.cells #[.string l[j].name,z1,z2,z3,z4,z5,qi l[j].main] 62)/\z0=0:=⟨0,_,_,_,_,_,LU,rfl⟩
    generalize Ih:ev j=ej at *;generalize B4:l[j].name=nm at *;generalize U2:l[j].main=mn at *;generalize cdL (l.take j)=cd at *;generalize dtL (l.take j)=dt at *
    have Cw:IntKind.i64.wrap ((l.length:Int)+1+cd+mn)=(l.length:Int)+1+cd+mn:=aK
    have Jl:=z9v (qi j) (qi ((l.length:Int)+1+cd)) (qi dt) ej;clear BA hX hb;go_upto_region 5 with fail;rw [← HX.out];obtain ⟨d0,d1,d2,d3,d4,d5,d6,_⟩:=zam LU;clear LU c0 c1 c2 c3 c4 c5 c6 ho Ew
    go_wp2_with (at_builtin;refine ze9 rfl (.tmp 14) (.tmp 24) 59 rfl w.heap.size 69 _ 3 24 Tryz.underlying59 Tryz.infoInstr rfl aq X (.slice ca j cc) j (zeb (zeu l j)) rfl EZ.out #[qi 13,qi ((l.length:Int)+1+cd+mn),qi 0] _ JO.symm rfl rfl (zmi ⟨13,_,0⟩) ae aq ae _ rfl ?_;intro g cp w1 ho;have Hj:=hid ho;have TP:=ho.size;clear ho Br Jl d0 d1 d2 d3 d4 d5 d6)
    go_wp2_with fail;go_roundw
    case rel=>exact ⟨j+1,ae,aR,by rw [zk1,Jw.out,zi4];exact Hj.out.own,CT.out.trans Hj.out.below⟩
    case measure=>simp [intOf];omega
  . obtain rfl:j=l.length:=by omega
    have C1:=hb.size;clear hb
    go_wp2_with (at_builtin;refine ze9 rfl (.tmp 27) (.tmp 29) 59 rfl w.heap.size 69 _ 3 24 Tryz.underlying59 Tryz.infoInstr rfl aq wr (.slice ca l.length cc) l.length (zeb (zeu l l.length)) rfl DL.out #[qi 20,qi 0,qi 0] _ rfl rfl rfl (zmi ⟨20,0,0⟩) ae aq ae _ rfl ?_;intro g cp w1 ho;have Hj:=hid ho;clear ho)
    go_wp2_with fail;go_ret;exact ⟨_,rfl,by rw [zi4];exact Hj.out.own,HB.out.trans Hj.out.below⟩
theorem zk2 (b off j:Nat):((qa b off):Addr).add j=⟨b,off+j,none⟩:=aS
theorem zk3 {α:Type} (f:α->List Value) (n:Nat) (hf:∀ x,(f x).length=n):∀ (l:List α) (i:Nat) (h:i<l.length) (j:Nat),j<n->(l.flatMap f)[i*n+j]? = (f l[i])[j]?
 | [],i,h,_,_=>dH
 | x :: r,0,_,j,hj=>by
   have:=hf x;rw [vbj,vbk,vaz,vbc ae]
   rfl
 | x :: r,i+1,h,j,hj=>by
   have:=hf x;rw [vbj,vbh (by rw [Nat.add_mul];omega),vbu,← zk3 f n hf r i bT j hj]
   congr 1
   rw [Nat.add_mul];omega
theorem zfk (w:World) (base:Nat) (ty:TypeId) (v:Value) (xs:List Gi) (Ag:w.ownsRow base 69 3 v xs.length (zeb xs)) (a:OA) (cap:Nat) (ys:List Gi) (hD:ys.length≠0->∃ b off,a=some (qa b off)/\∀ j (h:j<ys.length),w.cell? ⟨b,off+j*3,none⟩=some (qi ys[j].op)/\w.cell? ⟨b,off+j*3+1,none⟩=some (qi ys[j].a)/\w.cell? ⟨b,off+j*3+2,none⟩=some (qi ys[j].b)) (hb:xs.length+ys.length<=4194304) (AQ:base<=w.heap.size) :
 ∃ v' w',(Builtin.append_ #[59,59] ty #[v,.slice a ys.length cap]).run Tryz.prog w = .ok v' w'/\w'.ownsRow base 69 3 v' (xs.length+ys.length) (zeb (xs++ys))/\w.grownBy w' v.ownBlock/\(v'.ownBlock=v.ownBlock\/v'.ownBlock=some w.heap.size):=by
 obtain ⟨i0,hi,Bx,Ao,Ay⟩:=info_parts Tryz.infoInstr
 have Cp:∀ ad:Addr,(∀ j (u:Value),(zeb ys)[j]? = some u->w.cell? (ad.add j)=some u)->∃ v' w',(Builtin.append_ #[59,59] ty #[v,.slice (some ad) ys.length cap]).run Tryz.prog w = .ok v' w'/\w'.ownsRow base 69 3 v' (xs.length+ys.length) (zeb (xs++ys))/\w.grownBy w' v.ownBlock/\(v'.ownBlock=v.ownBlock\/v'.ownBlock=some w.heap.size):=by
  intro ad hc
  obtain ⟨v',w',hr,h2,h3,_,h5⟩:=run_append_own_at (P:=Tryz.prog) w base 59 ty 69 i0 _ 3 24 Tryz.underlying59 hi Bx Ao Ay rfl ae v xs.length _ Ag ad ys.length cap (zeb ys) (zv8 ys) hc
   (fun u hu=>by unfold zeb at hu;obtain ⟨i,_,h⟩:=List.mem_flatMap.1 hu;exact zmi i u h) (by simp only [maxLen];omega) ae AQ
  refine ⟨v',w',hr,?_,h3,h5⟩
  have:zeb (xs++ys)=zeb xs++zeb ys:=by simp [zeb]
  rw [this];exact h2
 by_cases h0:ys.length≠0
 . obtain ⟨b,off,rfl,hc⟩:=hD h0
   refine Cp (qa b off) (fun j u hu=>?_)
   have hj:j<ys.length*3:=by rw [← zv8];exact (vcg.1 hu).1
   have h3:j=j / 3*3+j % 3:=ae
   have Ic:j / 3<ys.length:=ae
   obtain ⟨d0,d1,d2⟩:=hc (j / 3) Ic;rw [zk2];have hg:(zeb ys)[j / 3*3+j % 3]? = (giV ys[j / 3])[j % 3]?:=zk3 giV 3 (fun _=>rfl) ys (j / 3) Ic (j % 3) ae;rw [← h3,hu] at hg
   have hm:j % 3=0\/j % 3=1\/j % 3=2:=ae
   rcases hm with h | h | h
   . rw [h] at hg;cases hg
     rw [show off+j=off+j / 3*3 by omega];exact d0
   . rw [h] at hg;cases hg
     rw [show off+j=off+j / 3*3+1 by omega];exact d1
   . rw [h] at hg;cases hg
     rw [show off+j=off+j / 3*3+2 by omega];exact d2
 . have hy:ys=[]:=vam ae
   subst hy
   cases a with
   | some ad=>exact Cp ad (fun j u h=>by simp [zeb] at h)
   | none=>
     refine ⟨v,w,?_,by rw [vch];exact Ag,⟨rfl,rfl,rfl,vaa _,fun _ _ _=>rfl⟩,Or.inl rfl⟩
     rcases Ag.2 with ⟨rfl,_⟩ | ⟨g,cp,AD,rfl,_,hg,hn,_⟩
     . simp [Builtin.append_,run_underlying Tryz.underlying59,sizeOf,typeInfo,hi,Builtin.lenOf,Builtin.firstCells]
     . simp [Builtin.append_,run_underlying Tryz.underlying59,sizeOf,typeInfo,hi,Builtin.lenOf,Builtin.firstCells,loadCells,storeCells,hn]
set_option maxHeartbeats 12800000
def z1x (l:List Ob) (o:Ob) (f:Gf):Int:=fixV f.kind (aAt o f.at_) ((l.length:Int)+1+cdL (l.take (modO l o f.m))) (dtL (l.take (modO l o f.m))) (entsO l (modO l o f.m))
def fxL (l:List Ob) (o:Ob):Nat->List Gi
 | 0=>o.code
 | j+1=>match o.fixes[j]? with
   | some f=>(fxL l o j).modify f.at_.toNat (z11 (z1x l o f))
   | none=>fxL l o j
theorem zch (l:List Ob) (o:Ob):∀ j,(fxL l o j).length=o.code.length
 | 0=>rfl
 | j+1=>by
   rw [fxL];split
   . rw [List.length_modify];exact zch l o j
   . exact zch l o j
theorem zow (l:List Ob) (o:Ob) {j:Nat} (h:j<o.fixes.length):fxL l o (j+1)=(fxL l o j).modify o.fixes[j].at_.toNat (z11 (z1x l o o.fixes[j])):=by
 rw [fxL,vad h]
theorem zsn (o:Ob) {j:Nat} (h:j<o.fixes.length):lastAt o (j+1)=o.fixes[j].at_:=by rw [lastAt,vad h]
theorem zk4 {o:Ob} (h:oChk o=0) {j:Nat} (hj:j<o.fixes.length):lastAt o j<o.fixes[j].at_:=by
 obtain ⟨_,_,_,hf⟩:=zja h;have:=zan.1 hf j hj;unfold zgz at this;rw [vad hj] at this;simp only [vac] at this;exact of_decide_eq_true this.1
theorem zox (l:List Ob) {o:Ob} (h:oChk o=0):∀ (j:Nat) (p:Nat),j<=o.fixes.length->lastAt o j<p->(fxL l o j)[p]? = o.code[p]?
 | 0,p,_,_=>rfl
 | j+1,p,hj,hp=>by
   have A0:j<o.fixes.length:=ae
   have h1:=zk4 h A0;rw [zsn o A0] at hp;have h0:=(zgh h A0).at0
   have Ai:o.fixes[j].at_.toNat≠p:=ae
   rw [zow l o A0,vdn];simp only [if_neg Ai,id_map'];exact zox l h j p ae ae
theorem zgi {w:World} {B B':Nat} {e:TypeId} {sz:Nat} {v:Value} {n:Nat} {xs:List Value} (h:w.ownsRow B e sz v n xs) (hB:B'<=B):w.ownsRow B' e sz v n xs:=by
 refine ⟨h.1,?_⟩
 rcases h.2 with h1 | ⟨g,cap,AD,hv,hb,hg,hr⟩
 . exact Or.inl h1
 . exact Or.inr ⟨g,cap,AD,hv,ae,hg,hr⟩
theorem zev {w:World} {B:Nat} {e:TypeId} {sz:Nat} {v:Value} {n:Nat} {xs:List Value} (h:w.ownsRow B e sz v n xs) (hn:0<n):∃ g cap,v = .slice (some (qa g 0)) n cap/\B<=g/\g<w.heap.size:=by
 rcases h.2 with ⟨h1,h2⟩ | ⟨g,cap,AD,hv,hb,hg,_⟩
 . omega
 . exact ⟨g,cap,hv,hb,lt_of_heap hg⟩
theorem zym {w:World} {B g n cap:Nat} {c:List Gi} (h:w.ownsRow B 69 3 (.slice (some (qa g 0)) n cap) n (zeb c)) (p:Nat) (hp:p<c.length) (hn:c.length=n) :
 w.cell? ⟨g,p*3+1,none⟩=some (qi c[p].a)/\w.frozen? ⟨g,p*3+1,none⟩=false/\g<w.heap.size/\∀ x,(w.setCell ⟨g,p*3+1,none⟩ (qi x)).ownsRow B 69 3 (.slice (some (qa g 0)) n cap) n (zeb (c.modify p (z11 x))):=by
 have hc:=h.cells (g:=g) rfl _ _ (zv9 c p hp);rw [zk2,vaz] at hc;have hg:g<w.heap.size:=(h.lt g rfl).2;refine ⟨hc,?_,hg,fun x=>?_⟩
 . rcases h.2 with ⟨h1,_⟩ | ⟨g',cap',AD,hv,_,hg,_⟩
   . cases h1
   . cases hv;exact veq hg _
 . have Aa:=ownsRow_set h (p*3+1) (qi x) ae
   rw [← zp6 c p x hp] at Aa;exact Aa
theorem zuw {l:List Ob} (hC:zjs l=true) {i:Nat} (hi:i<l.length) {j:Nat} (hj:j<l[i].fixes.length):zho l l[i] l[i].fixes[j]=true:=by
 have h1:=zan.1 hC i hi;unfold zed at h1;rw [vad hi] at h1;have h2:=zan.1 h1 j hj;unfold zc8 at h2;rw [vad hj] at h2;exact h2
theorem zng {o:Ob} (h:oChk o=0):∀ x ∈ o.entries,0<=x/\x<=2048:=by
 obtain ⟨hm,_,hc,_⟩:=zja h;unfold zgg at hm;simp only [vat] at hm;have hl:=of_decide_eq_false hm.2.2.2;unfold zc6 at hc;simp only [vac] at hc;intro x hx;obtain ⟨i,hi,rfl⟩:=vba hx;have:=zan.1 hc.2.1 i hi;unfold zmm at this;rw [vad hi] at this;have:=of_decide_eq_true this;omega
theorem zso (l:List Ob) (ev:Nat->Value) (a:OA) (pb:Nat) (w:World) (hO:OsAt w a l ev) (hN:z7y l) (hP:zkm w pb l ev l.length) (hR:∀ o ∈ l,oChk o=0) (hF:z2a l) (hC:zjs l=true) (i:Nat) (hi:i<l.length)
 (x1:OA) (y1:Nat) (x3:OA) (y3:Nat) (x4:OA) (y4:Nat) (x5:OA) (y5:Nat) (ho:OvAt w l[i] x1 x3 x4 x5) :
 qc 104 #[.map (some pb),obV l[i] x1 y1 x3 y3 x4 y4 x5 y5] w fun e w'=>∃ v,e = .returned v/\w'.ownsRow w.heap.size 69 3 v l[i].code.length (zeb (fxL l l[i] l[i].fixes.length))/\qb w w':=by
 have Nv:=ho.fixes.bound;have Kt:=ho.code.bound;have Ey:=hN.2 l[i] (vah hi);have FZ:=hR l[i] (vah hi);have HN:=hid hN;have HO:=hid hO;have HP:=hid hP;have CM:=hid ho;have O9:=hid hR;have EK:=hid (fun (q:Nat) (hq:q<l[i].fixes.length)=>zgh FZ hq);have Od:=hid (fun (q:Nat) (hq:q<l[i].fixes.length)=>zk4 FZ hq);have Mp:=hid (fun (q p:Nat) (h1:q<=l[i].fixes.length) (h2:lastAt l[i] q<p)=>zox l FZ q p h1 h2);have F2:=hid (fun (m:Int) (h0:0<=m) (h1:m<=l[i].uses.length)=>zko hF hi h0 h1);have F3:=hid (fun (j:Nat) (hj:j<l[i].fixes.length)=>zuw hC hi hj);have Gt:=Ey.1;have Gs:=Ey.2.1;clear hO hN hP hR hF hC ho Ey FZ;generalize l[i]=o at *
 obtain ⟨W,hW⟩:∃ W,W=w.alloc (kzD o.name x1 o.uses.length y1 o.data x3 o.code.length y3 x4 o.fixes.length y4 x5 o.entries.length y5 o.main):=⟨_,rfl⟩
 have EC:qb w W:=by rw [hW];exact al1 _ _
 have LL:W.heap[w.heap.size]? = some (kzD o.name x1 o.uses.length y1 o.data x3 o.code.length y3 x4 o.fixes.length y4 x5 o.entries.length y5 o.main):=by rw [hW];exact heap_newP _ _
 have MK:W.heap.size=w.heap.size+1:=by rw [hW];simp
 have HW:=hid hW;have M4:=hid EC;have Q9:=hid LL
 obtain ⟨v1,w1,Es,Ag,Jk, -⟩:=zfk W W.heap.size 59 (qs) [] (ves _ _ _ _) x3 y3 o.code (fun hn=>by
  obtain ⟨cb,co,rfl,_⟩:=(CM.out.later EC).code.gi 0 ae;refine ⟨cb,co,rfl,fun j hj=>?_⟩;obtain ⟨SF,co',e,hl,i0,i1,i2,_⟩:=(CM.out.later EC).code.gi j hj
  cases e
  exact ⟨i0,i1,i2⟩) aF (vaa _)
 rw [veg,vcr,vaz] at Ag;obtain ⟨g,cc,rfl,hgB,H9⟩:=zev Ag ae;have AY:=hid Es;have El:=hid Ag
 have A6:Below (w.heap.size+1) W w1:=by rw [← MK];exact (Below.refl _ _).grown Jk (vaa _) (fun k hk=>cY)
 have A8:=hid A6;have Ao:=A6.size;obtain ⟨d0,d1,d2,d3,d4,d5,d6,_⟩:=zam LL;have U6:=lt_of_heap LL;clear Es Ag Jk hW EC LL;go_enter Tryz.func104,Tryz.ntmps104;go_upto_region 1 with fail;rw [← HW.out];clear HW
 go_wp2_with (at_builtin;refine Lib.wpList_append_run _ rfl _ _ _ _ rfl _ _ rfl rfl _ w1 AY.out ?_;clear d0 d1 d2 d3 d4 d5 d6;have d4:=(zam ((A8.out.block _ (Nat.lt_succ_self _)).trans Q9.out)).2.2.2.2.1)
 clear d4
 go_loopw [7,14] (fun _ i wr=>∃ j:Nat,j<=o.fixes.length/\i=qi j/\wr.ownsRow (w.heap.size+1) 69 3 (.slice (some (qa g 0)) o.code.length cc) o.code.length (zeb (fxL l o j))/\Below (w.heap.size+1) W wr) (fun _ i _=>o.fixes.length - (intOf i).toNat)
 case atStart=>exact ⟨0,vaf _,rfl,by rw [← MK];exact El.out,A8.out⟩
 case round=>
  obtain ⟨j,hj,rfl,Aa,hb⟩:=hrel;have DL:=hid Aa;have HB:=hid hb;have Ez:qb w wr:=M4.out.trans (hb.mono ae);have Bv:=hid Ez;have D1:=(hb.block _ (Nat.lt_succ_self _)).trans Q9.out;have Nl:=(Aa.lt g rfl).2;have Nm:=(Aa.lt g rfl).1;clear Aa
  by_cases A0:j<o.fixes.length
  . obtain ⟨fb,fo,rfl,hfx⟩:=((CM.out.later Ez).fixes).gf j A0
    obtain ⟨Hf,fr2,fr3,fr4,fr5,fr6,fr7⟩:=EK.out j A0;obtain ⟨E6,Bm⟩:=F2.out o.fixes[j].m fr6 fr7;obtain ⟨EU,g0,g1,g2, -, -, -⟩:=hfx;have Ho:=hid (zyl (o:=o) fr6 fr7);have G1:=hid (zow l o A0);have J1:=hid (F3.out j A0);have JS:=CM.out.uses.bound;have Gb:=Od.out j A0;generalize o.fixes[j]=f at *
    obtain ⟨p,hp⟩:∃ p:Nat,f.at_=p:=⟨f.at_.toNat,ae⟩
    have CV:p<o.code.length:=ae
    have JX:p<(fxL l o j).length:=by rw [zch];exact CV
    have CD:=Mp.out j p ae ae
    have G5:Hid (aAt o f.at_=(fxL l o j)[p].a):=by
     have:(fxL l o j)[p]=o.code[p]:=by
      rw [vad JX,vad CV] at CD;exact vab CD
     show aAt o f.at_=_;rw [this,hp];exact zuv CV
    have MS:(p:Int)<o.code.length:=ae
    rw [G5.out] at fr4 fr5;rw [hp] at g0
    obtain ⟨X,hX⟩:∃ X,X=wr.alloc (.cells #[qi p,qi f.kind,qi f.m] 67):=⟨_,rfl⟩
    have BA:qb wr X:=dq
    have HX:=hid hX
    have JO:X.heap.size=wr.heap.size+1:=by rw [hX];simp
    have BO:X.heap[wr.heap.size]? = some (.cells #[qi p,qi f.kind,qi f.m] 67):=ct
    have AZ:=(BA.block _ (lt_of_heap D1)).trans D1;have Fd:=lt_of_heap AZ;have Fj:=lt_of_heap BO;have Qa:=hid BA
    have Dy:=hid (fun (W:World) (hW:W.heap[w.heap.size]? = X.heap[w.heap.size]?/\W.heap[wr.heap.size]? = X.heap[wr.heap.size]?)=>(by
     obtain ⟨e0,e1,e2,e3,e4,e5,e6,_⟩:=zam (hW.1.trans AZ);obtain ⟨q0,q1,q2⟩:=zk0 (hW.2.trans BO)
     exact ⟨e0,e1,e2,e3,e4,e5,e6,q0,q1,q2⟩:W.cell? (qa w.heap.size 0)=some (.string o.name)/\W.cell? (qa w.heap.size 1)=some (.slice x1 o.uses.length y1)/\W.cell? (qa w.heap.size 2)=some (qi o.data)/\W.cell? (qa w.heap.size 3)=some (.slice x3 o.code.length y3)/\W.cell? (qa w.heap.size 4)=some (.slice (some (qa fb fo)) o.fixes.length y4)/\W.cell? (qa w.heap.size 5)=some (.slice x5 o.entries.length y5)/\W.cell? (qa w.heap.size 6)=some (qi o.main)/\W.cell? (qa wr.heap.size 0)=some (qi p)/\W.cell? (qa wr.heap.size 1)=some (qi f.kind)/\W.cell? (qa wr.heap.size 2)=some (qi f.m)))
    have HS:=hid (fun W (hW:qb X W)=>Dy.out W ⟨hW.block _ Fd,hW.block _ Fj⟩);have CT:=hid (Ez.trans (BA.mono Ez.size));obtain ⟨_,_,_,_,_,_,_,_,xk,yk, -, -, -, -, -, -, -, -, -,C6, -,hek⟩:=HO.out.get (modO l o f.m) Bm;rw [← zfw Bm] at hek;have HM:=hid (fun W (hW:qb X W)=>zjr l ev pb W (HP.out.later (thenB CT.out hW)) o x1 y1 x3 y3 (some (qa fb fo)) y4 x5 y5 (CM.out.later (thenB CT.out hW)) f.m _ Ho.out _ E6 xk _ yk hek);have Dw:=C6.entries.bound;have Bu:=zfd HN.out (modO l o f.m) ae;have FV:=HN.out.1;have GW:=O9.out _ (vah Bm)
    have JA:Hid (∀ x ∈ entsO l (modO l o f.m),0<=x/\x<=2048):=by
     rw [zfw Bm];exact zng GW
    have BE:Hid (f.kind=2->(fxL l o j)[p].a<(entsO l (modO l o f.m)).length):=fun k2=>by
     have h1:zho l o f=true:=J1.out;unfold zho at h1;rw [G5.out] at h1;simp [k2] at h1;exact h1
    have HF:=hid (fun W (hW:qb X W)=>zyk (modO l o f.m) ((l.length:Int)+1+cdL (l.take (modO l o f.m))) (dtL (l.take (modO l o f.m))) f.kind (fxL l o j)[p].a (entsO l (modO l o f.m)) xk yk W (by rw [zfw Bm];exact C6.entries.later (thenB CT.out hW)) ae ae ⟨fr4,fr5⟩ BE.out JA.out)
    have QI:Hid (z1x l o f=fixV f.kind (fxL l o j)[p].a ((l.length:Int)+1+cdL (l.take (modO l o f.m))) (dtL (l.take (modO l o f.m))) (entsO l (modO l o f.m))):=by show z1x l o f=_;unfold z1x;rw [G5.out]
    have EZ:=hid (ownsRow_later DL.out BA);have JE:=hid (fun W (hW:qb X W)=>zym (ownsRow_later EZ.out hW) p JX (zch l o j));have Ny:=hek;clear Ny C6 hek E6 BA hX AZ D1 BO hb Ez GW CD Gb Hf fr2 fr6 fr7;generalize fixV f.kind (fxL l o j)[p].a ((l.length:Int)+1+cdL (l.take (modO l o f.m))) (dtL (l.take (modO l o f.m))) (entsO l (modO l o f.m))=fv at *;generalize (fxL l o j)[p].a=A at *;generalize entsO l (modO l o f.m)=es at *;generalize U1:modO l o f.m=mo at *;go_upto_region 5 with fail;rw [← HX.out];refine wp_region_held_drew (S:=(fun W=>W.cell? (qa w.heap.size 0)=some (.string o.name)/\W.cell? (qa w.heap.size 1)=some (.slice x1 o.uses.length y1)/\W.cell? (qa w.heap.size 2)=some (qi o.data)/\W.cell? (qa w.heap.size 3)=some (.slice x3 o.code.length y3)/\W.cell? (qa w.heap.size 4)=some (.slice (some (qa fb fo)) o.fixes.length y4)/\W.cell? (qa w.heap.size 5)=some (.slice x5 o.entries.length y5)/\W.cell? (qa w.heap.size 6)=some (qi o.main)/\W.cell? (qa wr.heap.size 0)=some (qi p)/\W.cell? (qa wr.heap.size 1)=some (qi f.kind)/\W.cell? (qa wr.heap.size 2)=some (qi f.m))) ah (HS.out _ (zkn X)) (fun A4=>?_)
    refine tkl 0 (.slice (some (qa g 0)) o.code.length cc) rfl ah (fun _ _ _ h=>h) (fun W hW=>ah) A4 ?_;refine tkl 1 (pq wr.heap.size 0) rfl ah (fun _ _ _ h=>h) (fun W hW=>ah) A4 ?_;refine tkl 2 (qi p) rfl ah (fun _ _ _ h=>h) (fun W hW=>bF) A4 ?_;refine tkl 3 (.map (some pb)) rfl ah (fun _ _ _ h=>h) (fun W hW=>ah) A4 ?_;refine tkl 4 (.agg #[.string o.name,.slice x1 o.uses.length y1,qi o.data,.slice x3 o.code.length y3,.slice (some (qa fb fo)) o.fixes.length y4,.slice x5 o.entries.length y5,qi o.main]) rfl ah (fun _ _ _ h=>h) (fun W hW=>bF) A4 ?_;refine tkl 5 (pq wr.heap.size 2) rfl ah (fun _ _ _ h=>h) (fun W hW=>ah) A4 ?_
    refine tkl 6 (qi f.m) rfl ah (fun _ _ _ h=>h) (fun W hW=>bF) A4 ?_;refine tkl 8 (pq wr.heap.size 1) rfl ah (fun _ _ _ h=>h) (fun W hW=>ah) A4 ?_;refine tkl 9 (qi f.kind) rfl ah (fun _ _ _ h=>h) (fun W hW=>bF) A4 ?_;refine tkl 10 (.slice (some (qa g 0)) o.code.length cc) rfl ah (fun _ _ _ h=>h) (fun W hW=>ah) A4 ?_;refine tkl 11 (pq wr.heap.size 0) rfl ah (fun _ _ _ h=>h) (fun W hW=>ah) A4 ?_;refine tkl 12 (qi p) rfl ah (fun _ _ _ h=>h) (fun W hW=>bF) A4 ?_;refine tkl 13 (.pointer (some ⟨g,p*3,none⟩)) rfl ah (fun _ _ _ h=>h) (fun W hW=>aY) A4 ?_
    refine tkl 14 (.pointer (some ⟨g,p*3+1,none⟩)) rfl ah (fun _ _ _ h=>h) (fun W hW=>ah) A4 ?_;have Bt:=(JE.out _ (zkn X)).1
    (try simp only [Act.put,vae,van,vao])
    refine wpAnyH_ready (rs:=[7,15]) ah aA ?_;refine AllReadyH.cons rfl ?_ (AllReadyH.cons rfl ?_ AllReadyH.nil)
    . intro Kq hK
      clear Bt;go_simp
      go_wp2_with (go_at_call 146;refine (HM.out _ (zkn X)).mono ?_;rintro e w7 ⟨rfl,AR⟩)
      have BF:=hid (thenB (zkn X) AR);refine hK.out _ _ (HS.out _ BF.out) (fun A4=>?_);clear hK Kq AR
      (try simp only [Act.put,vae,van,vao])
      have Bt:=(JE.out _ BF.out).1;refine wpAnyH_ready (rs:=[15]) ah aA ?_;refine AllReadyH.cons rfl ?_ AllReadyH.nil;intro Kq hK;go_simp;refine hK.out _ _ (HS.out _ BF.out) (fun A4=>?_);clear hK Kq Bt
      exact fC
    . intro Kq hK
      go_simp;refine hK.out _ _ (HS.out _ (zkn X)) (fun A4=>?_);clear hK Kq Bt
      (try simp only [Act.put,vae,van,vao])
      refine wpAnyH_ready (rs:=[7]) ah aA ?_;refine AllReadyH.cons rfl ?_ AllReadyH.nil;intro Kq hK;go_simp
      go_wp2_with (go_at_call 146;refine (HM.out _ (zkn X)).mono ?_;rintro e w7 ⟨rfl,AR⟩)
      have BF:=hid (thenB (zkn X) AR);refine hK.out _ _ (HS.out _ BF.out) (fun A4=>?_);clear hK Kq AR
      exact fC
  . obtain rfl:j=o.fixes.length:=by omega
    have hz:=hb.size;clear D1 Ez;go_wp2_with fail;go_ret;exact ⟨_,rfl,zgi DL.out ae,M4.out.trans (HB.out.mono ae)⟩
set_option maxHeartbeats 6400000
def zhj:List Ob->Int
 | []=>0
 | o :: r=>if oChk o≠0 then oChk o else zhj r
theorem zhp:∀ l:List Ob,(∀ i (h:i<l.length),oChk l[i]=0)->zhj l=0
 | [],_=>rfl
 | o :: r,h=>by
   have h0:oChk o=0:=h 0 aA;unfold zhj;rw [if_neg (by rw [h0];exact fun e=>e rfl)];exact zhp r (fun i hi=>h (i+1) dI)
theorem zk5:∀ (l:List Ob) (j:Nat) (hj:j<l.length),(∀ i (h:i<j),oChk l[i]=0)->oChk l[j]≠0->zhj l=oChk l[j]
 | o :: r,0,_,_,hn=>by
   unfold zhj;rw [if_pos (show oChk o≠0 from hn)]
   rfl
 | o :: r,j+1,hj,h,hn=>by
   have h0:oChk o=0:=h 0 ae;unfold zhj;rw [if_neg (by rw [h0];exact fun e=>e rfl)];exact zk5 r j (by simpa using hj) (fun i hi=>h (i+1) ae) hn
theorem znh:∀ {l:List Ob},zhj l=0->∀ o ∈ l,oChk o=0
 | o :: r,h,x,hx=>by
   unfold zhj at h
   by_cases h0:oChk o=0
   . rw [if_neg (by rw [h0];exact fun e=>e rfl)] at h
     rcases vby.1 hx with rfl | hx
     . exact h0
     . exact znh h x hx
   . rw [if_pos h0] at h
     exact absurd h h0
def lnChk (l:List Ob):Int:=if l.length<1\/4<l.length then 2 else if zhj l≠0 then zhj l else if ¬ (nmO l).Nodup then 6 else if zhi l=false then 9 else if zjs l=false then 5 else 0
theorem zsp {o:Ob} (h:oChk o=0):1<=o.code.length/\o.code.length<=2048/\0<=o.data/\o.data<=512:=by
 obtain ⟨hm,_,hc,_⟩:=zja h;unfold zgg at hm;simp only [vat] at hm;have h1:=of_decide_eq_false hm.2.2.1;have h2:=of_decide_eq_false hm.2.2.2;unfold zc6 zqd at hc;simp only [vac] at hc;have h3:=of_decide_eq_true hc.2.2.2;omega
theorem zyn {o:Ob} (h:oChk o=0):0<=o.main/\o.main<o.code.length:=by
 obtain ⟨hm,_,hc,_⟩:=zja h;unfold zc6 zqd at hc;simp only [vac] at hc;exact of_decide_eq_true hc.2.2.1
theorem zsq {l:List Ob} (h4:l.length<=4) (h:∀ o ∈ l,oChk o=0):z7y l:=⟨h4,fun o ho=>zsp (h o ho)⟩
theorem zkp {l:List Ob} (hn:(nmO l).Nodup) (ha:zhi l=true):z2a l:=fun i hi m h0 h1=>by
 unfold zms
 by_cases hm:m=0
 . rw [if_pos hm,zg0 hn hi];rfl
 . rw [if_neg hm]
   have h2:=zan.1 ha i hi;unfold ze3 at h2;rw [vad hi] at h2
   have hk:(m - 1).toNat<l[i].uses.length:=ae
   have h3:=vas.1 h2 l[i].uses[(m - 1).toNat] (vah hk);rw [vax,vad hk];show (lkO l (l[i].uses[(m - 1).toNat]).data.toList l.length).isSome=true;unfold ze2 at h3
   cases e:lkO l (l[i].uses[(m - 1).toNat]).data.toList l.length with
   | none=>rw [e] at h3;cases h3
   | some k=>rfl
theorem zhq (l:List Ob) (ev:Nat->Value) (a:OA) (cap:Nat) (w:World) (hO:OsAt w a l ev) :
 qc 43 #[.slice a l.length cap] w fun e w'=>e = .returned (qi (lnChk l))/\qb w w':=by
 have Bz:=hO.bound;have HO:=hid hO;clear hO
 obtain ⟨r,hr⟩:∃ r,r=lnChk l:=⟨_,rfl⟩
 rw [← hr];unfold lnChk at hr;have HR:=hid hr;clear hr;go_enter Tryz.func43,Tryz.ntmps43
 by_cases h1:l.length<1
 . have HV:Hid (r=2):=HR.out.trans (if_pos (Or.inl h1))
   have NV:(l.length:Int)<1:=ae
   have NS:¬ (4<(l.length:Int)):=ae
   go_wp2_with fail;exact jS
 by_cases h4:4<l.length
 . have HV:Hid (r=2):=HR.out.trans (if_pos (Or.inr h4))
   have NV:¬ ((l.length:Int)<1):=ae
   have NS:(4:Int)<(l.length:Int):=ae
   go_wp2_with fail;exact jS
 have An:=hid (HR.out.trans (if_neg ae))
 have NV:¬ ((l.length:Int)<1):=ae
 have NS:¬ (4<(l.length:Int)):=ae
 go_wp2_with fail;clear NV NS
 go_loopw [4,5,17] (fun _ _ i wr=>∃ j:Nat,j<=l.length/\i=qi j/\(∀ k (h:k<l.length),k<j->oChk l[k]=0)/\qb w wr) (fun _ _ i _=>l.length - (intOf i).toNat)
 case atStart=>exact ⟨0,vaf _,rfl,fun k _ h=>absurd h (vbe _),Below.refl _ _⟩
 case round=>
  obtain ⟨j,hj,rfl,A7,hb⟩:=hrel;have HA:=hid A7;have HB:=hid hb;clear A7
  by_cases A0:j<l.length
  . obtain ⟨b,off,x1,y1,x3,y3,x4,y4,x5,y5,rfl,Bd,c0,c1,c2,c3,c4,c5,c6,ho,Ed, -⟩:=(HO.out.later hb).get j A0
    have HC:=hid (zqk l[j] x1 y1 x3 y3 x4 y4 x5 y5 (wr.alloc (kzD l[j].name x1 l[j].uses.length y1 l[j].data x3 l[j].code.length y3 x4 l[j].fixes.length y4 x5 l[j].entries.length y5 l[j].main)) (ho.later (al1 _ _)) Ed);clear ho Ed hb;go_wp2_with fail;refine HC.out.mono ?_;rintro e w2 ⟨rfl,Ab⟩;have Ad:=hid (thenB HB.out (thenB (al1 wr _) Ab));clear Ab HC c0 c1 c2 c3 c4 c5 c6
    by_cases hz:oChk l[j]=0
    . have LB:Hid (∀ k (h:k<l.length),k<j+1->oChk l[k]=0):=fun k h hk=>by
       exact jn
      go_wp2_with fail;go_roundw
      case rel=>exact ⟨j+1,ae,aR,LB.out,Ad.out⟩
      case measure=>simp [intOf];omega
    . exact gH
  . obtain rfl:j=l.length:=by omega
    have A7:∀ o ∈ l,oChk o=0:=fun o ho=>by
     obtain ⟨i,hi,rfl⟩:=vba ho;exact HA.out i hi hi
    have HE:=hid A7;have HN:=hid (zsq ae A7);have Aq:=hid (An.out.trans (if_neg (by rw [zhp l (fun i h=>HA.out i h h)];exact fun e=>e rfl)));have GE:=hid (zjq l ev a cap wr (HO.out.later hb) HN.out);clear A7 An HA hb;go_wp2_with fail;refine GE.out.mono ?_;rintro e w2 ⟨pb,rfl,hP,Ab⟩;have Ad:=hid (thenB HB.out Ab);have HP:=hid hP;obtain ⟨m,hm,E7,Jh⟩:=hP.len;have G4:=hid (zsj l ev a cap pb w2 (HO.out.later Ad.out) ae hP);have F2:=hid (fun (hn:(nmO l).Nodup) (ha:zhi l=true) W (hW:qb w2 W)=>zsl l ev a cap pb W (HO.out.later (thenB Ad.out hW)) ae (HP.out.later hW) HE.out (zkp hn ha));clear hP Ab GE
    by_cases hn:(nmO l).Nodup
    . obtain rfl:=E7 hn
      have MX:¬ ((l.length:Int)<(l.length:Int)):=ae
      have AU:=hid (Aq.out.trans (if_neg (fun h=>h hn)));have Ju:=hid hn;clear E7 Jh hn Aq;go_wp2_with fail;refine G4.out.mono ?_;rintro e w3 ⟨rfl,A9⟩;have Af:=hid A9;clear A9 G4 hm
      cases ha:zhi l with
      | false=>
        have HV:Hid (r=9):=AU.out.trans (if_pos ha);clear ha;go_wp2_with fail;go_ret;exact ⟨bw,thenB Ad.out Af.out⟩
      | true=>
        have Bp:=hid (AU.out.trans (if_neg (by rw [ha];decide)));have HC:=hid (F2.out Ju.out ha w3 Af.out);clear ha;go_wp2_with fail;refine HC.out.mono ?_;rintro e w4 ⟨rfl,Aj⟩;have Ap:=hid (thenB Af.out Aj);clear Aj HC
        cases hc:zjs l with
        | false=>
          have HV:Hid (r=5):=Bp.out.trans (if_pos hc);exact jN
        | true=>
          have HV:Hid (r=0):=Bp.out.trans (if_neg (by rw [hc];decide));exact jN
    . have LM:=Jh hn
      have MX:(m:Int)<(l.length:Int):=ae
      have HV:Hid (r=6):=Aq.out.trans (if_pos hn);clear E7 Jh hn Aq G4 F2;go_wp2_with fail;go_ret;exact ⟨bw,Ad.out⟩
set_option maxHeartbeats 12800000
def codeL (l:List Ob) (j:Nat):List Gi:=(zeu l l.length++[⟨20,0,0⟩])++(l.take j).flatMap (fun o=>fxL l o o.fixes.length)
theorem zjb (l:List Ob) {j:Nat} (h:j<l.length):codeL l (j+1)=codeL l j++fxL l l[j] l[j].fixes.length:=by
 unfold codeL;rw [vag h,vds];simp
theorem zh6 (l:List Ob):∀ j,j<=l.length->((codeL l j).length:Int)=l.length+1+cdL (l.take j)
 | 0,_=>by simp [codeL,zfj,cdL]
 | j+1,h=>by
   have ih:=zh6 l j ae;rw [zjb l (by omega:j<l.length),vaj,zch,zkk (by omega:j<l.length)];omega
def zsr (l:List Ob):Except Int (List Gi × Int):=if lnChk l≠0 then .error (lnChk l) else if 2048<(codeL l l.length).length\/512<dtL l then .error 2 else .ok (codeL l l.length,dtL l)
def zoy (lo:Nat) (r:Except Int (List Gi × Int)) (e:Ending) (w:World):Prop:=
 match r with
 | .error c=>e = .returned (.tuple #[.agg #[.slice none 0 0,.int .i64 0],.int .i64 c])/\c≠0
 | .ok (c,d)=>∃ v,e = .returned (.tuple #[.agg #[v,.int .i64 d],.int .i64 0])/\w.ownsRow lo 69 3 v c.length (zeb c)
theorem zux {l:List Ob} (h:lnChk l=0):1<=l.length/\l.length<=4/\(∀ o ∈ l,oChk o=0)/\(nmO l).Nodup/\zhi l=true/\zjs l=true:=by
 unfold lnChk at h
 split at h
 . cases h
 . rename_i h1
   split at h
   . rename_i h2;exact absurd h h2
   . rename_i h2
     split at h
     . cases h
     . rename_i h3
       split at h
       . cases h
       . rename_i h4
         split at h
         . cases h
         . rename_i h5
           exact ⟨ae,ae,znh dz,by simpa using h3,by simpa using h4,by simpa using h5⟩
theorem zbz {w:World} {b:Nat} {x0 x1:Value} {t:TypeId} (h:w.heap[b]? = some (.cells #[x0,x1] t (0,0))):w.cell? (qa b 0)=some x0/\w.cell? (qa b 1)=some x1/\∀ i,w.frozen? (qa b i)=false:=by
 refine ⟨?_,?_,fun i=>veq h i⟩<;>(rw [vep h];rfl)
theorem zgj {w:World} {B:Nat} {a:OA} {cap:Nat} {c:List Gi} (h:w.ownsRow B 69 3 (.slice a c.length cap) c.length (zeb c)) (hn:c.length≠0):∃ b off,a=some (qa b off)/\∀ j (hj:j<c.length),w.cell? ⟨b,off+j*3,none⟩=some (qi c[j].op)/\w.cell? ⟨b,off+j*3+1,none⟩=some (qi c[j].a)/\w.cell? ⟨b,off+j*3+2,none⟩=some (qi c[j].b):=by
 obtain ⟨g,cap',e,_,_⟩:=zev h ae
 injection e with e1 _ _
 subst e1;refine ⟨g,0,rfl,fun j hj=>?_⟩
 have hc:∀ k,k<3->∀ u,(giV c[j])[k]? = some u->w.cell? ⟨g,j*3+k,none⟩=some u:=fun k hk u hu=>by
  have:=h.cells (g:=g) rfl (j*3+k) u ((zk3 giV 3 (fun _=>rfl) c j hj k hk).trans hu);rwa [zk2,vaz] at this
 rw [vaz];exact ⟨hc 0 ae _ rfl,hc 1 ae _ rfl,hc 2 ae _ rfl⟩
theorem zoz (l:List Ob) (ev:Nat->Value) (a:OA) (cap:Nat) (w:World) (hO:OsAt w a l ev) :
 qc 40 #[.slice a l.length cap] w fun e w'=>zoy w.heap.size (zsr l) e w'/\qb w w':=by
 have Bz:=hO.bound;have HO:=hid hO;have HC:=hid (zhq l ev a cap (w.alloc (.cells #[qs,qi 0] 81)) (hO.later (al1 _ _)));clear hO
 obtain ⟨r,hr⟩:∃ r,r=zsr l:=⟨_,rfl⟩
 rw [← hr];unfold zsr at hr;have HR:=hid hr;clear hr;go_enter Tryz.func40,Tryz.ntmps40;go_wp2_with fail;refine HC.out.mono ?_;rintro e w1 ⟨rfl,A6⟩;have A8:=hid (thenB (al1 w _) A6);have P0:=hid ((A6.block w.heap.size aA).trans (heap_newP w (.cells #[qs,qi 0] 81)));have Ao:=A6.size;simp at Ao;obtain ⟨r0,r1,rf⟩:=zbz P0.out;have Dk:=lt_of_heap P0.out;clear A6 HC
 by_cases he:lnChk l=0
 rotate_left
 . have HV:Hid (r = .error (lnChk l)):=HR.out.trans (if_pos he)
   generalize lnChk l=z at *;have GI:=hid he;go_wp2_with fail;refine bodyPost_ret (v:=.tuple #[.agg #[qs,qi 0],qi z]) (by simp [results,Tryz.results40,go_sem,r0,r1,Dk]) rfl ⟨by rw [HV.out];exact ⟨rfl,GI.out⟩,?_⟩;exact i7
 obtain ⟨k1,k2,k3,k4,k5,k6⟩:=zux he;have An:=hid (HR.out.trans (if_neg (fun h=>h he)));have HE:=hid k3;have HN:=hid (zsq k2 k3);have Ju:=hid k4;have Lp:=hid (zkp k4 k5);have F3:=hid k6
 have Jx:Hid (MainsB l):=⟨fun o ho=>by have:=zyn (k3 o ho);have:=zsp (k3 o ho);omega,k4⟩
 have GE:=hid (zjq l ev a cap w1 (HO.out.later A8.out) HN.out);rw [he];clear HR k3 k4 k5 k6 he;go_wp2_with fail;refine GE.out.mono ?_;rintro e w2 ⟨pb,rfl,hP,Ab⟩;have Ad:=hid (thenB A8.out Ab);have HP:=hid hP;have Ay:=Ab.size;have P1:=hid ((Ab.block _ Dk).trans P0.out);have Jw:=hid (zsm l ev a cap pb w2 (HO.out.later Ad.out) HN.out hP Jx.out);clear hP Ab GE r0 r1 rf;go_wp2_with fail;refine Jw.out.mono ?_;rintro e w3 ⟨v3,rfl,ho3,A9⟩;obtain ⟨a3,c3,rfl, -, -⟩:=zag ho3;have D9:=hid ho3;have BB:=A9.size
 have CC:=fun k hk=>(ho3.lt k hk).2
 obtain ⟨M,hM⟩:∃ M,M=w3.heap.size:=⟨_,rfl⟩
 obtain ⟨W,hW⟩:∃ W,W=w3.alloc (.cells #[.slice a3 (l.length+1) c3,qi 0] 81):=⟨_,rfl⟩
 have EC:qb w3 W:=by rw [hW];exact al1 _ _
 have M4:=hid EC;have HW:=hid hW
 have T9:Hid (W.heap[M]? = some (.cells #[.slice a3 (l.length+1) c3,qi 0] 81)):=by rw [hM,hW];exact heap_newP _ _
 have TD:=hid (A9.trans (EC.mono BB))
 have Ow:Hid (∀ k,(Value.slice a3 (l.length+1) c3).ownBlock=some k->k≠M):=fun k hk e=>by have:=CC k hk;omega
 have MK:W.heap.size=M+1:=by rw [hW,hM];simp
 have Ur:w2.heap.size<=M:=ae
 have LX:w.heap.size<M:=ae
 have BV:=hid hM;clear ho3 A9 Jw hW EC CC;go_upto_region 6 with fail;rw [← HW.out,← hM];clear HW hM;go_wp2_with fail
 go_loopw [8,23] (fun _ i wr=>∃ (j:Nat) (vc:Value),j<=l.length/\i=qi j/\wr.heap[M]? = some (.cells #[vc,qi (dtL (l.take j))] 81 (0,0))/\wr.ownsRow w2.heap.size 69 3 vc (codeL l j).length (zeb (codeL l j))/\vc.ownBlock≠some M/\qb w2 wr) (fun _ i _=>l.length - (intOf i).toNat)
 case atStart=>
  refine ⟨0,_,vaf _,rfl,T9.out,?_,fun h=>Ow.out _ h rfl,TD.out⟩
  have e1:codeL l 0=zeu l l.length++[⟨20,0,0⟩]:=by simp [codeL]
  have e2:(codeL l 0).length=l.length+1:=by rw [e1];simp [zfj]
  rw [e2,e1];exact ownsRow_later D9.out M4.out
 case round=>
  obtain ⟨j,vc,hj,rfl,hm,Aa,hvm,hb⟩:=hrel;have IF:=hid hvm;have HB:=hid hb;have T8:=hid hm;have DL:=hid Aa;have Sb:=lt_of_heap hm;have Ez:=thenB Ad.out hb;have Bu:=zfd HN.out j hj;have FU:=zh6 l j hj;have Kx:=hid ((hb.block _ (vai (lt_of_heap P1.out) (vaa _))).trans P1.out);obtain ⟨ac,cc,hvc, -, -⟩:=zag Aa;clear hvm Aa
  by_cases A0:j<l.length
  . obtain ⟨b,off,x1,y1,x3,y3,x4,y4,x5,y5,rfl,Bd,c0,c1,c2,c3',c4,c5,c6,ho, -, -⟩:=(HO.out.later Ez).get j A0
    clear hvc;have CA:=A0;have Ey:=HN.out.2 l[j] (vah A0);have Gt:=Ey.1;have Gs:=Ey.2.1;have Il:=Ey.2.2.1;have Ik:=Ey.2.2.2;have Nz:=zkl A0
    obtain ⟨o,ES⟩:∃ o,o=l[j]:=⟨_,rfl⟩
    have G1:=hid (zjb l A0)
    obtain ⟨X,hX⟩:∃ X,X=wr.alloc (kzD o.name x1 o.uses.length y1 o.data x3 o.code.length y3 x4 o.fixes.length y4 x5 o.entries.length y5 o.main):=⟨_,rfl⟩
    have BA:qb wr X:=dq
    have HX:=hid hX
    have JO:X.heap.size=wr.heap.size+1:=by rw [hX];simp
    have AZ:X.heap[wr.heap.size]? = some (kzD o.name x1 o.uses.length y1 o.data x3 o.code.length y3 x4 o.fixes.length y4 x5 o.entries.length y5 o.main):=ct
    have Dy:=hid (fun (W':World) (hW:W'.heap[wr.heap.size]? = some (kzD o.name x1 o.uses.length y1 o.data x3 o.code.length y3 x4 o.fixes.length y4 x5 o.entries.length y5 o.main))=>(by
     obtain ⟨e0,e1,e2,e3,e4,e5,e6,_⟩:=zam hW
     exact ⟨e0,e1,e2,e3,e4,e5,e6⟩:W'.cell? (qa wr.heap.size 0)=some (.string o.name)/\W'.cell? (qa wr.heap.size 1)=some (.slice x1 o.uses.length y1)/\W'.cell? (qa wr.heap.size 2)=some (qi o.data)/\W'.cell? (qa wr.heap.size 3)=some (.slice x3 o.code.length y3)/\W'.cell? (qa wr.heap.size 4)=some (.slice x4 o.fixes.length y4)/\W'.cell? (qa wr.heap.size 5)=some (.slice x5 o.entries.length y5)/\W'.cell? (qa wr.heap.size 6)=some (qi o.main)))
    have HS:=hid (fun W' (hW:qb X W')=>Dy.out W' ((hW.block _ (lt_of_heap AZ)).trans AZ));have CT:=hid (hb.trans (BA.mono hb.size));have Hq:=hid ((BA.block _ Sb).trans hm);have Qr:=hid (fun W' (hW:qb X W')=>zbz ((hW.block _ (lt_of_heap Hq.out)).trans Hq.out));have EZ:=hid (fun W' (hW:qb X W')=>ownsRow_later (ownsRow_later DL.out BA) hW)
    have Js:Hid (vc.ownBlock≠some wr.heap.size):=fun h=>by have:=(DL.out.lt _ h).2;omega
    have Hg:Hid (∀ {v5:Value} {n:Nat},(v5.ownBlock=vc.ownBlock\/v5.ownBlock=some n)->n≠M->v5.ownBlock≠some M):=fun h hn e=>h.elim (fun h=>IF.out (h.symm.trans e)) (fun h=>hn (vab (h.symm.trans e)))
    have EK:=hid (fun W' (hW:qb X W')=>zso l ev (some (qa b off)) pb W' (HO.out.later (thenB (thenB Ad.out (hb.trans (BA.mono hb.size))) hW)) HN.out (HP.out.later (thenB (hb.trans (BA.mono hb.size)) hW)) HE.out Lp.out F3.out j A0 x1 y1 x3 y3 x4 y4 x5 y5 ((ho.later BA).later hW));rw [← ES] at EK Gt Gs Il Ik Nz G1 c0 c1 c2 c3' c4 c5 c6;clear ho hm Ey;clear ES BA hX hb Ez;go_upto_region 9 with fail;rw [← HX.out];refine wp_region_held_drew (S:=(fun W'=>W'.cell? (qa wr.heap.size 0)=some (.string o.name)/\W'.cell? (qa wr.heap.size 1)=some (.slice x1 o.uses.length y1)/\W'.cell? (qa wr.heap.size 2)=some (qi o.data)/\W'.cell? (qa wr.heap.size 3)=some (.slice x3 o.code.length y3)/\W'.cell? (qa wr.heap.size 4)=some (.slice x4 o.fixes.length y4)/\W'.cell? (qa wr.heap.size 5)=some (.slice x5 o.entries.length y5)/\W'.cell? (qa wr.heap.size 6)=some (qi o.main))) ah (HS.out _ (zkn X)) (fun A4=>?_)
    refine tkl 0 (pq M 0) rfl ah (fun _ _ _ h=>h) (fun W hW=>ah) A4 ?_;refine tkl 2 (.map (some pb)) rfl ah (fun _ _ _ h=>h) (fun W hW=>ah) A4 ?_;refine tkl 3 (.agg #[.string o.name,.slice x1 o.uses.length y1,qi o.data,.slice x3 o.code.length y3,.slice x4 o.fixes.length y4,.slice x5 o.entries.length y5,qi o.main]) rfl ah (fun _ _ _ h=>h) (fun W hW=>by obtain ⟨s0,s1,s2,s3,s4,s5,s6⟩:=hW;go_simp) A4 ?_;have GY:=(Qr.out _ (zkn X)).1
    (try simp only [Act.put,vae,van,vao])
    refine wpAnyH_ready (rs:=[1,4]) ah aA ?_;refine AllReadyH.cons rfl ?_ (AllReadyH.cons rfl ?_ AllReadyH.nil)
    . intro Kq hK
      go_simp;refine hK.out _ _ (HS.out _ (zkn X)) (fun A4=>?_);clear hK Kq GY
      (try simp only [Act.put,vae,van,vao])
      refine wpAnyH_ready (rs:=[4]) ah aA ?_;refine AllReadyH.cons rfl ?_ AllReadyH.nil;intro Kq hK;go_simp
      go_wp2_with (go_at_call 104;refine (EK.out _ (zkn X)).mono ?_;rintro e w4 ⟨v4,rfl,ho4,Aj⟩)
      have Ap:=hid (thenB (zkn X) Aj);have EH:=hid ho4;refine hK.out _ _ (HS.out _ Ap.out) (fun A4=>?_);clear hK Kq Aj ho4
      exact ft
    . intro Kq hK
      clear GY;go_simp
      go_wp2_with (go_at_call 104;refine (EK.out _ (zkn X)).mono ?_;rintro e w4 ⟨v4,rfl,ho4,Aj⟩)
      have Ap:=hid (thenB (zkn X) Aj);have EH:=hid ho4;refine hK.out _ _ (HS.out _ Ap.out) (fun A4=>?_);clear hK Kq Aj ho4
      (try simp only [Act.put,vae,van,vao])
      have GY:=(Qr.out _ Ap.out).1;refine wpAnyH_ready (rs:=[1]) ah aA ?_;refine AllReadyH.cons rfl ?_ AllReadyH.nil;intro Kq hK;go_simp;refine hK.out _ _ (HS.out _ Ap.out) (fun A4=>?_);clear hK Kq GY
      exact ft
  . obtain rfl:j=l.length:=by omega
    rw [vau] at hm T8;obtain ⟨m0,m1,mf⟩:=zbz hm;obtain ⟨r0,r1,rf⟩:=zbz Kx.out;have Ia:=lt_of_heap Kx.out;subst hvc;have Kl:=(zfd HN.out l.length (vaa _)).2.2;rw [vau] at Kl;have G3:=hid Ez;clear hm hb Ez
    by_cases g1:2048<(codeL l l.length).length
    . have HV:Hid (r = .error 2):=An.out.trans (if_pos (Or.inl g1))
      have M3:(2048:Int)<((codeL l l.length).length:Int):=ae
      generalize (codeL l l.length).length=nn at *;clear g1 FU;go_wp2_with fail;refine bodyPost_ret (v:=.tuple #[.agg #[qs,qi 0],qi 2]) cQ rfl ⟨dg,?_⟩;exact fW
    . have M3:¬ ((2048:Int)<((codeL l l.length).length:Int)):=by omega
      by_cases g2:512<dtL l
      . have HV:Hid (r = .error 2):=An.out.trans (if_pos (Or.inr g2))
        generalize (codeL l l.length).length=nn at *;generalize dtL l=dd at *;clear g1 FU;go_wp2_with fail;refine bodyPost_ret (v:=.tuple #[.agg #[qs,qi 0],qi 2]) cQ rfl ⟨dg,?_⟩;exact fW
      . have HV:Hid (r = .ok (codeL l l.length,dtL l)):=An.out.trans (if_neg ae)
        have O7:=hid (zgi DL.out (by omega:w.heap.size<=w2.heap.size))
        have Pi:∀ k,(Value.slice ac (codeL l l.length).length cc).ownBlock=some k->k≠w.heap.size:=fun k hk e=>by have:=(DL.out.lt k hk).1;omega
        have KP:=hid Pi;clear Pi;generalize Dj:(codeL l l.length).length=nn at *;generalize dtL l=dd at *;clear g1 FU;go_wp2_with fail;refine bodyPost_ret (v:=.tuple #[.agg #[.slice ac nn cc,qi dd],qi 0]) cQ rfl ⟨?_,?_⟩
        . rw [HV.out]
          refine ⟨_,rfl,?_⟩;rw [Dj];exact iu
        . exact fW
set_option maxHeartbeats 3200000
theorem bdJ (w:World) (m:Nat):qb w (w.drewN m):=by
 have h:qb w w:=Below.refl _ _;exact ⟨h.os,h.tape,h.output,h.size,h.block⟩
def nmJ (l:List Ob) (n:Nat) (s:ByteArray):Int:=match (l.take n).findIdx? (fun o=>decide (o.name=s)) with | some i=>(i:Int) | none=>-1
theorem zuy {l:List Ob} {n j:Nat} {s:ByteArray} (hj:j<n) (hl:j<l.length) (he:l[j].name=s) (hb:∀ k (h:k<l.length),k<j->l[k].name≠s):nmJ l n s=j:=by
 have:(l.take n).findIdx? (fun o=>decide (o.name=s))=some j:=by
  rw [vbl];refine ⟨by rw [vbg];omega,by simpa using he,fun k hk=>?_⟩;rw [vdi];simpa using hb k ae hk
 unfold nmJ;rw [this]
theorem zo0 {l:List Ob} {n:Nat} {s:ByteArray} (hb:∀ k (h:k<l.length),k<n->l[k].name≠s):nmJ l n s = -1:=by
 have:(l.take n).findIdx? (fun o=>decide (o.name=s))=none:=by
  rw [vcq];intro o ho;obtain ⟨k,hk,rfl⟩:=vba ho;rw [vbg] at hk;rw [vdi];simpa using hb k ae ae
 unfold nmJ;rw [this]
theorem zjt (l:List Ob) (ev:Nat->Value) (a:OA) (n cap:Nat) (s:ByteArray) (w:World) (hO:OsAt w a l ev) (hn:n<=l.length) :
 qc 108 #[.slice a n cap,.string s] w fun e w'=>e = .returned (qi (nmJ l n s))/\∃ m,w'=w.drewN m:=by
 have Bz:=hO.bound;have HO:=hid hO;clear hO
 obtain ⟨r,hr⟩:∃ r,r=nmJ l n s:=⟨_,rfl⟩
 rw [← hr];have HR:=hid hr;clear hr;go_enter Tryz.func108,Tryz.ntmps108;go_wp2_with fail
 go_loopw [5] (fun i wr=>∃ j:Nat,j<=n/\i=qi j/\(∀ k (h:k<l.length),k<j->l[k].name≠s)/\wr=w) (fun i _=>n - (intOf i).toNat)
 case atStart=>exact ⟨0,vaf _,rfl,fun k _ h=>absurd h (vbe _),rfl⟩
 case round=>
  obtain ⟨j,hj,rfl,A7,rfl⟩:=hrel;have HA:=hid A7;clear A7
  by_cases A0:j<n
  . have Ic:j<l.length:=by omega
    obtain ⟨b,off,x1,y1,x3,y3,x4,y4,x5,y5,rfl,Bd,c0, -⟩:=HO.out.get j Ic
    cases hs:decide (l[j].name=s) with
    | true=>
      have Cs:(l[j].name.toList == s.toList)=true:=(zqc _ _).trans hs;have HV:Hid (r=j):=HR.out.trans (zuy A0 Ic (of_decide_eq_true hs) HA.out);clear hs;go_wp2_with fail;go_ret;exact ⟨bw,0,rfl⟩
    | false=>
      have Cs:(l[j].name.toList == s.toList)=false:=(zqc _ _).trans hs
      have LB:Hid (∀ k (h:k<l.length),k<j+1->l[k].name≠s):=fun k h hk=>by
       by_cases he:k=j
       . subst he;exact of_decide_eq_false hs
       . exact HA.out k h ae
      clear hs;go_wp2_with fail;go_roundw
      case rel=>exact ⟨j+1,ae,aR,LB.out,eT⟩
      case measure=>simp [intOf];omega
  . obtain rfl:j=n:=by omega
    have HV:Hid (r = -1):=HR.out.trans (zo0 HA.out);go_wp2_with fail;go_ret;exact ⟨bw,0,rfl⟩
theorem zqp {l:List Ob} (hn:(nmO l).Nodup) {n:Nat} (hl:n<=l.length) (s:ByteArray):(match lkO l s.data.toList l.length with | some k=>decide (k<n) | none=>false)=decide (0<=nmJ l n s)/\∀ k,lkO l s.data.toList l.length=some k->k<n->nmJ l n s=k:=by
 have Ai:∀ i j (hi:i<l.length) (hj:j<l.length),l[i].name=l[j].name->i=j:=fun i j hi hj e=>by
  have h1:=zg0 hn hi;have h2:=zg0 hn hj;rw [e] at h1;exact vab (h1.symm.trans h2)
 cases e:lkO l s.data.toList l.length with
 | none=>
   have hb:∀ k (h:k<l.length),k<n->l[k].name≠s:=fun k h _ he=>by
    have:=zg0 hn h;rw [he,e] at this
    cases this
   rw [zo0 hb];exact ⟨aA,fun k h=>by cases h⟩
 | some k=>
   obtain ⟨_,hk,Be⟩:=zqo _ _ _ (vaa _) e
   have Kh:l[k].name=s:=by
    apply vem
    exact Array.toList_inj.1 Be
   by_cases Gl:k<n
   . have hv:nmJ l n s=k:=zuy Gl hk Kh (fun j hj A0 he=>by have:=Ai j k hj hk (he.trans Kh.symm);omega)
     refine ⟨by rw [hv];simp [Gl],fun k' h' _=>?_⟩;rw [← vab h'];exact hv
   . have hb:∀ j (h:j<l.length),j<n->l[j].name≠s:=fun j h hj he=>by have:=Ai j k h hk (he.trans Kh.symm);omega
     rw [zo0 hb];refine ⟨by simp [Gl],fun k' h' A0=>?_⟩;rw [← vab h'] at A0;exact absurd A0 Gl
theorem z5q {l:List Ob} (hn:(nmO l).Nodup) (ha:zhi l=true) {i:Nat} (hi:i<l.length) {m:Nat} (hm:m<l[i].uses.length):(modO l l[i] ((m:Int)+1):Int)=nmJ l i l[i].uses[m]:=by
 have h2:=zan.1 ha i hi;unfold ze3 at h2;rw [vad hi] at h2;have h3:=vas.1 h2 l[i].uses[m] (vah hm)
 have B4:zms l[i] ((m:Int)+1)=l[i].uses[m]:=by
  unfold zms;rw [if_neg ae,vax,show ((m:Int)+1 - 1).toNat=m by omega,vad hm]
  rfl
 unfold modO;rw [B4];unfold ze2 at h3
 cases e:lkO l l[i].uses[m].data.toList l.length with
 | none=>rw [e] at h3;cases h3
 | some k=>
   rw [e] at h3;rw [(zqp hn (by omega:i<=l.length) l[i].uses[m]).2 k e (of_decide_eq_true h3)]
   rfl
theorem zqq {l:List Ob} (hn:(nmO l).Nodup) {i:Nat} (hi:i<l.length):modO l l[i] 0=i:=by
 unfold modO zms;rw [if_pos rfl,zg0 hn hi]
 rfl
theorem zju (l:List Ob) (ev:Nat->Value) (a:OA) (cap:Nat) (w:World) (hO:OsAt w a l ev) (AJ:l.length<=cap) (hn:(nmO l).Nodup) (ha:zhi l=true) (i:Nat) (hi:i<l.length) (m:Int) (GY:0<=m) (E7:m<=l[i].uses.length) :
 qc 105 #[.slice a l.length cap,qi i,qi m] w fun e w'=>e = .returned (qi (modO l l[i] m))/\∃ k,w'=w.drewN k:=by
 have Bz:=hO.bound
 by_cases h0:m=0
 . subst h0
   rw [zqq hn hi];go_enter Tryz.func105,Tryz.ntmps105;go_wp2_with fail;go_ret;exact ⟨rfl,0,rfl⟩
 . obtain ⟨k,rfl⟩:∃ k:Nat,m=(k:Int)+1:=⟨(m - 1).toNat,ae⟩
   have hk:k<l[i].uses.length:=ae
   rw [z5q hn ha hi hk];obtain ⟨b,off,x1,y1,x3,y3,x4,y4,x5,y5,rfl,Bd,c0,c1, -, -, -, -, -,ho, -, -⟩:=hO.get i hi;obtain ⟨ub,uo,rfl,JS,huc, -⟩:=ho.uses.str k hk;have FO:=ho.uses.bound;have HC:=hid (fun q=>zjt l ev (some (qa b off)) i cap l[i].uses[k] (w.drewN q) (hO.later (bdJ w q)) ae)
   have Cw:IntKind.i64.wrap ((k:Int)+1 - 1)=k:=aK
   have Rt:¬ ((k:Int)+1=0):=ae
   have Ud:(i:Int)<l.length:=ae
   have Nj:(i:Int)<=cap:=ae
   have Ua:(k:Int)<l[i].uses.length:=ae
   clear hO ho hn ha h0 GY E7;generalize l[i].uses[k]=u at *;generalize nmJ l i u=r at *;go_enter Tryz.func105,Tryz.ntmps105;go_wp2_with fail
   go_quiet ((go_at_call 108;exact Calls.quiet_of (HC.out _)))
   go_wp2_with fail;go_ret;exact ⟨rfl,_,rfl⟩
end Go.Proofs.YtndkhgakfodldaaGreatDoor
