import Derived.Test.YtndkhgakfodldaaGreatDoorLa
import Derived.Test.YtndkhgakfodldaaGreatDoorRb
namespace Go.Proofs.YtndkhgakfodldaaGreatDoor
set_option maxRecDepth 100000
set_option maxHeartbeats 6400000
open Go.RowKit Go.Maps Go.Sort Go.WideMaps
set_option linter.unusedSimpArgs false
set_option linter.unusedVariables false
def mnO (l:List Ob) (j:Nat):Gi:=match l[j]? with | some o=>⟨13,(l.length:Int)+1+cdL (l.take j)+o.main,0⟩ | none=>⟨0,0,0⟩
def zd0 (l:List Ob) (j:Nat):List Gi:=(List.range j).map (mnO l)
theorem zjm (l:List Ob) (j:Nat):zd0 l (j+1)=zd0 l j++[mnO l j]:=by unfold zd0;rw [vdc,vbw];rfl
theorem zeq (l:List Ob) (j:Nat):(zd0 l j).length=j:=by simp [zd0]
theorem z2g {l:List Ob} {j:Nat} (h:j<l.length):mnO l j=⟨13,(l.length:Int)+1+cdL (l.take j)+l[j].main,0⟩:=by unfold mnO;rw [vac h]
theorem zf4 {l:List Ob} (hn:(nmO l).Nodup) {j:Nat} (h:j<l.length):lkO l l[j].name.data.toList l.length=some j:=by
 have h1:=zqu (l:=l) l[j].name.data.toList l.length (vaa _);rw [vat] at h1
 have hm:(nmO l).contains l[j].name.data.toList=true:=by
  rw [vcv];exact vcw.2 ⟨l[j],vag h,rfl⟩
 rw [hm] at h1;obtain ⟨i,hi⟩:=Option.isSome_iff_exists.1 h1;obtain ⟨_,A0,he⟩:=zo2 _ _ _ (vaa _) hi;rw [hi]
 have e1:(nmO l)[i]'(by rw [znb];exact A0)=(nmO l)[j]'(by rw [znb];exact h):=by simpa [nmO] using he
 rw [(List.getElem_inj hn).1 e1]
theorem z7g (a b c d:Value):∀ w:World,(Instr.field 227 (.agg #[a,b,c,d]) 1).run Tryz.prog w = .ok b w:=fun _=>by kernel_rfl
structure MainsB (l:List Ob):Prop where
 main:∀ o ∈ l,0<=o.main/\o.main<=4096
 once:(nmO l).Nodup
theorem zqy (l:List Ob) (ev:Nat->Value) (a:OA) (cap pb:Nat) (w:World) (hO:OsAt w a l ev) (hN:z5h l) (hP:zi8 w pb l ev l.length) (hM:MainsB l) :
 qc 103 #[.slice a l.length cap,.map (some pb)] w fun e w'=>∃ v,e = .returned v/\w'.ownsRow w.heap.size 69 3 v (l.length+1) (zdl (zd0 l l.length++[⟨20,0,0⟩]))/\qb w w':=by
 have Bt:=hO.bound;have h4:=hN.1;have HO:=hid hO;have HP:=hid hP;have HN:=hid hN;have IA:=hid hM;clear hO hP hN hM;go_enter Tryz.func103,Tryz.ntmps103;go_wp2_with fail
 go_loopw [5,7,10] (fun c _ i wr=>∃ j:Nat,j<=l.length/\i=qi j/\wr.ownsRow w.heap.size 69 3 c j (zdl (zd0 l j))/\qb w wr) (fun _ _ i _=>l.length - (intOf i).toNat)
 case atStart=>exact ⟨0,vae _,rfl,ver _ _ _ _,Below.refl _ _⟩
 case round=>
  obtain ⟨j,hj,rfl,Ab,hb⟩:=hrel;obtain ⟨ca,cc,rfl, -, -⟩:=zag Ab;have Dl:=hid Ab;have HB:=hid hb;clear Ab
  by_cases A0:j<l.length
  . obtain ⟨b,off,x1,y1,x3,y3,x4,y4,x5,y5,rfl,B9,c0,c1,c2,c3,c4,c5,c6,ho, -, -⟩:=(HO.out.later hb).get j A0
    have LJ:=ho.wn
    obtain ⟨X,hX⟩:∃ X,X=wr.alloc (kzD l[j].name x1 l[j].uses.length y1 l[j].data x3 l[j].code.length y3 x4 l[j].fixes.length y4 x5 l[j].entries.length y5 l[j].main):=⟨_,rfl⟩
    have Bu:qb wr X:=by rw [hX];exact al1 _ _
    have KQ:X.heap[wr.heap.size]? = some (kzD l[j].name x1 l[j].uses.length y1 l[j].data x3 l[j].code.length y3 x4 l[j].fixes.length y4 x5 l[j].entries.length y5 l[j].main):=by rw [hX];exact heap_newP _ _
    have IU:X.heap.size=wr.heap.size+1:=by rw [hX];simp
    have HX:=hid hX;have BU:=hb.size;have Bm:=(HP.out.later (thenB hb Bu)).look LJ;rw [zf4 IA.out.once A0] at Bm;simp only [Option.elim,pv] at Bm;have El:=hid (ownsRow_later Dl.out Bu);have CF:=hid (thenB hb Bu);have Iz:=hid (z2g A0)
    have Bo:=(zek HN.out j (by omega))
    obtain ⟨FY,Dy⟩:=IA.out.main l[j] (vag A0);have Te:=lt_of_heap KQ
    have DY:∃ z0 z1 z2 z3 z4 z5,X.heap[wr.heap.size]? = some (.cells #[.string l[j].name,z1,z2,z3,z4,z5,qi l[j].main] 62)/\z0=0:=⟨0,_,_,_,_,_,KQ,rfl⟩
    generalize GL:ev j=ej at *;generalize Bq:l[j].name=nm at *;generalize ST:l[j].main=mn at *;generalize cdL (l.take j)=cd at *;generalize dtL (l.take j)=dt at *
    have Cm:IntKind.i64.wrap ((l.length:Int)+1+cd+mn)=(l.length:Int)+1+cd+mn:=by simp only [IntKind.wrap,IntKind.bits,IntKind.signed];simp;omega
    have Ik:=z7g (qi j) (qi ((l.length:Int)+1+cd)) (qi dt) ej;clear Bu hX hb;go_upto_region 5 with fail;rw [← HX.out];obtain ⟨d0,d1,d2,d3,d4,d5,d6,_⟩:=zaj KQ;clear KQ c0 c1 c2 c3 c4 c5 c6 ho DY
    go_wp2_with (at_builtin;refine zeg rfl (.tmp 14) (.tmp 24) 59 rfl w.heap.size 69 _ 3 24 Tryz.underlying59 Tryz.infoInstr rfl (by decide) X (.slice ca j cc) j (zdl (zd0 l j)) rfl El.out #[qi 13,qi ((l.length:Int)+1+cd+mn),qi 0] _ IU.symm rfl rfl (zk2 ⟨13,_,0⟩) (by omega) (by decide) (by omega) _ rfl ?_;intro g cp w1 ho;have Gc:=hid ho;have SE:=ho.size;clear ho Bm Ik d0 d1 d2 d3 d4 d5 d6)
    go_wp2_with fail;go_roundw
    case rel=>exact ⟨j+1,by omega,by go_num,by rw [zjm,Iz.out,zhr];exact Gc.out.own,CF.out.trans Gc.out.below⟩
    case measure=>simp [intOf];omega
  . obtain rfl:j=l.length:=by omega
    have BU:=hb.size;clear hb
    go_wp2_with (at_builtin;refine zeg rfl (.tmp 27) (.tmp 29) 59 rfl w.heap.size 69 _ 3 24 Tryz.underlying59 Tryz.infoInstr rfl (by decide) wr (.slice ca l.length cc) l.length (zdl (zd0 l l.length)) rfl Dl.out #[qi 20,qi 0,qi 0] _ rfl rfl rfl (zk2 ⟨20,0,0⟩) (by omega) (by decide) (by omega) _ rfl ?_;intro g cp w1 ho;have Gc:=hid ho;clear ho)
    go_wp2_with fail;go_ret;exact ⟨_,rfl,by rw [zhr];exact Gc.out.own,HB.out.trans Gc.out.below⟩
theorem zjn (b off j:Nat):((qa b off):Addr).add j=⟨b,off+j,none⟩:=by unfold Addr.add;split<;>simp_all
theorem zjo {α:Type} (f:α->List Value) (n:Nat) (hf:∀ x,(f x).length=n):∀ (l:List α) (i:Nat) (h:i<l.length) (j:Nat),j<n->(l.flatMap f)[i*n+j]? = (f l[i])[j]?
 | [],i,h,_,_=>by simp at h
 | x :: r,0,_,j,hj=>by
   have:=hf x;rw [vbj,vbk,vax,vba (by omega)]
   rfl
 | x :: r,i+1,h,j,hj=>by
   have:=hf x;rw [vbj,vbh (by rw [Nat.add_mul];omega),vbt,← zjo f n hf r i (by simpa using h) j hj]
   congr 1
   rw [Nat.add_mul];omega
theorem zes (w:World) (base:Nat) (ty:TypeId) (v:Value) (xs:List Gi) (Ag:w.ownsRow base 69 3 v xs.length (zdl xs)) (a:OA) (cap:Nat) (ys:List Gi) (hD:ys.length≠0->∃ b off,a=some (qa b off)/\∀ j (h:j<ys.length),w.cell? ⟨b,off+j*3,none⟩=some (qi ys[j].op)/\w.cell? ⟨b,off+j*3+1,none⟩=some (qi ys[j].a)/\w.cell? ⟨b,off+j*3+2,none⟩=some (qi ys[j].b)) (hb:xs.length+ys.length<=4194304) (AN:base<=w.heap.size) :
 ∃ v' w',(Builtin.append_ #[59,59] ty #[v,.slice a ys.length cap]).run Tryz.prog w = .ok v' w'/\w'.ownsRow base 69 3 v' (xs.length+ys.length) (zdl (xs++ys))/\w.grownBy w' v.ownBlock/\(v'.ownBlock=v.ownBlock\/v'.ownBlock=some w.heap.size):=by
 obtain ⟨i0,hi,Bs,Ao,AA⟩:=info_parts Tryz.infoInstr
 have Ci:∀ ad:Addr,(∀ j (u:Value),(zdl ys)[j]? = some u->w.cell? (ad.add j)=some u)->∃ v' w',(Builtin.append_ #[59,59] ty #[v,.slice (some ad) ys.length cap]).run Tryz.prog w = .ok v' w'/\w'.ownsRow base 69 3 v' (xs.length+ys.length) (zdl (xs++ys))/\w.grownBy w' v.ownBlock/\(v'.ownBlock=v.ownBlock\/v'.ownBlock=some w.heap.size):=by
  intro ad hc
  obtain ⟨v',w',hr,h2,h3,_,h5⟩:=run_append_own_at (P:=Tryz.prog) w base 59 ty 69 i0 _ 3 24 Tryz.underlying59 hi Bs Ao AA rfl (by omega) v xs.length _ Ag ad ys.length cap (zdl ys) (zt7 ys) hc
   (fun u hu=>by unfold zdl at hu;obtain ⟨i,_,h⟩:=List.mem_flatMap.1 hu;exact zk2 i u h) (by simp only [maxLen];omega) (by omega) AN
  refine ⟨v',w',hr,?_,h3,h5⟩
  have:zdl (xs++ys)=zdl xs++zdl ys:=by simp [zdl]
  rw [this];exact h2
 by_cases h0:ys.length≠0
 . obtain ⟨b,off,rfl,hc⟩:=hD h0
   refine Ci (qa b off) (fun j u hu=>?_)
   have hj:j<ys.length*3:=by rw [← zt7];exact (vcf.1 hu).1
   have h3:j=j / 3*3+j % 3:=by omega
   have GH:j / 3<ys.length:=by omega
   obtain ⟨d0,d1,d2⟩:=hc (j / 3) GH;rw [zjn];have hg:(zdl ys)[j / 3*3+j % 3]? = (giV ys[j / 3])[j % 3]?:=zjo giV 3 (fun _=>rfl) ys (j / 3) GH (j % 3) (by omega);rw [← h3,hu] at hg
   have hm:j % 3=0\/j % 3=1\/j % 3=2:=by omega
   rcases hm with h | h | h
   . rw [h] at hg;cases hg
     rw [show off+j=off+j / 3*3 by omega];exact d0
   . rw [h] at hg;cases hg
     rw [show off+j=off+j / 3*3+1 by omega];exact d1
   . rw [h] at hg;cases hg
     rw [show off+j=off+j / 3*3+2 by omega];exact d2
 . have hy:ys=[]:=vam (by omega)
   subst hy
   cases a with
   | some ad=>exact Ci ad (fun j u h=>by simp [zdl] at h)
   | none=>
     refine ⟨v,w,?_,by rw [vdb];exact Ag,⟨rfl,rfl,rfl,vaa _,fun _ _ _=>rfl⟩,Or.inl rfl⟩
     rcases Ag.2 with ⟨rfl,_⟩ | ⟨g,cp,AC,rfl,_,hg,hn,_⟩
     . simp [Builtin.append_,run_underlying Tryz.underlying59,sizeOf,typeInfo,hi,Builtin.lenOf,Builtin.firstCells]
     . simp [Builtin.append_,run_underlying Tryz.underlying59,sizeOf,typeInfo,hi,Builtin.lenOf,Builtin.firstCells,loadCells,storeCells,hn]
set_option maxHeartbeats 12800000
def zzm (l:List Ob) (o:Ob) (f:Gf):Int:=fixV f.kind (aAt o f.at_) ((l.length:Int)+1+cdL (l.take (modO l o f.m))) (dtL (l.take (modO l o f.m))) (entsO l (modO l o f.m))
def fxL (l:List Ob) (o:Ob):Nat->List Gi
 | 0=>o.code
 | j+1=>match o.fixes[j]? with
   | some f=>(fxL l o j).modify f.at_.toNat (zzr (zzm l o f))
   | none=>fxL l o j
theorem zb7 (l:List Ob) (o:Ob):∀ j,(fxL l o j).length=o.code.length
 | 0=>rfl
 | j+1=>by
   rw [fxL];split
   . rw [List.length_modify];exact zb7 l o j
   . exact zb7 l o j
theorem znd (l:List Ob) (o:Ob) {j:Nat} (h:j<o.fixes.length):fxL l o (j+1)=(fxL l o j).modify o.fixes[j].at_.toNat (zzr (zzm l o o.fixes[j])):=by
 rw [fxL,vac h]
theorem zqz (o:Ob) {j:Nat} (h:j<o.fixes.length):lastAt o (j+1)=o.fixes[j].at_:=by rw [lastAt,vac h]
theorem zjp {o:Ob} (h:oChk o=0) {j:Nat} (hj:j<o.fixes.length):lastAt o j<o.fixes[j].at_:=by
 obtain ⟨_,_,_,hf⟩:=zhx h;have:=zak.1 hf j hj;unfold zf3 at this;rw [vac hj] at this;simp only [vab] at this;exact of_decide_eq_true this.1
theorem zne (l:List Ob) {o:Ob} (h:oChk o=0):∀ (j:Nat) (p:Nat),j<=o.fixes.length->lastAt o j<p->(fxL l o j)[p]? = o.code[p]?
 | 0,p,_,_=>rfl
 | j+1,p,hj,hp=>by
   have A0:j<o.fixes.length:=by omega
   have h1:=zjp h A0;rw [zqz o A0] at hp;have h0:=(zfo h A0).at0
   have Aj:o.fixes[j].at_.toNat≠p:=by omega
   rw [znd l o A0,vdl];simp only [if_neg Aj,id_map'];exact zne l h j p (by omega) (by omega)
theorem zfp {w:World} {B B':Nat} {e:TypeId} {sz:Nat} {v:Value} {n:Nat} {xs:List Value} (h:w.ownsRow B e sz v n xs) (hB:B'<=B):w.ownsRow B' e sz v n xs:=by
 refine ⟨h.1,?_⟩
 rcases h.2 with h1 | ⟨g,cap,AC,hv,hb,hg,hr⟩
 . exact Or.inl h1
 . exact Or.inr ⟨g,cap,AC,hv,by omega,hg,hr⟩
theorem zd1 {w:World} {B:Nat} {e:TypeId} {sz:Nat} {v:Value} {n:Nat} {xs:List Value} (h:w.ownsRow B e sz v n xs) (hn:0<n):∃ g cap,v = .slice (some (qa g 0)) n cap/\B<=g/\g<w.heap.size:=by
 rcases h.2 with ⟨h1,h2⟩ | ⟨g,cap,AC,hv,hb,hg,_⟩
 . omega
 . exact ⟨g,cap,hv,hb,lt_of_heap hg⟩
theorem zwh {w:World} {B g n cap:Nat} {c:List Gi} (h:w.ownsRow B 69 3 (.slice (some (qa g 0)) n cap) n (zdl c)) (p:Nat) (hp:p<c.length) (hn:c.length=n) :
 w.cell? ⟨g,p*3+1,none⟩=some (qi c[p].a)/\w.frozen? ⟨g,p*3+1,none⟩=false/\g<w.heap.size/\∀ x,(w.setCell ⟨g,p*3+1,none⟩ (qi x)).ownsRow B 69 3 (.slice (some (qa g 0)) n cap) n (zdl (c.modify p (zzr x))):=by
 have hc:=h.cells (g:=g) rfl _ _ (zt8 c p hp);rw [zjn,vax] at hc;have hg:g<w.heap.size:=(h.lt g rfl).2;refine ⟨hc,?_,hg,fun x=>?_⟩
 . rcases h.2 with ⟨h1,_⟩ | ⟨g',cap',AC,hv,_,hg,_⟩
   . cases h1
   . cases hv;exact veq hg _
 . have Ab:=ownsRow_set h (p*3+1) (qi x) (by omega)
   rw [← zol c p x hp] at Ab;exact Ab
theorem zsy {l:List Ob} (hC:zih l=true) {i:Nat} (hi:i<l.length) {j:Nat} (hj:j<l[i].fixes.length):zgp l l[i] l[i].fixes[j]=true:=by
 have h1:=zak.1 hC i hi;unfold zdn at h1;rw [vac hi] at h1;have h2:=zak.1 h1 j hj;unfold zcr at h2;rw [vac hj] at h2;exact h2
theorem zl3 {o:Ob} (h:oChk o=0):∀ x ∈ o.entries,0<=x/\x<=2048:=by
 obtain ⟨hm,_,hc,_⟩:=zhx h;unfold zfn at hm;simp only [vas] at hm;have hl:=of_decide_eq_false hm.2.2.2;unfold zcp at hc;simp only [vab] at hc;intro x hx;obtain ⟨i,hi,rfl⟩:=vay hx;have:=zak.1 hc.2.1 i hi;unfold zk6 at this;rw [vac hi] at this;have:=of_decide_eq_true this;omega
theorem zq0 (l:List Ob) (ev:Nat->Value) (a:OA) (pb:Nat) (w:World) (hO:OsAt w a l ev) (hN:z5h l) (hP:zi8 w pb l ev l.length) (hR:∀ o ∈ l,oChk o=0) (hF:zz0 l) (hC:zih l=true) (i:Nat) (hi:i<l.length)
 (x1:OA) (y1:Nat) (x3:OA) (y3:Nat) (x4:OA) (y4:Nat) (x5:OA) (y5:Nat) (ho:OvAt w l[i] x1 x3 x4 x5) :
 qc 104 #[.map (some pb),obV l[i] x1 y1 x3 y3 x4 y4 x5 y5] w fun e w'=>∃ v,e = .returned v/\w'.ownsRow w.heap.size 69 3 v l[i].code.length (zdl (fxL l l[i] l[i].fixes.length))/\qb w w':=by
 have Mj:=ho.fixes.bound;have Ju:=ho.code.bound;have DZ:=hN.2 l[i] (vag hi);have F6:=hR l[i] (vag hi);have HN:=hid hN;have HO:=hid hO;have HP:=hid hP;have CC:=hid ho;have MW:=hid hR;have Ea:=hid (fun (q:Nat) (hq:q<l[i].fixes.length)=>zfo F6 hq);have MZ:=hid (fun (q:Nat) (hq:q<l[i].fixes.length)=>zjp F6 hq);have Ll:=hid (fun (q p:Nat) (h1:q<=l[i].fixes.length) (h2:lastAt l[i] q<p)=>zne l F6 q p h1 h2);have Ep:=hid (fun (m:Int) (h0:0<=m) (h1:m<=l[i].uses.length)=>zja hF hi h0 h1);have Eq:=hid (fun (j:Nat) (hj:j<l[i].fixes.length)=>zsy hC hi hj);have Fz:=DZ.1;have Fy:=DZ.2.1;clear hO hN hP hR hF hC ho DZ F6;generalize l[i]=o at *
 obtain ⟨W,hW⟩:∃ W,W=w.alloc (kzD o.name x1 o.uses.length y1 o.data x3 o.code.length y3 x4 o.fixes.length y4 x5 o.entries.length y5 o.main):=⟨_,rfl⟩
 have E3:qb w W:=by rw [hW];exact al1 _ _
 have KG:W.heap[w.heap.size]? = some (kzD o.name x1 o.uses.length y1 o.data x3 o.code.length y3 x4 o.fixes.length y4 x5 o.entries.length y5 o.main):=by rw [hW];exact heap_newP _ _
 have LH:W.heap.size=w.heap.size+1:=by rw [hW];simp
 have HW:=hid hW;have L0:=hid E3;have OO:=hid KG
 obtain ⟨v1,w1,DV,Ag,Ij, -⟩:=zes W W.heap.size 59 (qs) [] (ver _ _ _ _) x3 y3 o.code (fun hn=>by
  obtain ⟨cb,co,rfl,_⟩:=(CC.out.later E3).code.gi 0 (by omega);refine ⟨cb,co,rfl,fun j hj=>?_⟩;obtain ⟨Rl,co',e,hl,i0,i1,i2,_⟩:=(CC.out.later E3).code.gi j hj
  cases e
  exact ⟨i0,i1,i2⟩) (by simp;omega) (vaa _)
 rw [veg,vco,vax] at Ag;obtain ⟨g,cc,rfl,hgB,G1⟩:=zd1 Ag (by omega);have AV:=hid DV;have DM:=hid Ag
 have A5:Below (w.heap.size+1) W w1:=by rw [← LH];exact (Below.refl _ _).grown Ij (vaa _) (fun k hk=>by simp [Value.ownBlock] at hk)
 have A8:=hid A5;have Ao:=A5.size;obtain ⟨d0,d1,d2,d3,d4,d5,d6,_⟩:=zaj KG;have SY:=lt_of_heap KG;clear DV Ag Ij hW E3 KG;go_enter Tryz.func104,Tryz.ntmps104;go_upto_region 1 with fail;rw [← HW.out];clear HW
 go_wp2_with (at_builtin;refine Lib.wpList_append_run _ rfl _ _ _ _ rfl _ _ rfl rfl _ w1 AV.out ?_;clear d0 d1 d2 d3 d4 d5 d6;have d4:=(zaj ((A8.out.block _ (Nat.lt_succ_self _)).trans OO.out)).2.2.2.2.1)
 clear d4
 go_loopw [7,14] (fun _ i wr=>∃ j:Nat,j<=o.fixes.length/\i=qi j/\wr.ownsRow (w.heap.size+1) 69 3 (.slice (some (qa g 0)) o.code.length cc) o.code.length (zdl (fxL l o j))/\Below (w.heap.size+1) W wr) (fun _ i _=>o.fixes.length - (intOf i).toNat)
 case atStart=>exact ⟨0,vae _,rfl,by rw [← LH];exact DM.out,A8.out⟩
 case round=>
  obtain ⟨j,hj,rfl,Ab,hb⟩:=hrel;have Dl:=hid Ab;have HB:=hid hb;have E0:qb w wr:=L0.out.trans (hb.mono (by omega));have Bp:=hid E0;have CJ:=(hb.block _ (Nat.lt_succ_self _)).trans OO.out;have M9:=(Ab.lt g rfl).2;have Ma:=(Ab.lt g rfl).1;clear Ab
  by_cases A0:j<o.fixes.length
  . obtain ⟨fb,fo,rfl,hfx⟩:=((CC.out.later E0).fixes).gf j A0
    obtain ⟨G6,fr2,fr3,fr4,fr5,fr6,fr7⟩:=Ea.out j A0;obtain ⟨Dx,Bi⟩:=Ep.out o.fixes[j].m fr6 fr7;obtain ⟨Eg,g0,g1,g2, -, -, -⟩:=hfx;have Gg:=hid (zwg (o:=o) fr6 fr7);have F8:=hid (znd l o A0);have I0:=hid (Eq.out j A0);have J0:=CC.out.uses.bound;have Fi:=MZ.out j A0;generalize o.fixes[j]=f at *
    obtain ⟨p,hp⟩:∃ p:Nat,f.at_=p:=⟨f.at_.toNat,by omega⟩
    have CG:p<o.code.length:=by omega
    have J3:p<(fxL l o j).length:=by rw [zb7];exact CG
    have Cs:=Ll.out j p (by omega) (by omega)
    have Fd:Hid (aAt o f.at_=(fxL l o j)[p].a):=by
     have:(fxL l o j)[p]=o.code[p]:=by
      rw [vac J3,vac CG] at Cs;exact vai Cs
     show aAt o f.at_=_;rw [this,hp];exact zsx CG
    have LK:(p:Int)<o.code.length:=by omega
    rw [Fd.out] at fr4 fr5;rw [hp] at g0
    obtain ⟨X,hX⟩:∃ X,X=wr.alloc (.cells #[qi p,qi f.kind,qi f.m] 67):=⟨_,rfl⟩
    have Bu:qb wr X:=by rw [hX];exact al1 _ _
    have HX:=hid hX
    have IU:X.heap.size=wr.heap.size+1:=by rw [hX];simp
    have BH:X.heap[wr.heap.size]? = some (.cells #[qi p,qi f.kind,qi f.m] 67):=by rw [hX];exact heap_newP _ _
    have AW:=(Bu.block _ (lt_of_heap CJ)).trans CJ;have EA:=lt_of_heap AW;have EF:=lt_of_heap BH;have OP:=hid Bu
    have D9:=hid (fun (W:World) (hW:W.heap[w.heap.size]? = X.heap[w.heap.size]?/\W.heap[wr.heap.size]? = X.heap[wr.heap.size]?)=>(by
     obtain ⟨e0,e1,e2,e3,e4,e5,e6,_⟩:=zaj (hW.1.trans AW);obtain ⟨q0,q1,q2⟩:=zjl (hW.2.trans BH)
     exact ⟨e0,e1,e2,e3,e4,e5,e6,q0,q1,q2⟩:W.cell? (qa w.heap.size 0)=some (.string o.name)/\W.cell? (qa w.heap.size 1)=some (.slice x1 o.uses.length y1)/\W.cell? (qa w.heap.size 2)=some (qi o.data)/\W.cell? (qa w.heap.size 3)=some (.slice x3 o.code.length y3)/\W.cell? (qa w.heap.size 4)=some (.slice (some (qa fb fo)) o.fixes.length y4)/\W.cell? (qa w.heap.size 5)=some (.slice x5 o.entries.length y5)/\W.cell? (qa w.heap.size 6)=some (qi o.main)/\W.cell? (qa wr.heap.size 0)=some (qi p)/\W.cell? (qa wr.heap.size 1)=some (qi f.kind)/\W.cell? (qa wr.heap.size 2)=some (qi f.m)))
    have HS:=hid (fun W (hW:qb X W)=>D9.out W ⟨hW.block _ EA,hW.block _ EF⟩);have CF:=hid (E0.trans (Bu.mono E0.size));obtain ⟨_,_,_,_,_,_,_,_,xk,yk, -, -, -, -, -, -, -, -, -,C0, -,hek⟩:=HO.out.get (modO l o f.m) Bi;rw [← ze2 Bi] at hek;have HM:=hid (fun W (hW:qb X W)=>zig l ev pb W (HP.out.later (thenB CF.out hW)) o x1 y1 x3 y3 (some (qa fb fo)) y4 x5 y5 (CC.out.later (thenB CF.out hW)) f.m _ Gg.out _ Dx xk _ yk hek);have D7:=C0.entries.bound;have Bo:=zek HN.out (modO l o f.m) (by omega);have Fs:=HN.out.1;have FW:=MW.out _ (vag Bi)
    have ID:Hid (∀ x ∈ entsO l (modO l o f.m),0<=x/\x<=2048):=by
     rw [ze2 Bi];exact zl3 FW
    have Bv:Hid (f.kind=2->(fxL l o j)[p].a<(entsO l (modO l o f.m)).length):=fun k2=>by
     have h1:zgp l o f=true:=I0.out;unfold zgp at h1;rw [Fd.out] at h1;simp [k2] at h1;exact h1
    have HF:=hid (fun W (hW:qb X W)=>zwf (modO l o f.m) ((l.length:Int)+1+cdL (l.take (modO l o f.m))) (dtL (l.take (modO l o f.m))) f.kind (fxL l o j)[p].a (entsO l (modO l o f.m)) xk yk W (by rw [ze2 Bi];exact C0.entries.later (thenB CF.out hW)) (by omega) (by omega) ⟨fr4,fr5⟩ Bv.out ID.out)
    have Pu:Hid (zzm l o f=fixV f.kind (fxL l o j)[p].a ((l.length:Int)+1+cdL (l.take (modO l o f.m))) (dtL (l.take (modO l o f.m))) (entsO l (modO l o f.m))):=by show zzm l o f=_;unfold zzm;rw [Fd.out]
    have El:=hid (ownsRow_later Dl.out Bu);have IJ:=hid (fun W (hW:qb X W)=>zwh (ownsRow_later El.out hW) p J3 (zb7 l o j));have Mm:=hek;clear Mm C0 hek Dx Bu hX AW CJ BH hb E0 FW Cs Fi G6 fr2 fr6 fr7;generalize fixV f.kind (fxL l o j)[p].a ((l.length:Int)+1+cdL (l.take (modO l o f.m))) (dtL (l.take (modO l o f.m))) (entsO l (modO l o f.m))=fv at *;generalize (fxL l o j)[p].a=A at *;generalize entsO l (modO l o f.m)=es at *;generalize SS:modO l o f.m=mo at *;go_upto_region 5 with fail;rw [← HX.out];refine wp_region_held_drew (S:=(fun W=>W.cell? (qa w.heap.size 0)=some (.string o.name)/\W.cell? (qa w.heap.size 1)=some (.slice x1 o.uses.length y1)/\W.cell? (qa w.heap.size 2)=some (qi o.data)/\W.cell? (qa w.heap.size 3)=some (.slice x3 o.code.length y3)/\W.cell? (qa w.heap.size 4)=some (.slice (some (qa fb fo)) o.fixes.length y4)/\W.cell? (qa w.heap.size 5)=some (.slice x5 o.entries.length y5)/\W.cell? (qa w.heap.size 6)=some (qi o.main)/\W.cell? (qa wr.heap.size 0)=some (qi p)/\W.cell? (qa wr.heap.size 1)=some (qi f.kind)/\W.cell? (qa wr.heap.size 2)=some (qi f.m))) (by kernel_rfl) (HS.out _ (zi9 X)) (fun A4=>?_)
    refine tkl 0 (.slice (some (qa g 0)) o.code.length cc) rfl (by kernel_rfl) (fun _ _ _ h=>h) (fun W hW=>by kernel_rfl) A4 ?_;refine tkl 1 (pq wr.heap.size 0) rfl (by kernel_rfl) (fun _ _ _ h=>h) (fun W hW=>by kernel_rfl) A4 ?_;refine tkl 2 (qi p) rfl (by kernel_rfl) (fun _ _ _ h=>h) (fun W hW=>by obtain ⟨s0,s1,s2,s3,s4,s5,s6,s7,s8,s9⟩:=hW;go_simp) A4 ?_;refine tkl 3 (.map (some pb)) rfl (by kernel_rfl) (fun _ _ _ h=>h) (fun W hW=>by kernel_rfl) A4 ?_;refine tkl 4 (.agg #[.string o.name,.slice x1 o.uses.length y1,qi o.data,.slice x3 o.code.length y3,.slice (some (qa fb fo)) o.fixes.length y4,.slice x5 o.entries.length y5,qi o.main]) rfl (by kernel_rfl) (fun _ _ _ h=>h) (fun W hW=>by obtain ⟨s0,s1,s2,s3,s4,s5,s6,s7,s8,s9⟩:=hW;go_simp) A4 ?_;refine tkl 5 (pq wr.heap.size 2) rfl (by kernel_rfl) (fun _ _ _ h=>h) (fun W hW=>by kernel_rfl) A4 ?_
    refine tkl 6 (qi f.m) rfl (by kernel_rfl) (fun _ _ _ h=>h) (fun W hW=>by obtain ⟨s0,s1,s2,s3,s4,s5,s6,s7,s8,s9⟩:=hW;go_simp) A4 ?_;refine tkl 8 (pq wr.heap.size 1) rfl (by kernel_rfl) (fun _ _ _ h=>h) (fun W hW=>by kernel_rfl) A4 ?_;refine tkl 9 (qi f.kind) rfl (by kernel_rfl) (fun _ _ _ h=>h) (fun W hW=>by obtain ⟨s0,s1,s2,s3,s4,s5,s6,s7,s8,s9⟩:=hW;go_simp) A4 ?_;refine tkl 10 (.slice (some (qa g 0)) o.code.length cc) rfl (by kernel_rfl) (fun _ _ _ h=>h) (fun W hW=>by kernel_rfl) A4 ?_;refine tkl 11 (pq wr.heap.size 0) rfl (by kernel_rfl) (fun _ _ _ h=>h) (fun W hW=>by kernel_rfl) A4 ?_;refine tkl 12 (qi p) rfl (by kernel_rfl) (fun _ _ _ h=>h) (fun W hW=>by obtain ⟨s0,s1,s2,s3,s4,s5,s6,s7,s8,s9⟩:=hW;go_simp) A4 ?_;refine tkl 13 (.pointer (some ⟨g,p*3,none⟩)) rfl (by kernel_rfl) (fun _ _ _ h=>h) (fun W hW=>by go_simp) A4 ?_
    refine tkl 14 (.pointer (some ⟨g,p*3+1,none⟩)) rfl (by kernel_rfl) (fun _ _ _ h=>h) (fun W hW=>by kernel_rfl) A4 ?_;have Bn:=(IJ.out _ (zi9 X)).1
    (try simp only [Act.put,vad,van,vao])
    refine wpAnyH_ready (rs:=[7,15]) (by kernel_rfl) (by simp) ?_;refine AllReadyH.cons rfl ?_ (AllReadyH.cons rfl ?_ AllReadyH.nil)
    . intro Kq hK
      clear Bn;go_simp
      go_wp2_with (go_at_call 146;refine (HM.out _ (zi9 X)).mono ?_;rintro e w7 ⟨rfl,AO⟩)
      have Bw:=hid (thenB (zi9 X) AO);refine hK.out _ _ (HS.out _ Bw.out) (fun A4=>?_);clear hK Kq AO
      (try simp only [Act.put,vad,van,vao])
      have Bn:=(IJ.out _ Bw.out).1;refine wpAnyH_ready (rs:=[15]) (by kernel_rfl) (by simp) ?_;refine AllReadyH.cons rfl ?_ AllReadyH.nil;intro Kq hK;go_simp;refine hK.out _ _ (HS.out _ Bw.out) (fun A4=>?_);clear hK Kq Bn
      (try simp only [Act.put,vad,van,vao])
      refine wpAnyH_ready (rs:=[16]) (by kernel_rfl) (by simp) ?_;refine AllReadyH.cons rfl ?_ AllReadyH.nil;intro Kq hK;go_simp
      go_wp2_with (go_at_call 147;refine (HF.out _ Bw.out).mono ?_;rintro e w8 ⟨rfl,AR⟩)
      have B6:=hid (thenB Bw.out AR);refine hK.out _ _ (HS.out _ B6.out) (fun A4=>?_);clear hK Kq AR
      (try simp only [Act.put,vad,van,vao])
      refine tkl 17 (.pointer (some ⟨g,p*3,none⟩)) rfl (by kernel_rfl) (fun _ _ _ h=>h) (fun W hW=>by go_simp) A4 ?_;refine tkl 18 (.pointer (some ⟨g,p*3+1,none⟩)) rfl (by kernel_rfl) (fun _ _ _ h=>h) (fun W hW=>by kernel_rfl) A4 ?_;have hq:=IJ.out _ B6.out;have Dc:=hq.1;have Db:=hq.2.1;have DW:=hq.2.2.1;clear hq;refine wpAnyH_ready (rs:=[19]) (by kernel_rfl) (by simp) ?_;refine AllReadyH.cons rfl ?_ AllReadyH.nil;intro Kq hK;go_simp;refine hK.out _ _ (D9.out _ ⟨(heap_set_ne (p:=⟨g,p*3+1,none⟩) (by show w.heap.size≠g;omega) _).trans (B6.out.block _ EA),(heap_set_ne (p:=⟨g,p*3+1,none⟩) (by show wr.heap.size≠g;omega) _).trans (B6.out.block _ EF)⟩) (fun A4=>?_);clear hK Kq Dc Db DW;refine wpAnyH_done (by kernel_rfl) ?_ _;clear A4;go_simp;have Gs:=B6.out.size;clear HM HF HS D9;go_wp2_with fail;go_roundw
      case rel=>exact ⟨j+1,by omega,by go_num,by rw [F8.out,Pu.out,hp];exact (IJ.out _ B6.out).2.2.2 fv,(HB.out.trans ((OP.out.trans (B6.out.mono (by omega))).mono (by omega))).setCell (p:=⟨g,p*3+1,none⟩) (by show w.heap.size+1<=g;omega) _⟩
      case measure=>simp [intOf];omega
    . intro Kq hK
      go_simp;refine hK.out _ _ (HS.out _ (zi9 X)) (fun A4=>?_);clear hK Kq Bn
      (try simp only [Act.put,vad,van,vao])
      refine wpAnyH_ready (rs:=[7]) (by kernel_rfl) (by simp) ?_;refine AllReadyH.cons rfl ?_ AllReadyH.nil;intro Kq hK;go_simp
      go_wp2_with (go_at_call 146;refine (HM.out _ (zi9 X)).mono ?_;rintro e w7 ⟨rfl,AO⟩)
      have Bw:=hid (thenB (zi9 X) AO);refine hK.out _ _ (HS.out _ Bw.out) (fun A4=>?_);clear hK Kq AO
      (try simp only [Act.put,vad,van,vao])
      refine wpAnyH_ready (rs:=[16]) (by kernel_rfl) (by simp) ?_;refine AllReadyH.cons rfl ?_ AllReadyH.nil;intro Kq hK;go_simp
      go_wp2_with (go_at_call 147;refine (HF.out _ Bw.out).mono ?_;rintro e w8 ⟨rfl,AR⟩)
      have B6:=hid (thenB Bw.out AR);refine hK.out _ _ (HS.out _ B6.out) (fun A4=>?_);clear hK Kq AR
      (try simp only [Act.put,vad,van,vao])
      refine tkl 17 (.pointer (some ⟨g,p*3,none⟩)) rfl (by kernel_rfl) (fun _ _ _ h=>h) (fun W hW=>by go_simp) A4 ?_;refine tkl 18 (.pointer (some ⟨g,p*3+1,none⟩)) rfl (by kernel_rfl) (fun _ _ _ h=>h) (fun W hW=>by kernel_rfl) A4 ?_;have hq:=IJ.out _ B6.out;have Dc:=hq.1;have Db:=hq.2.1;have DW:=hq.2.2.1;clear hq;refine wpAnyH_ready (rs:=[19]) (by kernel_rfl) (by simp) ?_;refine AllReadyH.cons rfl ?_ AllReadyH.nil;intro Kq hK;go_simp;refine hK.out _ _ (D9.out _ ⟨(heap_set_ne (p:=⟨g,p*3+1,none⟩) (by show w.heap.size≠g;omega) _).trans (B6.out.block _ EA),(heap_set_ne (p:=⟨g,p*3+1,none⟩) (by show wr.heap.size≠g;omega) _).trans (B6.out.block _ EF)⟩) (fun A4=>?_);clear hK Kq Dc Db DW;refine wpAnyH_done (by kernel_rfl) ?_ _;clear A4;go_simp;have Gs:=B6.out.size;clear HM HF HS D9;go_wp2_with fail;go_roundw
      case rel=>exact ⟨j+1,by omega,by go_num,by rw [F8.out,Pu.out,hp];exact (IJ.out _ B6.out).2.2.2 fv,(HB.out.trans ((OP.out.trans (B6.out.mono (by omega))).mono (by omega))).setCell (p:=⟨g,p*3+1,none⟩) (by show w.heap.size+1<=g;omega) _⟩
      case measure=>simp [intOf];omega
  . obtain rfl:j=o.fixes.length:=by omega
    have hz:=hb.size;clear CJ E0;go_wp2_with fail;go_ret;exact ⟨_,rfl,zfp Dl.out (by omega),L0.out.trans (HB.out.mono (by omega))⟩
set_option maxHeartbeats 6400000
def zgk:List Ob->Int
 | []=>0
 | o :: r=>if oChk o≠0 then oChk o else zgk r
theorem zgq:∀ l:List Ob,(∀ i (h:i<l.length),oChk l[i]=0)->zgk l=0
 | [],_=>rfl
 | o :: r,h=>by
   have h0:oChk o=0:=h 0 (by simp);unfold zgk;rw [if_neg (by rw [h0];exact fun e=>e rfl)];exact zgq r (fun i hi=>h (i+1) (by simpa using hi))
theorem zjq:∀ (l:List Ob) (j:Nat) (hj:j<l.length),(∀ i (h:i<j),oChk l[i]=0)->oChk l[j]≠0->zgk l=oChk l[j]
 | o :: r,0,_,_,hn=>by
   unfold zgk;rw [if_pos (show oChk o≠0 from hn)]
   rfl
 | o :: r,j+1,hj,h,hn=>by
   have h0:oChk o=0:=h 0 (by omega);unfold zgk;rw [if_neg (by rw [h0];exact fun e=>e rfl)];exact zjq r j (by simpa using hj) (fun i hi=>h (i+1) (by omega)) hn
theorem zl4:∀ {l:List Ob},zgk l=0->∀ o ∈ l,oChk o=0
 | o :: r,h,x,hx=>by
   unfold zgk at h
   by_cases h0:oChk o=0
   . rw [if_neg (by rw [h0];exact fun e=>e rfl)] at h
     rcases vby.1 hx with rfl | hx
     . exact h0
     . exact zl4 h x hx
   . rw [if_pos h0] at h
     exact absurd h h0
def lnChk (l:List Ob):Int:=if l.length<1\/4<l.length then 2 else if zgk l≠0 then zgk l else if ¬ (nmO l).Nodup then 6 else if zgj l=false then 9 else if zih l=false then 5 else 0
theorem zq1 {o:Ob} (h:oChk o=0):1<=o.code.length/\o.code.length<=2048/\0<=o.data/\o.data<=512:=by
 obtain ⟨hm,_,hc,_⟩:=zhx h;unfold zfn at hm;simp only [vas] at hm;have h1:=of_decide_eq_false hm.2.2.1;have h2:=of_decide_eq_false hm.2.2.2;unfold zcp zos at hc;simp only [vab] at hc;have h3:=of_decide_eq_true hc.2.2.2;omega
theorem zwi {o:Ob} (h:oChk o=0):0<=o.main/\o.main<o.code.length:=by
 obtain ⟨hm,_,hc,_⟩:=zhx h;unfold zcp zos at hc;simp only [vab] at hc;exact of_decide_eq_true hc.2.2.1
theorem zq2 {l:List Ob} (h4:l.length<=4) (h:∀ o ∈ l,oChk o=0):z5h l:=⟨h4,fun o ho=>zq1 (h o ho)⟩
theorem zjb {l:List Ob} (hn:(nmO l).Nodup) (ha:zgj l=true):zz0 l:=fun i hi m h0 h1=>by
 unfold zlc
 by_cases hm:m=0
 . rw [if_pos hm,zf4 hn hi];rfl
 . rw [if_neg hm]
   have h2:=zak.1 ha i hi;unfold zeb at h2;rw [vac hi] at h2
   have hk:(m - 1).toNat<l[i].uses.length:=by omega
   have h3:=var.1 h2 l[i].uses[(m - 1).toNat] (vag hk);rw [vav,vac hk];show (lkO l (l[i].uses[(m - 1).toNat]).data.toList l.length).isSome=true;unfold zea at h3
   cases e:lkO l (l[i].uses[(m - 1).toNat]).data.toList l.length with
   | none=>rw [e] at h3;cases h3
   | some k=>rfl
theorem zgr (l:List Ob) (ev:Nat->Value) (a:OA) (cap:Nat) (w:World) (hO:OsAt w a l ev) :
 qc 43 #[.slice a l.length cap] w fun e w'=>e = .returned (qi (lnChk l))/\qb w w':=by
 have Bt:=hO.bound;have HO:=hid hO;clear hO
 obtain ⟨r,hr⟩:∃ r,r=lnChk l:=⟨_,rfl⟩
 rw [← hr];unfold lnChk at hr;have HR:=hid hr;clear hr;go_enter Tryz.func43,Tryz.ntmps43
 by_cases h1:l.length<1
 . have HV:Hid (r=2):=HR.out.trans (if_pos (Or.inl h1))
   have MJ:(l.length:Int)<1:=by omega
   have MH:¬ (4<(l.length:Int)):=by omega
   go_wp2_with fail;go_ret;exact ⟨by rw [HV.out];rfl,Below.refl _ _⟩
 by_cases h4:4<l.length
 . have HV:Hid (r=2):=HR.out.trans (if_pos (Or.inr h4))
   have MJ:¬ ((l.length:Int)<1):=by omega
   have MH:(4:Int)<(l.length:Int):=by omega
   go_wp2_with fail;go_ret;exact ⟨by rw [HV.out];rfl,Below.refl _ _⟩
 have Am:=hid (HR.out.trans (if_neg (by omega)))
 have MJ:¬ ((l.length:Int)<1):=by omega
 have MH:¬ (4<(l.length:Int)):=by omega
 go_wp2_with fail;clear MJ MH
 go_loopw [4,5,17] (fun _ _ i wr=>∃ j:Nat,j<=l.length/\i=qi j/\(∀ k (h:k<l.length),k<j->oChk l[k]=0)/\qb w wr) (fun _ _ i _=>l.length - (intOf i).toNat)
 case atStart=>exact ⟨0,vae _,rfl,fun k _ h=>absurd h (vbe _),Below.refl _ _⟩
 case round=>
  obtain ⟨j,hj,rfl,A6,hb⟩:=hrel;have HA:=hid A6;have HB:=hid hb;clear A6
  by_cases A0:j<l.length
  . obtain ⟨b,off,x1,y1,x3,y3,x4,y4,x5,y5,rfl,B9,c0,c1,c2,c3,c4,c5,c6,ho,DE, -⟩:=(HO.out.later hb).get j A0
    have HC:=hid (zoy l[j] x1 y1 x3 y3 x4 y4 x5 y5 (wr.alloc (kzD l[j].name x1 l[j].uses.length y1 l[j].data x3 l[j].code.length y3 x4 l[j].fixes.length y4 x5 l[j].entries.length y5 l[j].main)) (ho.later (al1 _ _)) DE);clear ho DE hb;go_wp2_with fail;refine HC.out.mono ?_;rintro e w2 ⟨rfl,Aa⟩;have Ad:=hid (thenB HB.out (thenB (al1 wr _) Aa));clear Aa HC c0 c1 c2 c3 c4 c5 c6
    by_cases hz:oChk l[j]=0
    . have Kw:Hid (∀ k (h:k<l.length),k<j+1->oChk l[k]=0):=fun k h hk=>by
       by_cases he:k=j
       . subst he;exact hz
       . exact HA.out k h (by omega)
      go_wp2_with fail;go_roundw
      case rel=>exact ⟨j+1,by omega,by go_num,Kw.out,Ad.out⟩
      case measure=>simp [intOf];omega
    . have HV:Hid (r=oChk l[j]):=by
       have he:=zjq l j A0 (fun k hk=>HA.out k (by omega) hk) hz;show r=_;rw [Am.out,if_pos (by rw [he];exact hz),he]
      generalize oChk l[j]=z at *;go_wp2_with fail;go_ret;exact ⟨by rw [HV.out];rfl,Ad.out⟩
  . obtain rfl:j=l.length:=by omega
    have A6:∀ o ∈ l,oChk o=0:=fun o ho=>by
     obtain ⟨i,hi,rfl⟩:=vay ho;exact HA.out i hi hi
    have HE:=hid A6;have HN:=hid (zq2 (by omega) A6);have Av:=hid (Am.out.trans (if_neg (by rw [zgq l (fun i h=>HA.out i h h)];exact fun e=>e rfl)));have FJ:=hid (zif l ev a cap wr (HO.out.later hb) HN.out);clear A6 Am HA hb;go_wp2_with fail;refine FJ.out.mono ?_;rintro e w2 ⟨pb,rfl,hP,Aa⟩;have Ad:=hid (thenB HB.out Aa);have HP:=hid hP;obtain ⟨m,hm,Dy,Ih⟩:=hP.len;have Fb:=hid (zqv l ev a cap pb w2 (HO.out.later Ad.out) (by omega) hP);have Ep:=hid (fun (hn:(nmO l).Nodup) (ha:zgj l=true) W (hW:qb w2 W)=>zqx l ev a cap pb W (HO.out.later (thenB Ad.out hW)) (by omega) (HP.out.later hW) HE.out (zjb hn ha));clear hP Aa FJ
    by_cases hn:(nmO l).Nodup
    . obtain rfl:=Dy hn
      have LP:¬ ((l.length:Int)<(l.length:Int)):=by omega
      have AP:=hid (Av.out.trans (if_neg (fun h=>h hn)));have Ix:=hid hn;clear Dy Ih hn Av;go_wp2_with fail;refine Fb.out.mono ?_;rintro e w3 ⟨rfl,A9⟩;have Af:=hid A9;clear A9 Fb hm
      cases ha:zgj l with
      | false=>
        have HV:Hid (r=9):=AP.out.trans (if_pos ha);clear ha;go_wp2_with fail;go_ret;exact ⟨by rw [HV.out];rfl,thenB Ad.out Af.out⟩
      | true=>
        have Bl:=hid (AP.out.trans (if_neg (by rw [ha];decide)));have HC:=hid (Ep.out Ix.out ha w3 Af.out);clear ha;go_wp2_with fail;refine HC.out.mono ?_;rintro e w4 ⟨rfl,Ah⟩;have An:=hid (thenB Af.out Ah);clear Ah HC
        cases hc:zih l with
        | false=>
          have HV:Hid (r=5):=Bl.out.trans (if_pos hc);clear hc;go_wp2_with fail;go_ret;exact ⟨by rw [HV.out];rfl,thenB Ad.out An.out⟩
        | true=>
          have HV:Hid (r=0):=Bl.out.trans (if_neg (by rw [hc];decide));clear hc;go_wp2_with fail;go_ret;exact ⟨by rw [HV.out];rfl,thenB Ad.out An.out⟩
    . have KH:=Ih hn
      have LP:(m:Int)<(l.length:Int):=by omega
      have HV:Hid (r=6):=Av.out.trans (if_pos hn);clear Dy Ih hn Av Fb Ep;go_wp2_with fail;go_ret;exact ⟨by rw [HV.out];rfl,Ad.out⟩
set_option maxHeartbeats 12800000
def codeL (l:List Ob) (j:Nat):List Gi:=(zd0 l l.length++[⟨20,0,0⟩])++(l.take j).flatMap (fun o=>fxL l o o.fixes.length)
theorem zhy (l:List Ob) {j:Nat} (h:j<l.length):codeL l (j+1)=codeL l j++fxL l l[j] l[j].fixes.length:=by
 unfold codeL;rw [vaf h,vdq];simp
theorem zg1 (l:List Ob):∀ j,j<=l.length->((codeL l j).length:Int)=l.length+1+cdL (l.take j)
 | 0,_=>by simp [codeL,zeq,cdL]
 | j+1,h=>by
   have ih:=zg1 l j (by omega);rw [zhy l (by omega:j<l.length),vak,zb7,zi6 (by omega:j<l.length)];omega
def zq3 (l:List Ob):Except Int (List Gi × Int):=if lnChk l≠0 then .error (lnChk l) else if 2048<(codeL l l.length).length\/512<dtL l then .error 2 else .ok (codeL l l.length,dtL l)
def znf (lo:Nat) (r:Except Int (List Gi × Int)) (e:Ending) (w:World):Prop:=
 match r with
 | .error c=>e = .returned (.tuple #[.agg #[.slice none 0 0,.int .i64 0],.int .i64 c])/\c≠0
 | .ok (c,d)=>∃ v,e = .returned (.tuple #[.agg #[v,.int .i64 d],.int .i64 0])/\w.ownsRow lo 69 3 v c.length (zdl c)
theorem zsz {l:List Ob} (h:lnChk l=0):1<=l.length/\l.length<=4/\(∀ o ∈ l,oChk o=0)/\(nmO l).Nodup/\zgj l=true/\zih l=true:=by
 unfold lnChk at h
 split at h
 . cases h
 . rename_i h1
   split at h
   . rename_i h2;exact absurd h h2
   . rename_i h2
     split at h
     . cases h
     . rename_i h3
       split at h
       . cases h
       . rename_i h4
         split at h
         . cases h
         . rename_i h5
           exact ⟨by omega,by omega,zl4 (by simpa using h2),by simpa using h3,by simpa using h4,by simpa using h5⟩
theorem zbp {w:World} {b:Nat} {x0 x1:Value} {t:TypeId} (h:w.heap[b]? = some (.cells #[x0,x1] t (0,0))):w.cell? (qa b 0)=some x0/\w.cell? (qa b 1)=some x1/\∀ i,w.frozen? (qa b i)=false:=by
 refine ⟨?_,?_,fun i=>veq h i⟩<;>(rw [vep h];rfl)
theorem zfq {w:World} {B:Nat} {a:OA} {cap:Nat} {c:List Gi} (h:w.ownsRow B 69 3 (.slice a c.length cap) c.length (zdl c)) (hn:c.length≠0):∃ b off,a=some (qa b off)/\∀ j (hj:j<c.length),w.cell? ⟨b,off+j*3,none⟩=some (qi c[j].op)/\w.cell? ⟨b,off+j*3+1,none⟩=some (qi c[j].a)/\w.cell? ⟨b,off+j*3+2,none⟩=some (qi c[j].b):=by
 obtain ⟨g,cap',e,_,_⟩:=zd1 h (by omega)
 injection e with e1 _ _
 subst e1;refine ⟨g,0,rfl,fun j hj=>?_⟩
 have hc:∀ k,k<3->∀ u,(giV c[j])[k]? = some u->w.cell? ⟨g,j*3+k,none⟩=some u:=fun k hk u hu=>by
  have:=h.cells (g:=g) rfl (j*3+k) u ((zjo giV 3 (fun _=>rfl) c j hj k hk).trans hu);rwa [zjn,vax] at this
 rw [vax];exact ⟨hc 0 (by omega) _ rfl,hc 1 (by omega) _ rfl,hc 2 (by omega) _ rfl⟩
theorem zng (l:List Ob) (ev:Nat->Value) (a:OA) (cap:Nat) (w:World) (hO:OsAt w a l ev) :
 qc 40 #[.slice a l.length cap] w fun e w'=>znf w.heap.size (zq3 l) e w'/\qb w w':=by
 have Bt:=hO.bound;have HO:=hid hO;have HC:=hid (zgr l ev a cap (w.alloc (.cells #[qs,qi 0] 81)) (hO.later (al1 _ _)));clear hO
 obtain ⟨r,hr⟩:∃ r,r=zq3 l:=⟨_,rfl⟩
 rw [← hr];unfold zq3 at hr;have HR:=hid hr;clear hr;go_enter Tryz.func40,Tryz.ntmps40;go_wp2_with fail;refine HC.out.mono ?_;rintro e w1 ⟨rfl,A5⟩;have A8:=hid (thenB (al1 w _) A5);have P0:=hid ((A5.block w.heap.size (by simp)).trans (heap_newP w (.cells #[qs,qi 0] 81)));have Ao:=A5.size;simp at Ao;obtain ⟨r0,r1,rf⟩:=zbp P0.out;have CY:=lt_of_heap P0.out;clear A5 HC
 by_cases he:lnChk l=0
 rotate_left
 . have HV:Hid (r = .error (lnChk l)):=HR.out.trans (if_pos he)
   generalize lnChk l=z at *;have FL:=hid he;go_wp2_with fail;refine bodyPost_ret (v:=.tuple #[.agg #[qs,qi 0],qi z]) (by simp [results,Tryz.results40,go_sem,r0,r1,CY]) rfl ⟨by rw [HV.out];exact ⟨rfl,FL.out⟩,?_⟩;exact (A8.out.setCell (p:=(qa w.heap.size 0)) (vaa _) _).setCell (p:=(qa w.heap.size 1)) (vaa _) _
 obtain ⟨k1,k2,k3,k4,k5,k6⟩:=zsz he;have Am:=hid (HR.out.trans (if_neg (fun h=>h he)));have HE:=hid k3;have HN:=hid (zq2 k2 k3);have Ix:=hid k4;have Kl:=hid (zjb k4 k5);have Eq:=hid k6
 have IA:Hid (MainsB l):=⟨fun o ho=>by have:=zwi (k3 o ho);have:=zq1 (k3 o ho);omega,k4⟩
 have FJ:=hid (zif l ev a cap w1 (HO.out.later A8.out) HN.out);rw [he];clear HR k3 k4 k5 k6 he;go_wp2_with fail;refine FJ.out.mono ?_;rintro e w2 ⟨pb,rfl,hP,Aa⟩;have Ad:=hid (thenB A8.out Aa);have HP:=hid hP;have AA:=Aa.size;have P1:=hid ((Aa.block _ CY).trans P0.out);have Iz:=hid (zqy l ev a cap pb w2 (HO.out.later Ad.out) HN.out hP IA.out);clear hP Aa FJ r0 r1 rf;go_wp2_with fail;refine Iz.out.mono ?_;rintro e w3 ⟨v3,rfl,ho3,A9⟩;obtain ⟨a3,c3,rfl, -, -⟩:=zag ho3;have EN:=hid ho3;have BO:=A9.size
 have CR:=fun k hk=>(ho3.lt k hk).2
 obtain ⟨M,hM⟩:∃ M,M=w3.heap.size:=⟨_,rfl⟩
 obtain ⟨W,hW⟩:∃ W,W=w3.alloc (.cells #[.slice a3 (l.length+1) c3,qi 0] 81):=⟨_,rfl⟩
 have E3:qb w3 W:=by rw [hW];exact al1 _ _
 have L0:=hid E3;have HW:=hid hW
 have RS:Hid (W.heap[M]? = some (.cells #[.slice a3 (l.length+1) c3,qi 0] 81)):=by rw [hM,hW];exact heap_newP _ _
 have So:=hid (A9.trans (E3.mono BO))
 have Ng:Hid (∀ k,(Value.slice a3 (l.length+1) c3).ownBlock=some k->k≠M):=fun k hk e=>by have:=CR k hk;omega
 have LH:W.heap.size=M+1:=by rw [hW,hM];simp
 have Tp:w2.heap.size<=M:=by omega
 have KT:w.heap.size<M:=by omega
 have BN:=hid hM;clear ho3 A9 Iz hW E3 CR;go_upto_region 6 with fail;rw [← HW.out,← hM];clear HW hM;go_wp2_with fail
 go_loopw [8,23] (fun _ i wr=>∃ (j:Nat) (vc:Value),j<=l.length/\i=qi j/\wr.heap[M]? = some (.cells #[vc,qi (dtL (l.take j))] 81 (0,0))/\wr.ownsRow w2.heap.size 69 3 vc (codeL l j).length (zdl (codeL l j))/\vc.ownBlock≠some M/\qb w2 wr) (fun _ i _=>l.length - (intOf i).toNat)
 case atStart=>
  refine ⟨0,_,vae _,rfl,RS.out,?_,fun h=>Ng.out _ h rfl,So.out⟩
  have e1:codeL l 0=zd0 l l.length++[⟨20,0,0⟩]:=by simp [codeL]
  have e2:(codeL l 0).length=l.length+1:=by rw [e1];simp [zeq]
  rw [e2,e1];exact ownsRow_later EN.out L0.out
 case round=>
  obtain ⟨j,vc,hj,rfl,hm,Ab,hvm,hb⟩:=hrel;have He:=hid hvm;have HB:=hid hb;have RR:=hid hm;have Dl:=hid Ab;have QT:=lt_of_heap hm;have E0:=thenB Ad.out hb;have Bo:=zek HN.out j hj;have F2:=zg1 l j hj;have Jy:=hid ((hb.block _ (vah (lt_of_heap P1.out) (vaa _))).trans P1.out);obtain ⟨ac,cc,hvc, -, -⟩:=zag Ab;clear hvm Ab
  by_cases A0:j<l.length
  . obtain ⟨b,off,x1,y1,x3,y3,x4,y4,x5,y5,rfl,B9,c0,c1,c2,c3',c4,c5,c6,ho, -, -⟩:=(HO.out.later E0).get j A0
    clear hvc;have CL:=A0;have DZ:=HN.out.2 l[j] (vag A0);have Fz:=DZ.1;have Fy:=DZ.2.1;have GP:=DZ.2.2.1;have GO:=DZ.2.2.2;have Mn:=zi7 A0
    obtain ⟨o,EY⟩:∃ o,o=l[j]:=⟨_,rfl⟩
    have F8:=hid (zhy l A0)
    obtain ⟨X,hX⟩:∃ X,X=wr.alloc (kzD o.name x1 o.uses.length y1 o.data x3 o.code.length y3 x4 o.fixes.length y4 x5 o.entries.length y5 o.main):=⟨_,rfl⟩
    have Bu:qb wr X:=by rw [hX];exact al1 _ _
    have HX:=hid hX
    have IU:X.heap.size=wr.heap.size+1:=by rw [hX];simp
    have AW:X.heap[wr.heap.size]? = some (kzD o.name x1 o.uses.length y1 o.data x3 o.code.length y3 x4 o.fixes.length y4 x5 o.entries.length y5 o.main):=by rw [hX];exact heap_newP _ _
    have D9:=hid (fun (W':World) (hW:W'.heap[wr.heap.size]? = some (kzD o.name x1 o.uses.length y1 o.data x3 o.code.length y3 x4 o.fixes.length y4 x5 o.entries.length y5 o.main))=>(by
     obtain ⟨e0,e1,e2,e3,e4,e5,e6,_⟩:=zaj hW
     exact ⟨e0,e1,e2,e3,e4,e5,e6⟩:W'.cell? (qa wr.heap.size 0)=some (.string o.name)/\W'.cell? (qa wr.heap.size 1)=some (.slice x1 o.uses.length y1)/\W'.cell? (qa wr.heap.size 2)=some (qi o.data)/\W'.cell? (qa wr.heap.size 3)=some (.slice x3 o.code.length y3)/\W'.cell? (qa wr.heap.size 4)=some (.slice x4 o.fixes.length y4)/\W'.cell? (qa wr.heap.size 5)=some (.slice x5 o.entries.length y5)/\W'.cell? (qa wr.heap.size 6)=some (qi o.main)))
    have HS:=hid (fun W' (hW:qb X W')=>D9.out W' ((hW.block _ (lt_of_heap AW)).trans AW));have CF:=hid (hb.trans (Bu.mono hb.size));have Gj:=hid ((Bu.block _ QT).trans hm);have P9:=hid (fun W' (hW:qb X W')=>zbp ((hW.block _ (lt_of_heap Gj.out)).trans Gj.out));have El:=hid (fun W' (hW:qb X W')=>ownsRow_later (ownsRow_later Dl.out Bu) hW)
    have Is:Hid (vc.ownBlock≠some wr.heap.size):=fun h=>by have:=(Dl.out.lt _ h).2;omega
    have G7:Hid (∀ {v5:Value} {n:Nat},(v5.ownBlock=vc.ownBlock\/v5.ownBlock=some n)->n≠M->v5.ownBlock≠some M):=fun h hn e=>h.elim (fun h=>He.out (h.symm.trans e)) (fun h=>hn (vai (h.symm.trans e)))
    have Ea:=hid (fun W' (hW:qb X W')=>zq0 l ev (some (qa b off)) pb W' (HO.out.later (thenB (thenB Ad.out (hb.trans (Bu.mono hb.size))) hW)) HN.out (HP.out.later (thenB (hb.trans (Bu.mono hb.size)) hW)) HE.out Kl.out Eq.out j A0 x1 y1 x3 y3 x4 y4 x5 y5 ((ho.later Bu).later hW));rw [← EY] at Ea Fz Fy GP GO Mn F8 c0 c1 c2 c3' c4 c5 c6;clear ho hm DZ;clear EY Bu hX hb E0;go_upto_region 9 with fail;rw [← HX.out];refine wp_region_held_drew (S:=(fun W'=>W'.cell? (qa wr.heap.size 0)=some (.string o.name)/\W'.cell? (qa wr.heap.size 1)=some (.slice x1 o.uses.length y1)/\W'.cell? (qa wr.heap.size 2)=some (qi o.data)/\W'.cell? (qa wr.heap.size 3)=some (.slice x3 o.code.length y3)/\W'.cell? (qa wr.heap.size 4)=some (.slice x4 o.fixes.length y4)/\W'.cell? (qa wr.heap.size 5)=some (.slice x5 o.entries.length y5)/\W'.cell? (qa wr.heap.size 6)=some (qi o.main))) (by kernel_rfl) (HS.out _ (zi9 X)) (fun A4=>?_)
    refine tkl 0 (pq M 0) rfl (by kernel_rfl) (fun _ _ _ h=>h) (fun W hW=>by kernel_rfl) A4 ?_;refine tkl 2 (.map (some pb)) rfl (by kernel_rfl) (fun _ _ _ h=>h) (fun W hW=>by kernel_rfl) A4 ?_;refine tkl 3 (.agg #[.string o.name,.slice x1 o.uses.length y1,qi o.data,.slice x3 o.code.length y3,.slice x4 o.fixes.length y4,.slice x5 o.entries.length y5,qi o.main]) rfl (by kernel_rfl) (fun _ _ _ h=>h) (fun W hW=>by obtain ⟨s0,s1,s2,s3,s4,s5,s6⟩:=hW;go_simp) A4 ?_;have FY:=(P9.out _ (zi9 X)).1
    (try simp only [Act.put,vad,van,vao])
    refine wpAnyH_ready (rs:=[1,4]) (by kernel_rfl) (by simp) ?_;refine AllReadyH.cons rfl ?_ (AllReadyH.cons rfl ?_ AllReadyH.nil)
    . intro Kq hK
      go_simp;refine hK.out _ _ (HS.out _ (zi9 X)) (fun A4=>?_);clear hK Kq FY
      (try simp only [Act.put,vad,van,vao])
      refine wpAnyH_ready (rs:=[4]) (by kernel_rfl) (by simp) ?_;refine AllReadyH.cons rfl ?_ AllReadyH.nil;intro Kq hK;go_simp
      go_wp2_with (go_at_call 104;refine (Ea.out _ (zi9 X)).mono ?_;rintro e w4 ⟨v4,rfl,ho4,Ah⟩)
      have An:=hid (thenB (zi9 X) Ah);have E8:=hid ho4;refine hK.out _ _ (HS.out _ An.out) (fun A4=>?_);clear hK Kq Ah ho4
      (try simp only [Act.put,vad,van,vao])
      obtain ⟨JE,cc4,rfl, -, -⟩:=zag E8.out;obtain ⟨v5,w5,hr5,ho5,hg5,hat5⟩:=zes w4 w2.heap.size 59 vc (codeL l j) (El.out w4 An.out) JE cc4 (fxL l o o.fixes.length) (zfq (by rw [zb7];exact E8.out)) (by rw [zb7];omega) (by have:=An.out.size;omega);rw [zb7] at hr5;obtain ⟨EK,cc5,rfl, -, -⟩:=zag ho5;generalize GW:(codeL l j).length+(fxL l o o.fixes.length).length=n5 at *;have Nf:=hid GW;clear GW;have Bl:=hid hr5;have Br:=hid ho5;have S4:=hid hg5;have I4:=hid hat5;have Cc:=hg5.size;have Ax:=hid (fun (b:Nat) (x:Obj) (hb:X.heap[b]? = some x) (hn:vc.ownBlock≠some b)=>(hg5.block b (vah (lt_of_heap hb) An.out.size) (veo hn)).trans ((An.out.block b (lt_of_heap hb)).trans hb));have Ar:=hid ((CF.out.trans (An.out.mono (by omega))).grown hg5 (by have:=An.out.size;omega) (fun k hk=>((El.out w4 An.out).lt k hk).1))
      clear hr5 ho5 hg5 hat5;refine wpAnyH_ready (rs:=[5]) (by kernel_rfl) (by simp) ?_;refine AllReadyH.cons (o:=⟨some 32,_,_,_,_,_⟩) rfl ?_ AllReadyH.nil;intro Kq hK;refine step_append_run rfl (.tmp 28) (.tmp 31) 59 rfl vc (.slice JE o.code.length cc4) (.slice EK n5 cc5) (by kernel_rfl) (by kernel_rfl) Bl.out ?_;refine hK.out _ _ (D9.out _ (Ax.out _ _ AW Is.out)) (fun A4=>?_);clear hK Kq
      (try simp only [Act.put,vad,van,vao])
      refine tkl 6 (pq M 0) rfl (by kernel_rfl) (fun _ _ _ h=>h) (fun W hW=>by kernel_rfl) A4 ?_;have hq:=zbp (Ax.out _ _ Gj.out He.out);have Dc:=hq.1;have Db:=hq.2.1;have DW:=hq.2.2;have Ic:M<w5.heap.size:=lt_of_heap (Ax.out _ _ Gj.out He.out);clear hq;refine wpAnyH_ready (rs:=[7]) (by kernel_rfl) (by simp) ?_;refine AllReadyH.cons rfl ?_ AllReadyH.nil;intro Kq hK;go_simp;refine hK.out _ _ (D9.out _ ((heap_set_ne (p:=(qa M 0)) (by show wr.heap.size≠M;omega) _).trans (Ax.out _ _ AW Is.out))) (fun A4=>?_);clear hK Kq Dc Db DW;refine wpAnyH_done (by kernel_rfl) ?_ _;clear A4;go_simp;generalize DR:w5.setCell (qa M 0) (.slice EK n5 cc5)=w6 at *
      have CK:w6.heap[M]? = some (.cells #[.slice EK n5 cc5,qi (dtL (l.take j))] 81):=by rw [← DR];exact heap_set (Ax.out _ _ Gj.out He.out) _
      have I9:w6.heap.size=w5.heap.size:=by rw [← DR];exact vaq ..
      have J6:w6.heap[wr.heap.size]? = X.heap[wr.heap.size]?:=by rw [← DR];exact (heap_set_ne (p:=(qa M 0)) (by show wr.heap.size≠M;omega) _).trans ((Ax.out _ _ AW Is.out).trans AW.symm)
      have E7:Hid (w6.ownsRow w2.heap.size 69 3 (.slice EK n5 cc5) n5 (zdl (codeL l j++fxL l o o.fixes.length))):=by rw [← DR];exact zaf Br.out (fun k hk=>heap_set_ne (p:=(qa M 0)) (by show k≠M;intro e;exact G7.out I4.out (by have:=An.out.size;omega) (by rw [hk,e])) _)
      have Cb:Hid (qb w2 w6):=by rw [← DR];exact Ar.out.setCell (p:=(qa M 0)) (by show w2.heap.size<=M;omega) _
      have Nh:=hid CK;obtain ⟨m0,m1,mf⟩:=zbp CK;obtain ⟨e0,e1,e2,e3,e4,e5,e6,_⟩:=zaj (J6.trans AW);have Fp:=lt_of_heap CK;clear DR CK J6 e0 e1 e3 e4 e5 e6 AW Ic;go_wp2_with fail;go_roundw
      case rel=>exact ⟨j+1,_,by omega,by go_num,by rw [Mn];exact heap_set Nh.out _,by rw [F8.out,vak,Nf.out];exact zaf E7.out (fun k hk=>heap_set_ne (p:=(qa M 1)) (by show k≠M;intro e;exact G7.out I4.out (by have:=An.out.size;omega) (by rw [hk,e])) _),G7.out I4.out (by have:=An.out.size;omega),Cb.out.setCell (p:=(qa M 1)) (by show w2.heap.size<=M;omega) _⟩
      case measure=>simp [intOf];omega
    . intro Kq hK
      clear FY;go_simp
      go_wp2_with (go_at_call 104;refine (Ea.out _ (zi9 X)).mono ?_;rintro e w4 ⟨v4,rfl,ho4,Ah⟩)
      have An:=hid (thenB (zi9 X) Ah);have E8:=hid ho4;refine hK.out _ _ (HS.out _ An.out) (fun A4=>?_);clear hK Kq Ah ho4
      (try simp only [Act.put,vad,van,vao])
      have FY:=(P9.out _ An.out).1;refine wpAnyH_ready (rs:=[1]) (by kernel_rfl) (by simp) ?_;refine AllReadyH.cons rfl ?_ AllReadyH.nil;intro Kq hK;go_simp;refine hK.out _ _ (HS.out _ An.out) (fun A4=>?_);clear hK Kq FY
      (try simp only [Act.put,vad,van,vao])
      obtain ⟨JE,cc4,rfl, -, -⟩:=zag E8.out;obtain ⟨v5,w5,hr5,ho5,hg5,hat5⟩:=zes w4 w2.heap.size 59 vc (codeL l j) (El.out w4 An.out) JE cc4 (fxL l o o.fixes.length) (zfq (by rw [zb7];exact E8.out)) (by rw [zb7];omega) (by have:=An.out.size;omega);rw [zb7] at hr5;obtain ⟨EK,cc5,rfl, -, -⟩:=zag ho5;generalize GW:(codeL l j).length+(fxL l o o.fixes.length).length=n5 at *;have Nf:=hid GW;clear GW;have Bl:=hid hr5;have Br:=hid ho5;have S4:=hid hg5;have I4:=hid hat5;have Cc:=hg5.size;have Ax:=hid (fun (b:Nat) (x:Obj) (hb:X.heap[b]? = some x) (hn:vc.ownBlock≠some b)=>(hg5.block b (vah (lt_of_heap hb) An.out.size) (veo hn)).trans ((An.out.block b (lt_of_heap hb)).trans hb));have Ar:=hid ((CF.out.trans (An.out.mono (by omega))).grown hg5 (by have:=An.out.size;omega) (fun k hk=>((El.out w4 An.out).lt k hk).1))
      clear hr5 ho5 hg5 hat5;refine wpAnyH_ready (rs:=[5]) (by kernel_rfl) (by simp) ?_;refine AllReadyH.cons (o:=⟨some 32,_,_,_,_,_⟩) rfl ?_ AllReadyH.nil;intro Kq hK;refine step_append_run rfl (.tmp 28) (.tmp 31) 59 rfl vc (.slice JE o.code.length cc4) (.slice EK n5 cc5) (by kernel_rfl) (by kernel_rfl) Bl.out ?_;refine hK.out _ _ (D9.out _ (Ax.out _ _ AW Is.out)) (fun A4=>?_);clear hK Kq
      (try simp only [Act.put,vad,van,vao])
      refine tkl 6 (pq M 0) rfl (by kernel_rfl) (fun _ _ _ h=>h) (fun W hW=>by kernel_rfl) A4 ?_;have hq:=zbp (Ax.out _ _ Gj.out He.out);have Dc:=hq.1;have Db:=hq.2.1;have DW:=hq.2.2;have Ic:M<w5.heap.size:=lt_of_heap (Ax.out _ _ Gj.out He.out);clear hq;refine wpAnyH_ready (rs:=[7]) (by kernel_rfl) (by simp) ?_;refine AllReadyH.cons rfl ?_ AllReadyH.nil;intro Kq hK;go_simp;refine hK.out _ _ (D9.out _ ((heap_set_ne (p:=(qa M 0)) (by show wr.heap.size≠M;omega) _).trans (Ax.out _ _ AW Is.out))) (fun A4=>?_);clear hK Kq Dc Db DW;refine wpAnyH_done (by kernel_rfl) ?_ _;clear A4;go_simp;generalize DR:w5.setCell (qa M 0) (.slice EK n5 cc5)=w6 at *
      have CK:w6.heap[M]? = some (.cells #[.slice EK n5 cc5,qi (dtL (l.take j))] 81):=by rw [← DR];exact heap_set (Ax.out _ _ Gj.out He.out) _
      have I9:w6.heap.size=w5.heap.size:=by rw [← DR];exact vaq ..
      have J6:w6.heap[wr.heap.size]? = X.heap[wr.heap.size]?:=by rw [← DR];exact (heap_set_ne (p:=(qa M 0)) (by show wr.heap.size≠M;omega) _).trans ((Ax.out _ _ AW Is.out).trans AW.symm)
      have E7:Hid (w6.ownsRow w2.heap.size 69 3 (.slice EK n5 cc5) n5 (zdl (codeL l j++fxL l o o.fixes.length))):=by rw [← DR];exact zaf Br.out (fun k hk=>heap_set_ne (p:=(qa M 0)) (by show k≠M;intro e;exact G7.out I4.out (by have:=An.out.size;omega) (by rw [hk,e])) _)
      have Cb:Hid (qb w2 w6):=by rw [← DR];exact Ar.out.setCell (p:=(qa M 0)) (by show w2.heap.size<=M;omega) _
      have Nh:=hid CK;obtain ⟨m0,m1,mf⟩:=zbp CK;obtain ⟨e0,e1,e2,e3,e4,e5,e6,_⟩:=zaj (J6.trans AW);have Fp:=lt_of_heap CK;clear DR CK J6 e0 e1 e3 e4 e5 e6 AW Ic;go_wp2_with fail;go_roundw
      case rel=>exact ⟨j+1,_,by omega,by go_num,by rw [Mn];exact heap_set Nh.out _,by rw [F8.out,vak,Nf.out];exact zaf E7.out (fun k hk=>heap_set_ne (p:=(qa M 1)) (by show k≠M;intro e;exact G7.out I4.out (by have:=An.out.size;omega) (by rw [hk,e])) _),G7.out I4.out (by have:=An.out.size;omega),Cb.out.setCell (p:=(qa M 1)) (by show w2.heap.size<=M;omega) _⟩
      case measure=>simp [intOf];omega
  . obtain rfl:j=l.length:=by omega
    rw [vat] at hm RR;obtain ⟨m0,m1,mf⟩:=zbp hm;obtain ⟨r0,r1,rf⟩:=zbp Jy.out;have GF:=lt_of_heap Jy.out;subst hvc;have Jp:=(zek HN.out l.length (vaa _)).2.2;rw [vat] at Jp;have Fa:=hid E0;clear hm hb E0
    by_cases g1:2048<(codeL l l.length).length
    . have HV:Hid (r = .error 2):=Am.out.trans (if_pos (Or.inl g1))
      have KZ:(2048:Int)<((codeL l l.length).length:Int):=by omega
      generalize (codeL l l.length).length=nn at *;clear g1 F2;go_wp2_with fail;refine bodyPost_ret (v:=.tuple #[.agg #[qs,qi 0],qi 2]) (by simp [results,Tryz.results40,go_sem,r0,r1,GF]) rfl ⟨by rw [HV.out];exact ⟨rfl,by decide⟩,?_⟩;exact (Fa.out.setCell (p:=(qa w.heap.size 0)) (vaa _) _).setCell (p:=(qa w.heap.size 1)) (vaa _) _
    . have KZ:¬ ((2048:Int)<((codeL l l.length).length:Int)):=by omega
      by_cases g2:512<dtL l
      . have HV:Hid (r = .error 2):=Am.out.trans (if_pos (Or.inr g2))
        generalize (codeL l l.length).length=nn at *;generalize dtL l=dd at *;clear g1 F2;go_wp2_with fail;refine bodyPost_ret (v:=.tuple #[.agg #[qs,qi 0],qi 2]) (by simp [results,Tryz.results40,go_sem,r0,r1,GF]) rfl ⟨by rw [HV.out];exact ⟨rfl,by decide⟩,?_⟩;exact (Fa.out.setCell (p:=(qa w.heap.size 0)) (vaa _) _).setCell (p:=(qa w.heap.size 1)) (vaa _) _
      . have HV:Hid (r = .ok (codeL l l.length,dtL l)):=Am.out.trans (if_neg (by omega))
        have MU:=hid (zfp Dl.out (by omega:w.heap.size<=w2.heap.size))
        have NZ:∀ k,(Value.slice ac (codeL l l.length).length cc).ownBlock=some k->k≠w.heap.size:=fun k hk e=>by have:=(Dl.out.lt k hk).1;omega
        have JN:=hid NZ;clear NZ;generalize CX:(codeL l l.length).length=nn at *;generalize dtL l=dd at *;clear g1 F2;go_wp2_with fail;refine bodyPost_ret (v:=.tuple #[.agg #[.slice ac nn cc,qi dd],qi 0]) (by simp [results,Tryz.results40,go_sem,r0,r1,GF]) rfl ⟨?_,?_⟩
        . rw [HV.out]
          refine ⟨_,rfl,?_⟩;rw [CX];exact zaf (zaf MU.out (fun k hk=>heap_set_ne (p:=(qa w.heap.size 0)) (JN.out k hk) _)) (fun k hk=>heap_set_ne (p:=(qa w.heap.size 1)) (JN.out k hk) _)
        . exact (Fa.out.setCell (p:=(qa w.heap.size 0)) (vaa _) _).setCell (p:=(qa w.heap.size 1)) (vaa _) _
set_option maxHeartbeats 3200000
theorem bdJ (w:World) (m:Nat):qb w (w.drewN m):=by
 have h:qb w w:=Below.refl _ _;exact ⟨h.os,h.tape,h.output,h.size,h.block⟩
def nmJ (l:List Ob) (n:Nat) (s:ByteArray):Int:=match (l.take n).findIdx? (fun o=>decide (o.name=s)) with | some i=>(i:Int) | none=>-1
theorem zs0 {l:List Ob} {n j:Nat} {s:ByteArray} (hj:j<n) (hl:j<l.length) (he:l[j].name=s) (hb:∀ k (h:k<l.length),k<j->l[k].name≠s):nmJ l n s=j:=by
 have:(l.take n).findIdx? (fun o=>decide (o.name=s))=some j:=by
  rw [vbu];refine ⟨by rw [vbg];omega,by simpa using he,fun k hk=>?_⟩;rw [vdg];simpa using hb k (by omega) hk
 unfold nmJ;rw [this]
theorem znh {l:List Ob} {n:Nat} {s:ByteArray} (hb:∀ k (h:k<l.length),k<n->l[k].name≠s):nmJ l n s = -1:=by
 have:(l.take n).findIdx? (fun o=>decide (o.name=s))=none:=by
  rw [vcn];intro o ho;obtain ⟨k,hk,rfl⟩:=vay ho;rw [vbg] at hk;rw [vdg];simpa using hb k (by omega) (by omega)
 unfold nmJ;rw [this]
theorem zii (l:List Ob) (ev:Nat->Value) (a:OA) (n cap:Nat) (s:ByteArray) (w:World) (hO:OsAt w a l ev) (hn:n<=l.length) :
 qc 108 #[.slice a n cap,.string s] w fun e w'=>e = .returned (qi (nmJ l n s))/\∃ m,w'=w.drewN m:=by
 have Bt:=hO.bound;have HO:=hid hO;clear hO
 obtain ⟨r,hr⟩:∃ r,r=nmJ l n s:=⟨_,rfl⟩
 rw [← hr];have HR:=hid hr;clear hr;go_enter Tryz.func108,Tryz.ntmps108;go_wp2_with fail
 go_loopw [5] (fun i wr=>∃ j:Nat,j<=n/\i=qi j/\(∀ k (h:k<l.length),k<j->l[k].name≠s)/\wr=w) (fun i _=>n - (intOf i).toNat)
 case atStart=>exact ⟨0,vae _,rfl,fun k _ h=>absurd h (vbe _),rfl⟩
 case round=>
  obtain ⟨j,hj,rfl,A6,rfl⟩:=hrel;have HA:=hid A6;clear A6
  by_cases A0:j<n
  . have GH:j<l.length:=by omega
    obtain ⟨b,off,x1,y1,x3,y3,x4,y4,x5,y5,rfl,B9,c0, -⟩:=HO.out.get j GH
    cases hs:decide (l[j].name=s) with
    | true=>
      have Cf:(l[j].name.toList == s.toList)=true:=(zor _ _).trans hs;have HV:Hid (r=j):=HR.out.trans (zs0 A0 GH (of_decide_eq_true hs) HA.out);clear hs;go_wp2_with fail;go_ret;exact ⟨by rw [HV.out];rfl,0,rfl⟩
    | false=>
      have Cf:(l[j].name.toList == s.toList)=false:=(zor _ _).trans hs
      have Kw:Hid (∀ k (h:k<l.length),k<j+1->l[k].name≠s):=fun k h hk=>by
       by_cases he:k=j
       . subst he;exact of_decide_eq_false hs
       . exact HA.out k h (by omega)
      clear hs;go_wp2_with fail;go_roundw
      case rel=>exact ⟨j+1,by omega,by go_num,Kw.out,by first | rfl | trivial⟩
      case measure=>simp [intOf];omega
  . obtain rfl:j=n:=by omega
    have HV:Hid (r = -1):=HR.out.trans (znh HA.out);go_wp2_with fail;go_ret;exact ⟨by rw [HV.out];rfl,0,rfl⟩
theorem zo3 {l:List Ob} (hn:(nmO l).Nodup) {n:Nat} (hl:n<=l.length) (s:ByteArray):(match lkO l s.data.toList l.length with | some k=>decide (k<n) | none=>false)=decide (0<=nmJ l n s)/\∀ k,lkO l s.data.toList l.length=some k->k<n->nmJ l n s=k:=by
 have Aj:∀ i j (hi:i<l.length) (hj:j<l.length),l[i].name=l[j].name->i=j:=fun i j hi hj e=>by
  have h1:=zf4 hn hi;have h2:=zf4 hn hj;rw [e] at h1;exact vai (h1.symm.trans h2)
 cases e:lkO l s.data.toList l.length with
 | none=>
   have hb:∀ k (h:k<l.length),k<n->l[k].name≠s:=fun k h _ he=>by
    have:=zf4 hn h;rw [he,e] at this
    cases this
   rw [znh hb];exact ⟨by simp,fun k h=>by cases h⟩
 | some k=>
   obtain ⟨_,hk,Bf⟩:=zo2 _ _ _ (vaa _) e
   have Jl:l[k].name=s:=by
    apply vem
    exact Array.toList_inj.1 Bf
   by_cases Ft:k<n
   . have hv:nmJ l n s=k:=zs0 Ft hk Jl (fun j hj A0 he=>by have:=Aj j k hj hk (he.trans Jl.symm);omega)
     refine ⟨by rw [hv];simp [Ft],fun k' h' _=>?_⟩;rw [← vai h'];exact hv
   . have hb:∀ j (h:j<l.length),j<n->l[j].name≠s:=fun j h hj he=>by have:=Aj j k h hk (he.trans Jl.symm);omega
     rw [znh hb];refine ⟨by simp [Ft],fun k' h' A0=>?_⟩;rw [← vai h'] at A0;exact absurd A0 Ft
theorem z28 {l:List Ob} (hn:(nmO l).Nodup) (ha:zgj l=true) {i:Nat} (hi:i<l.length) {m:Nat} (hm:m<l[i].uses.length):(modO l l[i] ((m:Int)+1):Int)=nmJ l i l[i].uses[m]:=by
 have h2:=zak.1 ha i hi;unfold zeb at h2;rw [vac hi] at h2;have h3:=var.1 h2 l[i].uses[m] (vag hm)
 have Bq:zlc l[i] ((m:Int)+1)=l[i].uses[m]:=by
  unfold zlc;rw [if_neg (by omega),vav,show ((m:Int)+1 - 1).toNat=m by omega,vac hm]
  rfl
 unfold modO;rw [Bq];unfold zea at h3
 cases e:lkO l l[i].uses[m].data.toList l.length with
 | none=>rw [e] at h3;cases h3
 | some k=>
   rw [e] at h3;rw [(zo3 hn (by omega:i<=l.length) l[i].uses[m]).2 k e (of_decide_eq_true h3)]
   rfl
theorem zo4 {l:List Ob} (hn:(nmO l).Nodup) {i:Nat} (hi:i<l.length):modO l l[i] 0=i:=by
 unfold modO zlc;rw [if_pos rfl,zf4 hn hi]
 rfl
theorem zij (l:List Ob) (ev:Nat->Value) (a:OA) (cap:Nat) (w:World) (hO:OsAt w a l ev) (AG:l.length<=cap) (hn:(nmO l).Nodup) (ha:zgj l=true) (i:Nat) (hi:i<l.length) (m:Int) (FY:0<=m) (Dy:m<=l[i].uses.length) :
 qc 105 #[.slice a l.length cap,qi i,qi m] w fun e w'=>e = .returned (qi (modO l l[i] m))/\∃ k,w'=w.drewN k:=by
 have Bt:=hO.bound
 by_cases h0:m=0
 . subst h0
   rw [zo4 hn hi];go_enter Tryz.func105,Tryz.ntmps105;go_wp2_with fail;go_ret;exact ⟨rfl,0,rfl⟩
 . obtain ⟨k,rfl⟩:∃ k:Nat,m=(k:Int)+1:=⟨(m - 1).toNat,by omega⟩
   have hk:k<l[i].uses.length:=by omega
   rw [z28 hn ha hi hk];obtain ⟨b,off,x1,y1,x3,y3,x4,y4,x5,y5,rfl,B9,c0,c1, -, -, -, -, -,ho, -, -⟩:=hO.get i hi;obtain ⟨ub,uo,rfl,J0,huc, -⟩:=ho.uses.str k hk;have EV:=ho.uses.bound;have HC:=hid (fun q=>zii l ev (some (qa b off)) i cap l[i].uses[k] (w.drewN q) (hO.later (bdJ w q)) (by omega))
   have Cm:IntKind.i64.wrap ((k:Int)+1 - 1)=k:=by simp only [IntKind.wrap,IntKind.bits,IntKind.signed];simp;omega
   have Qc:¬ ((k:Int)+1=0):=by omega
   have Ta:(i:Int)<l.length:=by omega
   have M7:(i:Int)<=cap:=by omega
   have T7:(k:Int)<l[i].uses.length:=by omega
   clear hO ho hn ha h0 FY Dy;generalize l[i].uses[k]=u at *;generalize nmJ l i u=r at *;go_enter Tryz.func105,Tryz.ntmps105;go_wp2_with fail
   go_quiet ((go_at_call 108;exact Calls.quiet_of (HC.out _)))
   go_wp2_with fail;go_ret;exact ⟨rfl,_,rfl⟩
end Go.Proofs.YtndkhgakfodldaaGreatDoor
