import Derived.Test.YtndkhgakfodldaaGreatDoorLa
import Derived.Test.YtndkhgakfodldaaGreatDoorRb
namespace Go.Proofs.YtndkhgakfodldaaGreatDoor
set_option maxRecDepth 100000
set_option maxHeartbeats 6400000
open Go.RowKit Go.Maps Go.Sort Go.WideMaps
set_option linter.unusedSimpArgs false
set_option linter.unusedVariables false
def mnO (l:List Ob) (j:Nat):Gi:=match l[j]? with | some o=>⟨13,(l.length:Int)+1+cdL (l.take j)+o.main,0⟩ | none=>⟨0,0,0⟩
def zep (l:List Ob) (j:Nat):List Gi:=(List.range j).map (mnO l)
theorem zkd (l:List Ob) (j:Nat):zep l (j+1)=zep l j++[mnO l j]:=by unfold zep;rw [vdz,vbr];rfl
theorem zmq (l:List Ob) (j:Nat):(zep l j).length=j:=by simp [zep]
theorem z3w {l:List Ob} {j:Nat} (h:j<l.length):mnO l j=⟨13,(l.length:Int)+1+cdL (l.take j)+l[j].main,0⟩:=by unfold mnO;rw [vae h]
theorem zt8 {l:List Ob} (hn:(nmO l).Nodup) {j:Nat} (h:j<l.length):lkO l l[j].name.data.toList l.length=some j:=by
 have h1:=zrv (l:=l) l[j].name.data.toList l.length (vaa _);rw [vau] at h1
 have hm:(nmO l).contains l[j].name.data.toList=true:=by
  rw [vce];exact vch.2 ⟨l[j],vaj h,rfl⟩
 rw [hm] at h1;obtain ⟨i,hi⟩:=Option.isSome_iff_exists.1 h1;obtain ⟨_,A4,he⟩:=zt5 _ _ _ (vaa _) hi;rw [hi]
 have e1:(nmO l)[i]'(by rw [zn9];exact A4)=(nmO l)[j]'(by rw [zn9];exact h):=by simpa [nmO] using he
 rw [(List.getElem_inj hn).1 e1]
theorem z8s (a b c d:Value):∀ w:World,(Instr.field 227 (.agg #[a,b,c,d]) 1).run Tryz.prog w = .ok b w:=fun _=>by kernel_rfl
structure MainsB (l:List Ob):Prop where
 main:∀ o ∈ l,0<=o.main/\o.main<=4096
 once:(nmO l).Nodup
theorem zr0 (l:List Ob) (ev:Nat->Value) (a:OA) (cap pb:Nat) (w:World) (hO:OsAt w a l ev) (hN:z6n l) (hP:zjs w pb l ev l.length) (hM:MainsB l) :
 qc 103 #[.slice a l.length cap,.map (some pb)] w fun e w'=>∃ v,e = .returned v/\w'.ownsRow w.heap.size 69 3 v (l.length+1) (zen (zep l l.length++[⟨20,0,0⟩]))/\qb w w':=by
 have BH:=hO.bound;have h4:=hN.1;have HO:=hid hO;have HP:=hid hP;have HN:=hid hN;have L4:=hid hM;clear hO hP hN hM;go_enter Tryz.func103,Tryz.ntmps103;go_wp2_with fail
 go_loopw [5,7,10] (fun c _ i wr=>∃ j:Nat,j<=l.length/\i=qi j/\wr.ownsRow w.heap.size 69 3 c j (zen (zep l j))/\qb w wr) (fun _ _ i _=>l.length - (intOf i).toNat)
 case atStart=>exact ⟨0,vag _,rfl,vek _ _ _ _,Below.refl _ _⟩
 case round=>
  obtain ⟨j,hj,rfl,Aa,hb⟩:=hrel;obtain ⟨ca,cc,rfl, -, -⟩:=zal Aa;have Fy:=hid Aa;have HB:=hid hb;clear Aa
  by_cases A4:j<l.length
  . obtain ⟨b,off,x1,y1,x3,y3,x4,y4,x5,y5,rfl,C4,c0,c1,c2,c3,c4,c5,c6,ho, -, -⟩:=(HO.out.later hb).get j A4
    have Lu:=ho.wn
    obtain ⟨X,hX⟩:∃ X,X=wr.alloc (kzD l[j].name x1 l[j].uses.length y1 l[j].data x3 l[j].code.length y3 x4 l[j].fixes.length y4 x5 l[j].entries.length y5 l[j].main):=⟨_,rfl⟩
    have C8:qb wr X:=by rw [hX];exact al1 _ _
    have KJ:X.heap[wr.heap.size]? = some (kzD l[j].name x1 l[j].uses.length y1 l[j].data x3 l[j].code.length y3 x4 l[j].fixes.length y4 x5 l[j].entries.length y5 l[j].main):=by rw [hX];exact heap_newP _ _
    have Lq:X.heap.size=wr.heap.size+1:=by rw [hX];simp
    have HX:=hid hX;have C9:=hb.size;have Bk:=(HP.out.later (thenB hb C8)).look Lu;rw [zt8 L4.out.once A4] at Bk;simp only [Option.elim,pv] at Bk;have Gs:=hid (ownsRow_later Fy.out C8);have Fh:=hid (thenB hb C8);have L2:=hid (z3w A4)
    have Bv:=(zf0 HN.out j (by omega))
    obtain ⟨J6,EL⟩:=L4.out.main l[j] (vaj A4);have SG:=lt_of_heap KJ
    have Dp:∃ z0 z1 z2 z3 z4 z5,X.heap[wr.heap.size]? = some (.cells #[.string l[j].name,z1,z2,z3,z4,z5,qi l[j].main] 62)/\z0=0:=⟨0,_,_,_,_,_,KJ,rfl⟩
    generalize GX:ev j=ej at *;generalize B5:l[j].name=nm at *;generalize Sv:l[j].main=mn at *;generalize cdL (l.take j)=cd at *;generalize dtL (l.take j)=dt at *
    have CK:IntKind.i64.wrap ((l.length:Int)+1+cd+mn)=(l.length:Int)+1+cd+mn:=by simp only [IntKind.wrap,IntKind.bits,IntKind.signed];simp;omega
    have Iw:=z8s (qi j) (qi ((l.length:Int)+1+cd)) (qi dt) ej;clear C8 hX hb;go_upto_region 5 with fail;rw [← HX.out];obtain ⟨d0,d1,d2,d3,d4,d5,d6,_⟩:=zao KJ;clear KJ c0 c1 c2 c3 c4 c5 c6 ho Dp
    go_wp2_with (at_builtin;refine zj6 rfl (.tmp 14) (.tmp 24) 59 rfl w.heap.size 69 _ 3 24 Tryz.underlying59 Tryz.infoInstr rfl (by decide) X (.slice ca j cc) j (zen (zep l j)) rfl Gs.out #[qi 13,qi ((l.length:Int)+1+cd+mn),qi 0] _ Lq.symm rfl rfl (zrj ⟨13,_,0⟩) (by omega) (by decide) (by omega) _ rfl ?_;intro g cp w1 ho;have JW:=hid ho;have Sf:=ho.size;clear ho Bk Iw d0 d1 d2 d3 d4 d5 d6)
    go_wp2_with fail;go_roundw
    case rel=>exact ⟨j+1,by omega,by go_num,by rw [zkd,L2.out,zlu];exact JW.out.own,Fh.out.trans JW.out.below⟩
    case measure=>simp [intOf];omega
  . obtain rfl:j=l.length:=by omega
    have C9:=hb.size;clear hb
    go_wp2_with (at_builtin;refine zj6 rfl (.tmp 27) (.tmp 29) 59 rfl w.heap.size 69 _ 3 24 Tryz.underlying59 Tryz.infoInstr rfl (by decide) wr (.slice ca l.length cc) l.length (zen (zep l l.length)) rfl Fy.out #[qi 20,qi 0,qi 0] _ rfl rfl rfl (zrj ⟨20,0,0⟩) (by omega) (by decide) (by omega) _ rfl ?_;intro g cp w1 ho;have JW:=hid ho;clear ho)
    go_wp2_with fail;go_ret;exact ⟨_,rfl,by rw [zlu];exact JW.out.own,HB.out.trans JW.out.below⟩
theorem zoc (b off j:Nat):((qa b off):Addr).add j=⟨b,off+j,none⟩:=by unfold Addr.add;split<;>simp_all
theorem zke {α:Type} (f:α->List Value) (n:Nat) (hf:∀ x,(f x).length=n):∀ (l:List α) (i:Nat) (h:i<l.length) (j:Nat),j<n->(l.flatMap f)[i*n+j]? = (f l[i])[j]?
 | [],i,h,_,_=>by simp at h
 | x :: r,0,_,j,hj=>by
   have:=hf x;rw [vbf,vbi,vba,vbb (by omega)]
   rfl
 | x :: r,i+1,h,j,hj=>by
   have:=hf x;rw [vbf,vbd (by rw [Nat.add_mul];omega),vbn,← zke f n hf r i (by simpa using h) j hj]
   congr 1
   rw [Nat.add_mul];omega
theorem zij (w:World) (base:Nat) (ty:TypeId) (v:Value) (xs:List Gi) (Ag:w.ownsRow base 69 3 v xs.length (zen xs)) (a:OA) (cap:Nat) (ys:List Gi) (hD:ys.length≠0->∃ b off,a=some (qa b off)/\∀ j (h:j<ys.length),w.cell? ⟨b,off+j*3,none⟩=some (qi ys[j].op)/\w.cell? ⟨b,off+j*3+1,none⟩=some (qi ys[j].a)/\w.cell? ⟨b,off+j*3+2,none⟩=some (qi ys[j].b)) (hb:xs.length+ys.length<=4194304) (AO:base<=w.heap.size) :
 ∃ v' w',(Builtin.append_ #[59,59] ty #[v,.slice a ys.length cap]).run Tryz.prog w = .ok v' w'/\w'.ownsRow base 69 3 v' (xs.length+ys.length) (zen (xs++ys))/\w.grownBy w' v.ownBlock/\(v'.ownBlock=v.ownBlock\/v'.ownBlock=some w.heap.size):=by
 obtain ⟨i0,hi,Bq,An,AA⟩:=info_parts Tryz.infoInstr
 have Cy:∀ ad:Addr,(∀ j (u:Value),(zen ys)[j]? = some u->w.cell? (ad.add j)=some u)->∃ v' w',(Builtin.append_ #[59,59] ty #[v,.slice (some ad) ys.length cap]).run Tryz.prog w = .ok v' w'/\w'.ownsRow base 69 3 v' (xs.length+ys.length) (zen (xs++ys))/\w.grownBy w' v.ownBlock/\(v'.ownBlock=v.ownBlock\/v'.ownBlock=some w.heap.size):=by
  intro ad hc
  obtain ⟨v',w',hr,h2,h3,_,h5⟩:=run_append_own_at (P:=Tryz.prog) w base 59 ty 69 i0 _ 3 24 Tryz.underlying59 hi Bq An AA rfl (by omega) v xs.length _ Ag ad ys.length cap (zen ys) (zvl ys) hc
   (fun u hu=>by unfold zen at hu;obtain ⟨i,_,h⟩:=List.mem_flatMap.1 hu;exact zrj i u h) (by simp only [maxLen];omega) (by omega) AO
  refine ⟨v',w',hr,?_,h3,h5⟩
  have:zen (xs++ys)=zen xs++zen ys:=by simp [zen]
  rw [this];exact h2
 by_cases h0:ys.length≠0
 . obtain ⟨b,off,rfl,hc⟩:=hD h0
   refine Cy (qa b off) (fun j u hu=>?_)
   have hj:j<ys.length*3:=by rw [← zvl];exact (vcd.1 hu).1
   have h3:j=j / 3*3+j % 3:=by omega
   have Oh:j / 3<ys.length:=by omega
   obtain ⟨d0,d1,d2⟩:=hc (j / 3) Oh;rw [zoc];have hg:(zen ys)[j / 3*3+j % 3]? = (giV ys[j / 3])[j % 3]?:=zke giV 3 (fun _=>rfl) ys (j / 3) Oh (j % 3) (by omega);rw [← h3,hu] at hg
   have hm:j % 3=0\/j % 3=1\/j % 3=2:=by omega
   rcases hm with h | h | h
   . rw [h] at hg;cases hg
     rw [show off+j=off+j / 3*3 by omega];exact d0
   . rw [h] at hg;cases hg
     rw [show off+j=off+j / 3*3+1 by omega];exact d1
   . rw [h] at hg;cases hg
     rw [show off+j=off+j / 3*3+2 by omega];exact d2
 . have hy:ys=[]:=vak (by omega)
   subst hy
   cases a with
   | some ad=>exact Cy ad (fun j u h=>by simp [zen] at h)
   | none=>
     refine ⟨v,w,?_,by rw [vcl];exact Ag,⟨rfl,rfl,rfl,vaa _,fun _ _ _=>rfl⟩,Or.inl rfl⟩
     rcases Ag.2 with ⟨rfl,_⟩ | ⟨g,cp,AC,rfl,_,hg,hn,_⟩
     . simp [Builtin.append_,run_underlying Tryz.underlying59,sizeOf,typeInfo,hi,Builtin.lenOf,Builtin.firstCells]
     . simp [Builtin.append_,run_underlying Tryz.underlying59,sizeOf,typeInfo,hi,Builtin.lenOf,Builtin.firstCells,loadCells,storeCells,hn]
set_option maxHeartbeats 12800000
def z63 (l:List Ob) (o:Ob) (f:Gf):Int:=fixV f.kind (aAt o f.at_) ((l.length:Int)+1+cdL (l.take (modO l o f.m))) (dtL (l.take (modO l o f.m))) (entsO l (modO l o f.m))
def fxL (l:List Ob) (o:Ob):Nat->List Gi
 | 0=>o.code
 | j+1=>match o.fixes[j]? with
   | some f=>(fxL l o j).modify f.at_.toNat (zxd (z63 l o f))
   | none=>fxL l o j
theorem zei (l:List Ob) (o:Ob):∀ j,(fxL l o j).length=o.code.length
 | 0=>rfl
 | j+1=>by
   rw [fxL];split
   . rw [List.length_modify];exact zei l o j
   . exact zei l o j
theorem zt9 (l:List Ob) (o:Ob) {j:Nat} (h:j<o.fixes.length):fxL l o (j+1)=(fxL l o j).modify o.fixes[j].at_.toNat (zxd (z63 l o o.fixes[j])):=by
 rw [fxL,vae h]
theorem zr1 (o:Ob) {j:Nat} (h:j<o.fixes.length):lastAt o (j+1)=o.fixes[j].at_:=by rw [lastAt,vae h]
theorem zp1 {o:Ob} (h:oChk o=0) {j:Nat} (hj:j<o.fixes.length):lastAt o j<o.fixes[j].at_:=by
 obtain ⟨_,_,_,hf⟩:=zii h;have:=zba.1 hf j hj;unfold zom at this;rw [vae hj] at this;simp only [vac] at this;exact of_decide_eq_true this.1
theorem zua (l:List Ob) {o:Ob} (h:oChk o=0):∀ (j:Nat) (p:Nat),j<=o.fixes.length->lastAt o j<p->(fxL l o j)[p]? = o.code[p]?
 | 0,p,_,_=>rfl
 | j+1,p,hj,hp=>by
   have A4:j<o.fixes.length:=by omega
   have h1:=zp1 h A4;rw [zr1 o A4] at hp;have h0:=(zkc h A4).at0
   have Ak:o.fixes[j].at_.toNat≠p:=by omega
   rw [zt9 l o A4,vdg];simp only [if_neg Ak,id_map'];exact zua l h j p (by omega) (by omega)
theorem zi3 {w:World} {B B':Nat} {e:TypeId} {sz:Nat} {v:Value} {n:Nat} {xs:List Value} (h:w.ownsRow B e sz v n xs) (hB:B'<=B):w.ownsRow B' e sz v n xs:=by
 refine ⟨h.1,?_⟩
 rcases h.2 with h1 | ⟨g,cap,AC,hv,hb,hg,hr⟩
 . exact Or.inl h1
 . exact Or.inr ⟨g,cap,AC,hv,by omega,hg,hr⟩
theorem zkf {w:World} {B:Nat} {e:TypeId} {sz:Nat} {v:Value} {n:Nat} {xs:List Value} (h:w.ownsRow B e sz v n xs) (hn:0<n):∃ g cap,v = .slice (some (qa g 0)) n cap/\B<=g/\g<w.heap.size:=by
 rcases h.2 with ⟨h1,h2⟩ | ⟨g,cap,AC,hv,hb,hg,_⟩
 . omega
 . exact ⟨g,cap,hv,hb,lt_of_heap hg⟩
theorem z4n {w:World} {B g n cap:Nat} {c:List Gi} (h:w.ownsRow B 69 3 (.slice (some (qa g 0)) n cap) n (zen c)) (p:Nat) (hp:p<c.length) (hn:c.length=n) :
 w.cell? ⟨g,p*3+1,none⟩=some (qi c[p].a)/\w.frozen? ⟨g,p*3+1,none⟩=false/\g<w.heap.size/\∀ x,(w.setCell ⟨g,p*3+1,none⟩ (qi x)).ownsRow B 69 3 (.slice (some (qa g 0)) n cap) n (zen (c.modify p (zxd x))):=by
 have hc:=h.cells (g:=g) rfl _ _ (zvm c p hp);rw [zoc,vba] at hc;have hg:g<w.heap.size:=(h.lt g rfl).2;refine ⟨hc,?_,hg,fun x=>?_⟩
 . rcases h.2 with ⟨h1,_⟩ | ⟨g',cap',AC,hv,_,hg,_⟩
   . cases h1
   . cases hv;exact veg hg _
 . have Aa:=ownsRow_set h (p*3+1) (qi x) (by omega)
   rw [← zpo c p x hp] at Aa;exact Aa
theorem z1d {l:List Ob} (hC:zkb l=true) {i:Nat} (hi:i<l.length) {j:Nat} (hj:j<l[i].fixes.length):zob l l[i] l[i].fixes[j]=true:=by
 have h1:=zba.1 hC i hi;unfold zg2 at h1;rw [vae hi] at h1;have h2:=zba.1 h1 j hj;unfold zft at h2;rw [vae hj] at h2;exact h2
theorem zvs {o:Ob} (h:oChk o=0):∀ x ∈ o.entries,0<=x/\x<=2048:=by
 obtain ⟨hm,_,hc,_⟩:=zii h;unfold zhu at hm;simp only [vat] at hm;have hl:=of_decide_eq_false hm.2.2.2;unfold zfj at hc;simp only [vac] at hc;intro x hx;obtain ⟨i,hi,rfl⟩:=vbl hx;have:=zba.1 hc.2.1 i hi;unfold zsm at this;rw [vae hi] at this;have:=of_decide_eq_true this;omega
theorem zr2 (l:List Ob) (ev:Nat->Value) (a:OA) (pb:Nat) (w:World) (hO:OsAt w a l ev) (hN:z6n l) (hP:zjs w pb l ev l.length) (hR:∀ o ∈ l,oChk o=0) (hF:z1c l) (hC:zkb l=true) (i:Nat) (hi:i<l.length)
 (x1:OA) (y1:Nat) (x3:OA) (y3:Nat) (x4:OA) (y4:Nat) (x5:OA) (y5:Nat) (ho:OvAt w l[i] x1 x3 x4 x5) :
 qc 104 #[.map (some pb),obV l[i] x1 y1 x3 y3 x4 y4 x5 y5] w fun e w'=>∃ v,e = .returned v/\w'.ownsRow w.heap.size 69 3 v l[i].code.length (zen (fxL l l[i] l[i].fixes.length))/\qb w w':=by
 have QD:=ho.fixes.bound;have Jo:=ho.code.bound;have Dq:=hN.2 l[i] (vaj hi);have Gl:=hR l[i] (vaj hi);have HN:=hid hN;have HO:=hid hO;have HP:=hid hP;have F5:=hid ho;have MR:=hid hR;have Gy:=hid (fun (q:Nat) (hq:q<l[i].fixes.length)=>zkc Gl hq);have Rw:=hid (fun (q:Nat) (hq:q<l[i].fixes.length)=>zp1 Gl hq);have RK:=hid (fun (q p:Nat) (h1:q<=l[i].fixes.length) (h2:lastAt l[i] q<p)=>zua l Gl q p h1 h2);have I3:=hid (fun (m:Int) (h0:0<=m) (h1:m<=l[i].uses.length)=>zt7 hF hi h0 h1);have Ey:=hid (fun (j:Nat) (hj:j<l[i].fixes.length)=>z1d hC hi hj);have Hc:=Dq.1;have H9:=Dq.2.1;clear hO hN hP hR hF hC ho Dq Gl;generalize l[i]=o at *
 obtain ⟨W,hW⟩:∃ W,W=w.alloc (kzD o.name x1 o.uses.length y1 o.data x3 o.code.length y3 x4 o.fixes.length y4 x5 o.entries.length y5 o.main):=⟨_,rfl⟩
 have Et:qb w W:=by rw [hW];exact al1 _ _
 have Kz:W.heap[w.heap.size]? = some (kzD o.name x1 o.uses.length y1 o.data x3 o.code.length y3 x4 o.fixes.length y4 x5 o.entries.length y5 o.main):=by rw [hW];exact heap_newP _ _
 have Lr:W.heap.size=w.heap.size+1:=by rw [hW];simp
 have HW:=hid hW;have KT:=hid Et;have OO:=hid Kz
 obtain ⟨v1,w1,Fl,Ag,M3, -⟩:=zij W W.heap.size 59 (qs) [] (vek _ _ _ _) x3 y3 o.code (fun hn=>by
  obtain ⟨cb,co,rfl,_⟩:=(F5.out.later Et).code.gi 0 (by omega);refine ⟨cb,co,rfl,fun j hj=>?_⟩;obtain ⟨Tc,co',e,hl,i0,i1,i2,_⟩:=(F5.out.later Et).code.gi j hj
  cases e
  exact ⟨i0,i1,i2⟩) (by simp;omega) (vaa _)
 rw [List.nil_append,vcv,vba] at Ag;obtain ⟨g,cc,rfl,hgB,hgl⟩:=zkf Ag (by omega);have AZ:=hid Fl;have JV:=hid Ag
 have A6:Below (w.heap.size+1) W w1:=by rw [← Lr];exact (Below.refl _ _).grown M3 (vaa _) (fun k hk=>by simp [Value.ownBlock] at hk)
 have A7:=hid A6;have An:=A6.size;obtain ⟨d0,d1,d2,d3,d4,d5,d6,_⟩:=zao Kz;have Sz:=lt_of_heap Kz;clear Fl Ag M3 hW Et Kz;go_enter Tryz.func104,Tryz.ntmps104;go_upto_region 1 with fail;rw [← HW.out];clear HW
 go_wp2_with (at_builtin;refine Lib.wpList_append_run _ rfl _ _ _ _ rfl _ _ rfl rfl _ w1 AZ.out ?_;clear d0 d1 d2 d3 d4 d5 d6;have d4:=(zao ((A7.out.block _ (Nat.lt_succ_self _)).trans OO.out)).2.2.2.2.1)
 clear d4
 go_loopw [7,14] (fun _ i wr=>∃ j:Nat,j<=o.fixes.length/\i=qi j/\wr.ownsRow (w.heap.size+1) 69 3 (.slice (some (qa g 0)) o.code.length cc) o.code.length (zen (fxL l o j))/\Below (w.heap.size+1) W wr) (fun _ i _=>o.fixes.length - (intOf i).toNat)
 case atStart=>exact ⟨0,vag _,rfl,by rw [← Lr];exact JV.out,A7.out⟩
 case round=>
  obtain ⟨j,hj,rfl,Aa,hb⟩:=hrel;have Fy:=hid Aa;have HB:=hid hb;have E9:qb w wr:=KT.out.trans (hb.mono (by omega));have BT:=hid E9;have CM:=(hb.block _ (Nat.lt_succ_self _)).trans OO.out;have Qz:=(Aa.lt g rfl).2;have QA:=(Aa.lt g rfl).1;clear Aa
  by_cases A4:j<o.fixes.length
  . obtain ⟨fb,fo,rfl,hfx⟩:=((F5.out.later E9).fixes).gf j A4
    obtain ⟨KR,fr2,fr3,fr4,fr5,fr6,fr7⟩:=Gy.out j A4;obtain ⟨E6,hmlt⟩:=I3.out o.fixes[j].m fr6 fr7;obtain ⟨Fv,g0,g1,g2, -, -, -⟩:=hfx;have ID:=hid (zxp (o:=o) fr6 fr7);have Gr:=hid (zt9 l o A4);have L7:=hid (Ey.out j A4);have Lw:=F5.out.uses.bound;have GF:=Rw.out j A4;generalize o.fixes[j]=f at *
    obtain ⟨p,hp⟩:∃ p:Nat,f.at_=p:=⟨f.at_.toNat,by omega⟩
    have E5:p<o.code.length:=by omega
    have NZ:p<(fxL l o j).length:=by rw [zei];exact E5
    have EO:=RK.out j p (by omega) (by omega)
    have Id:Hid (aAt o f.at_=(fxL l o j)[p].a):=by
     have:(fxL l o j)[p]=o.code[p]:=by
      rw [vae NZ,vae E5] at EO;exact vab EO
     show aAt o f.at_=_;rw [this,hp];exact z3v E5
    have Qb:(p:Int)<o.code.length:=by omega
    rw [Id.out] at fr4 fr5;rw [hp] at g0
    obtain ⟨X,hX⟩:∃ X,X=wr.alloc (.cells #[qi p,qi f.kind,qi f.m] 67):=⟨_,rfl⟩
    have C8:qb wr X:=by rw [hX];exact al1 _ _
    have HX:=hid hX
    have Lq:X.heap.size=wr.heap.size+1:=by rw [hX];simp
    have Dn:X.heap[wr.heap.size]? = some (.cells #[qi p,qi f.kind,qi f.m] 67):=by rw [hX];exact heap_newP _ _
    have AV:=(C8.block _ (lt_of_heap CM)).trans CM;have EI:=lt_of_heap AV;have EQ:=lt_of_heap Dn;have OP:=hid C8
    have Dh:=hid (fun (W:World) (hW:W.heap[w.heap.size]? = X.heap[w.heap.size]?/\W.heap[wr.heap.size]? = X.heap[wr.heap.size]?)=>(by
     obtain ⟨e0,e1,e2,e3,e4,e5,e6,_⟩:=zao (hW.1.trans AV);obtain ⟨q0,q1,q2⟩:=zxq (hW.2.trans Dn)
     exact ⟨e0,e1,e2,e3,e4,e5,e6,q0,q1,q2⟩:W.cell? (qa w.heap.size 0)=some (.string o.name)/\W.cell? (qa w.heap.size 1)=some (.slice x1 o.uses.length y1)/\W.cell? (qa w.heap.size 2)=some (qi o.data)/\W.cell? (qa w.heap.size 3)=some (.slice x3 o.code.length y3)/\W.cell? (qa w.heap.size 4)=some (.slice (some (qa fb fo)) o.fixes.length y4)/\W.cell? (qa w.heap.size 5)=some (.slice x5 o.entries.length y5)/\W.cell? (qa w.heap.size 6)=some (qi o.main)/\W.cell? (qa wr.heap.size 0)=some (qi p)/\W.cell? (qa wr.heap.size 1)=some (qi f.kind)/\W.cell? (qa wr.heap.size 2)=some (qi f.m)))
    have HS:=hid (fun W (hW:qb X W)=>Dh.out W ⟨hW.block _ EI,hW.block _ EQ⟩);have Fh:=hid (E9.trans (C8.mono E9.size));obtain ⟨_,_,_,_,_,_,_,_,xk,yk, -, -, -, -, -, -, -, -, -,Cr, -,hek⟩:=HO.out.get (modO l o f.m) hmlt;rw [← zjt hmlt] at hek;have HM:=hid (fun W (hW:qb X W)=>zi2 l ev pb W (HP.out.later (thenB Fh.out hW)) o x1 y1 x3 y3 (some (qa fb fo)) y4 x5 y5 (F5.out.later (thenB Fh.out hW)) f.m _ ID.out _ E6 xk _ yk hek);have DO:=Cr.entries.bound;have Bv:=zf0 HN.out (modO l o f.m) (by omega);have EN:=HN.out.1;have Gg:=MR.out _ (vaj hmlt)
    have Ni:Hid (∀ x ∈ entsO l (modO l o f.m),0<=x/\x<=2048):=by
     rw [zjt hmlt];exact zvs Gg
    have FA:Hid (f.kind=2->(fxL l o j)[p].a<(entsO l (modO l o f.m)).length):=fun k2=>by
     have h1:zob l o f=true:=L7.out;unfold zob at h1;rw [Id.out] at h1;simp [k2] at h1;exact h1
    have HF:=hid (fun W (hW:qb X W)=>zxo (modO l o f.m) ((l.length:Int)+1+cdL (l.take (modO l o f.m))) (dtL (l.take (modO l o f.m))) f.kind (fxL l o j)[p].a (entsO l (modO l o f.m)) xk yk W (by rw [zjt hmlt];exact Cr.entries.later (thenB Fh.out hW)) (by omega) (by omega) ⟨fr4,fr5⟩ FA.out Ni.out)
    have Pu:Hid (z63 l o f=fixV f.kind (fxL l o j)[p].a ((l.length:Int)+1+cdL (l.take (modO l o f.m))) (dtL (l.take (modO l o f.m))) (entsO l (modO l o f.m))):=by show z63 l o f=_;unfold z63;rw [Id.out]
    have Gs:=hid (ownsRow_later Fy.out C8);have IJ:=hid (fun W (hW:qb X W)=>z4n (ownsRow_later Gs.out hW) p NZ (zei l o j));have Ma:=hek;clear Ma Cr hek E6 C8 hX AV CM Dn hb E9 Gg EO GF KR fr2 fr6 fr7;generalize fixV f.kind (fxL l o j)[p].a ((l.length:Int)+1+cdL (l.take (modO l o f.m))) (dtL (l.take (modO l o f.m))) (entsO l (modO l o f.m))=fv at *;generalize (fxL l o j)[p].a=A at *;generalize entsO l (modO l o f.m)=es at *;generalize Su:modO l o f.m=mo at *;go_upto_region 5 with fail;rw [← HX.out];refine wp_region_held_drew (S:=(fun W=>W.cell? (qa w.heap.size 0)=some (.string o.name)/\W.cell? (qa w.heap.size 1)=some (.slice x1 o.uses.length y1)/\W.cell? (qa w.heap.size 2)=some (qi o.data)/\W.cell? (qa w.heap.size 3)=some (.slice x3 o.code.length y3)/\W.cell? (qa w.heap.size 4)=some (.slice (some (qa fb fo)) o.fixes.length y4)/\W.cell? (qa w.heap.size 5)=some (.slice x5 o.entries.length y5)/\W.cell? (qa w.heap.size 6)=some (qi o.main)/\W.cell? (qa wr.heap.size 0)=some (qi p)/\W.cell? (qa wr.heap.size 1)=some (qi f.kind)/\W.cell? (qa wr.heap.size 2)=some (qi f.m))) (by kernel_rfl) (HS.out _ (zlz X)) (fun A0=>?_)
    refine tkl 0 (.slice (some (qa g 0)) o.code.length cc) rfl (by kernel_rfl) (fun _ _ _ h=>h) (fun W hW=>by kernel_rfl) A0 ?_;refine tkl 1 (pq wr.heap.size 0) rfl (by kernel_rfl) (fun _ _ _ h=>h) (fun W hW=>by kernel_rfl) A0 ?_;refine tkl 2 (qi p) rfl (by kernel_rfl) (fun _ _ _ h=>h) (fun W hW=>by obtain ⟨s0,s1,s2,s3,s4,s5,s6,s7,s8,s9⟩:=hW;go_simp) A0 ?_;refine tkl 3 (.map (some pb)) rfl (by kernel_rfl) (fun _ _ _ h=>h) (fun W hW=>by kernel_rfl) A0 ?_;refine tkl 4 (.agg #[.string o.name,.slice x1 o.uses.length y1,qi o.data,.slice x3 o.code.length y3,.slice (some (qa fb fo)) o.fixes.length y4,.slice x5 o.entries.length y5,qi o.main]) rfl (by kernel_rfl) (fun _ _ _ h=>h) (fun W hW=>by obtain ⟨s0,s1,s2,s3,s4,s5,s6,s7,s8,s9⟩:=hW;go_simp) A0 ?_;refine tkl 5 (pq wr.heap.size 2) rfl (by kernel_rfl) (fun _ _ _ h=>h) (fun W hW=>by kernel_rfl) A0 ?_
    refine tkl 6 (qi f.m) rfl (by kernel_rfl) (fun _ _ _ h=>h) (fun W hW=>by obtain ⟨s0,s1,s2,s3,s4,s5,s6,s7,s8,s9⟩:=hW;go_simp) A0 ?_;refine tkl 8 (pq wr.heap.size 1) rfl (by kernel_rfl) (fun _ _ _ h=>h) (fun W hW=>by kernel_rfl) A0 ?_;refine tkl 9 (qi f.kind) rfl (by kernel_rfl) (fun _ _ _ h=>h) (fun W hW=>by obtain ⟨s0,s1,s2,s3,s4,s5,s6,s7,s8,s9⟩:=hW;go_simp) A0 ?_;refine tkl 10 (.slice (some (qa g 0)) o.code.length cc) rfl (by kernel_rfl) (fun _ _ _ h=>h) (fun W hW=>by kernel_rfl) A0 ?_;refine tkl 11 (pq wr.heap.size 0) rfl (by kernel_rfl) (fun _ _ _ h=>h) (fun W hW=>by kernel_rfl) A0 ?_;refine tkl 12 (qi p) rfl (by kernel_rfl) (fun _ _ _ h=>h) (fun W hW=>by obtain ⟨s0,s1,s2,s3,s4,s5,s6,s7,s8,s9⟩:=hW;go_simp) A0 ?_;refine tkl 13 (.pointer (some ⟨g,p*3,none⟩)) rfl (by kernel_rfl) (fun _ _ _ h=>h) (fun W hW=>by go_simp) A0 ?_
    refine tkl 14 (.pointer (some ⟨g,p*3+1,none⟩)) rfl (by kernel_rfl) (fun _ _ _ h=>h) (fun W hW=>by kernel_rfl) A0 ?_;have Bm:=(IJ.out _ (zlz X)).1
    (try simp only [Act.put,vad,van,vap])
    refine wpAnyH_ready (rs:=[7,15]) (by kernel_rfl) (by simp) ?_;refine AllReadyH.cons rfl ?_ (AllReadyH.cons rfl ?_ AllReadyH.nil)
    . intro Kq hK
      clear Bm;go_simp
      go_wp2_with (go_at_call 146;refine (HM.out _ (zlz X)).mono ?_;rintro e w7 ⟨rfl,AP⟩)
      have BB:=hid (thenB (zlz X) AP);refine hK.out _ _ (HS.out _ BB.out) (fun A0=>?_);clear hK Kq AP
      (try simp only [Act.put,vad,van,vap])
      have Bm:=(IJ.out _ BB.out).1;refine wpAnyH_ready (rs:=[15]) (by kernel_rfl) (by simp) ?_;refine AllReadyH.cons rfl ?_ AllReadyH.nil;intro Kq hK;go_simp;refine hK.out _ _ (HS.out _ BB.out) (fun A0=>?_);clear hK Kq Bm
      (try simp only [Act.put,vad,van,vap])
      refine wpAnyH_ready (rs:=[16]) (by kernel_rfl) (by simp) ?_;refine AllReadyH.cons rfl ?_ AllReadyH.nil;intro Kq hK;go_simp
      go_wp2_with (go_at_call 147;refine (HF.out _ BB.out).mono ?_;rintro e w8 ⟨rfl,AQ⟩)
      have Bd:=hid (thenB BB.out AQ);refine hK.out _ _ (HS.out _ Bd.out) (fun A0=>?_);clear hK Kq AQ
      (try simp only [Act.put,vad,van,vap])
      refine tkl 17 (.pointer (some ⟨g,p*3,none⟩)) rfl (by kernel_rfl) (fun _ _ _ h=>h) (fun W hW=>by go_simp) A0 ?_;refine tkl 18 (.pointer (some ⟨g,p*3+1,none⟩)) rfl (by kernel_rfl) (fun _ _ _ h=>h) (fun W hW=>by kernel_rfl) A0 ?_;have hq:=IJ.out _ Bd.out;have Dm:=hq.1;have Dl:=hq.2.1;have E4:=hq.2.2.1;clear hq;refine wpAnyH_ready (rs:=[19]) (by kernel_rfl) (by simp) ?_;refine AllReadyH.cons rfl ?_ AllReadyH.nil;intro Kq hK;go_simp;refine hK.out _ _ (Dh.out _ ⟨(heap_set_ne (p:=⟨g,p*3+1,none⟩) (by show w.heap.size≠g;omega) _).trans (Bd.out.block _ EI),(heap_set_ne (p:=⟨g,p*3+1,none⟩) (by show wr.heap.size≠g;omega) _).trans (Bd.out.block _ EQ)⟩) (fun A0=>?_);clear hK Kq Dm Dl E4;refine wpAnyH_done (by kernel_rfl) ?_ _;clear A0;go_simp;have ED:=Bd.out.size;clear HM HF HS Dh;go_wp2_with fail;go_roundw
      case rel=>exact ⟨j+1,by omega,by go_num,by rw [Gr.out,Pu.out,hp];exact (IJ.out _ Bd.out).2.2.2 fv,(HB.out.trans ((OP.out.trans (Bd.out.mono (by omega))).mono (by omega))).setCell (p:=⟨g,p*3+1,none⟩) (by show w.heap.size+1<=g;omega) _⟩
      case measure=>simp [intOf];omega
    . intro Kq hK
      go_simp;refine hK.out _ _ (HS.out _ (zlz X)) (fun A0=>?_);clear hK Kq Bm
      (try simp only [Act.put,vad,van,vap])
      refine wpAnyH_ready (rs:=[7]) (by kernel_rfl) (by simp) ?_;refine AllReadyH.cons rfl ?_ AllReadyH.nil;intro Kq hK;go_simp
      go_wp2_with (go_at_call 146;refine (HM.out _ (zlz X)).mono ?_;rintro e w7 ⟨rfl,AP⟩)
      have BB:=hid (thenB (zlz X) AP);refine hK.out _ _ (HS.out _ BB.out) (fun A0=>?_);clear hK Kq AP
      (try simp only [Act.put,vad,van,vap])
      refine wpAnyH_ready (rs:=[16]) (by kernel_rfl) (by simp) ?_;refine AllReadyH.cons rfl ?_ AllReadyH.nil;intro Kq hK;go_simp
      go_wp2_with (go_at_call 147;refine (HF.out _ BB.out).mono ?_;rintro e w8 ⟨rfl,AQ⟩)
      have Bd:=hid (thenB BB.out AQ);refine hK.out _ _ (HS.out _ Bd.out) (fun A0=>?_);clear hK Kq AQ
      (try simp only [Act.put,vad,van,vap])
      refine tkl 17 (.pointer (some ⟨g,p*3,none⟩)) rfl (by kernel_rfl) (fun _ _ _ h=>h) (fun W hW=>by go_simp) A0 ?_;refine tkl 18 (.pointer (some ⟨g,p*3+1,none⟩)) rfl (by kernel_rfl) (fun _ _ _ h=>h) (fun W hW=>by kernel_rfl) A0 ?_;have hq:=IJ.out _ Bd.out;have Dm:=hq.1;have Dl:=hq.2.1;have E4:=hq.2.2.1;clear hq;refine wpAnyH_ready (rs:=[19]) (by kernel_rfl) (by simp) ?_;refine AllReadyH.cons rfl ?_ AllReadyH.nil;intro Kq hK;go_simp;refine hK.out _ _ (Dh.out _ ⟨(heap_set_ne (p:=⟨g,p*3+1,none⟩) (by show w.heap.size≠g;omega) _).trans (Bd.out.block _ EI),(heap_set_ne (p:=⟨g,p*3+1,none⟩) (by show wr.heap.size≠g;omega) _).trans (Bd.out.block _ EQ)⟩) (fun A0=>?_);clear hK Kq Dm Dl E4;refine wpAnyH_done (by kernel_rfl) ?_ _;clear A0;go_simp;have ED:=Bd.out.size;clear HM HF HS Dh;go_wp2_with fail;go_roundw
      case rel=>exact ⟨j+1,by omega,by go_num,by rw [Gr.out,Pu.out,hp];exact (IJ.out _ Bd.out).2.2.2 fv,(HB.out.trans ((OP.out.trans (Bd.out.mono (by omega))).mono (by omega))).setCell (p:=⟨g,p*3+1,none⟩) (by show w.heap.size+1<=g;omega) _⟩
      case measure=>simp [intOf];omega
  . obtain rfl:j=o.fixes.length:=by omega
    have hz:=hb.size;clear CM E9;go_wp2_with fail;go_ret;exact ⟨_,rfl,zi3 Fy.out (by omega),KT.out.trans (HB.out.mono (by omega))⟩
set_option maxHeartbeats 6400000
def zgx:List Ob->Int
 | []=>0
 | o :: r=>if oChk o≠0 then oChk o else zgx r
theorem zkg:∀ l:List Ob,(∀ i (h:i<l.length),oChk l[i]=0)->zgx l=0
 | [],_=>rfl
 | o :: r,h=>by
   have h0:oChk o=0:=h 0 (by simp);unfold zgx;rw [if_neg (by rw [h0];exact fun e=>e rfl)];exact zkg r (fun i hi=>h (i+1) (by simpa using hi))
theorem zp2:∀ (l:List Ob) (j:Nat) (hj:j<l.length),(∀ i (h:i<j),oChk l[i]=0)->oChk l[j]≠0->zgx l=oChk l[j]
 | o :: r,0,_,_,hn=>by
   unfold zgx;rw [if_pos (show oChk o≠0 from hn)]
   rfl
 | o :: r,j+1,hj,h,hn=>by
   have h0:oChk o=0:=h 0 (by omega);unfold zgx;rw [if_neg (by rw [h0];exact fun e=>e rfl)];exact zp2 r j (by simpa using hj) (fun i hi=>h (i+1) (by omega)) hn
theorem zmr:∀ {l:List Ob},zgx l=0->∀ o ∈ l,oChk o=0
 | o :: r,h,x,hx=>by
   unfold zgx at h
   by_cases h0:oChk o=0
   . rw [if_neg (by rw [h0];exact fun e=>e rfl)] at h
     rcases vca.1 hx with rfl | hx
     . exact h0
     . exact zmr h x hx
   . rw [if_pos h0] at h
     exact absurd h h0
def lnChk (l:List Ob):Int:=if l.length<1\/4<l.length then 2 else if zgx l≠0 then zgx l else if ¬ (nmO l).Nodup then 6 else if zka l=false then 9 else if zkb l=false then 5 else 0
theorem zxr {o:Ob} (h:oChk o=0):1<=o.code.length/\o.code.length<=2048/\0<=o.data/\o.data<=512:=by
 obtain ⟨hm,_,hc,_⟩:=zii h;unfold zhu at hm;simp only [vat] at hm;have h1:=of_decide_eq_false hm.2.2.1;have h2:=of_decide_eq_false hm.2.2.2;unfold zfj zyn at hc;simp only [vac] at hc;have h3:=of_decide_eq_true hc.2.2.2;omega
theorem z4o {o:Ob} (h:oChk o=0):0<=o.main/\o.main<o.code.length:=by
 obtain ⟨hm,_,hc,_⟩:=zii h;unfold zfj zyn at hc;simp only [vac] at hc;exact of_decide_eq_true hc.2.2.1
theorem zr3 {l:List Ob} (h4:l.length<=4) (h:∀ o ∈ l,oChk o=0):z6n l:=⟨h4,fun o ho=>zxr (h o ho)⟩
theorem zub {l:List Ob} (hn:(nmO l).Nodup) (ha:zka l=true):z1c l:=fun i hi m h0 h1=>by
 unfold zry
 by_cases hm:m=0
 . rw [if_pos hm,zt8 hn hi];rfl
 . rw [if_neg hm]
   have h2:=zba.1 ha i hi;unfold zj9 at h2;rw [vae hi] at h2
   have hk:(m - 1).toNat<l[i].uses.length:=by omega
   have h3:=vas.1 h2 l[i].uses[(m - 1).toNat] (vaj hk);rw [vay,vae hk];show (lkO l (l[i].uses[(m - 1).toNat]).data.toList l.length).isSome=true;unfold zi1 at h3
   cases e:lkO l (l[i].uses[(m - 1).toNat]).data.toList l.length with
   | none=>rw [e] at h3;cases h3
   | some k=>rfl
theorem zkh (l:List Ob) (ev:Nat->Value) (a:OA) (cap:Nat) (w:World) (hO:OsAt w a l ev) :
 qc 43 #[.slice a l.length cap] w fun e w'=>e = .returned (qi (lnChk l))/\qb w w':=by
 have BH:=hO.bound;have HO:=hid hO;clear hO
 obtain ⟨r,hr⟩:∃ r,r=lnChk l:=⟨_,rfl⟩
 rw [← hr];unfold lnChk at hr;have HR:=hid hr;clear hr;go_enter Tryz.func43,Tryz.ntmps43
 by_cases h1:l.length<1
 . have HV:Hid (r=2):=HR.out.trans (if_pos (Or.inl h1))
   have MD:(l.length:Int)<1:=by omega
   have MA:¬ (4<(l.length:Int)):=by omega
   go_wp2_with fail;go_ret;exact ⟨by rw [HV.out];rfl,Below.refl _ _⟩
 by_cases h4:4<l.length
 . have HV:Hid (r=2):=HR.out.trans (if_pos (Or.inr h4))
   have MD:¬ ((l.length:Int)<1):=by omega
   have MA:(4:Int)<(l.length:Int):=by omega
   go_wp2_with fail;go_ret;exact ⟨by rw [HV.out];rfl,Below.refl _ _⟩
 have Ao:=hid (HR.out.trans (if_neg (by omega)))
 have MD:¬ ((l.length:Int)<1):=by omega
 have MA:¬ (4<(l.length:Int)):=by omega
 go_wp2_with fail;clear MD MA
 go_loopw [4,5,17] (fun _ _ i wr=>∃ j:Nat,j<=l.length/\i=qi j/\(∀ k (h:k<l.length),k<j->oChk l[k]=0)/\qb w wr) (fun _ _ i _=>l.length - (intOf i).toNat)
 case atStart=>exact ⟨0,vag _,rfl,fun k _ h=>absurd h (vck _),Below.refl _ _⟩
 case round=>
  obtain ⟨j,hj,rfl,A8,hb⟩:=hrel;have HA:=hid A8;have HB:=hid hb;clear A8
  by_cases A4:j<l.length
  . obtain ⟨b,off,x1,y1,x3,y3,x4,y4,x5,y5,rfl,C4,c0,c1,c2,c3,c4,c5,c6,ho,DU, -⟩:=(HO.out.later hb).get j A4
    have HC:=hid (zqo l[j] x1 y1 x3 y3 x4 y4 x5 y5 (wr.alloc (kzD l[j].name x1 l[j].uses.length y1 l[j].data x3 l[j].code.length y3 x4 l[j].fixes.length y4 x5 l[j].entries.length y5 l[j].main)) (ho.later (al1 _ _)) DU);clear ho DU hb;go_wp2_with fail;refine HC.out.mono ?_;rintro e w2 ⟨rfl,Ab⟩;have Af:=hid (thenB HB.out (thenB (al1 wr _) Ab));clear Ab HC c0 c1 c2 c3 c4 c5 c6
    by_cases hz:oChk l[j]=0
    . have S9:Hid (∀ k (h:k<l.length),k<j+1->oChk l[k]=0):=fun k h hk=>by
       by_cases he:k=j
       . subst he;exact hz
       . exact HA.out k h (by omega)
      go_wp2_with fail;go_roundw
      case rel=>exact ⟨j+1,by omega,by go_num,S9.out,Af.out⟩
      case measure=>simp [intOf];omega
    . have HV:Hid (r=oChk l[j]):=by
       have he:=zp2 l j A4 (fun k hk=>HA.out k (by omega) hk) hz;show r=_;rw [Ao.out,if_pos (by rw [he];exact hz),he]
      generalize oChk l[j]=z at *;go_wp2_with fail;go_ret;exact ⟨by rw [HV.out];rfl,Af.out⟩
  . obtain rfl:j=l.length:=by omega
    have A8:∀ o ∈ l,oChk o=0:=fun o ho=>by
     obtain ⟨i,hi,rfl⟩:=vbl ho;exact HA.out i hi hi
    have HE:=hid A8;have HN:=hid (zr3 (by omega) A8);have Aq:=hid (Ao.out.trans (if_neg (by rw [zkg l (fun i h=>HA.out i h h)];exact fun e=>e rfl)));have JT:=hid (zi0 l ev a cap wr (HO.out.later hb) HN.out);clear A8 Ao HA hb;go_wp2_with fail;refine JT.out.mono ?_;rintro e w2 ⟨pb,rfl,hP,Ab⟩;have Af:=hid (thenB HB.out Ab);have HP:=hid hP;obtain ⟨m,hm,EL,Ir⟩:=hP.len;have Nx:=hid (zrw l ev a cap pb w2 (HO.out.later Af.out) (by omega) hP);have I3:=hid (fun (hn:(nmO l).Nodup) (ha:zka l=true) W (hW:qb w2 W)=>zrz l ev a cap pb W (HO.out.later (thenB Af.out hW)) (by omega) (HP.out.later hW) HE.out (zub hn ha));clear hP Ab JT
    by_cases hn:(nmO l).Nodup
    . obtain rfl:=EL hn
      have Qe:¬ ((l.length:Int)<(l.length:Int)):=by omega
      have AW:=hid (Aq.out.trans (if_neg (fun h=>h hn)));have P7:=hid hn;clear EL Ir hn Aq;go_wp2_with fail;refine Nx.out.mono ?_;rintro e w3 ⟨rfl,A9⟩;have Ae:=hid A9;clear A9 Nx hm
      cases ha:zka l with
      | false=>
        have HV:Hid (r=9):=AW.out.trans (if_pos ha);clear ha;go_wp2_with fail;go_ret;exact ⟨by rw [HV.out];rfl,thenB Af.out Ae.out⟩
      | true=>
        have Bs:=hid (AW.out.trans (if_neg (by rw [ha];decide)));have HC:=hid (I3.out P7.out ha w3 Ae.out);clear ha;go_wp2_with fail;refine HC.out.mono ?_;rintro e w4 ⟨rfl,Aj⟩;have Ar:=hid (thenB Ae.out Aj);clear Aj HC
        cases hc:zkb l with
        | false=>
          have HV:Hid (r=5):=Bs.out.trans (if_pos hc);clear hc;go_wp2_with fail;go_ret;exact ⟨by rw [HV.out];rfl,thenB Af.out Ar.out⟩
        | true=>
          have HV:Hid (r=0):=Bs.out.trans (if_neg (by rw [hc];decide));clear hc;go_wp2_with fail;go_ret;exact ⟨by rw [HV.out];rfl,thenB Af.out Ar.out⟩
    . have GS:=Ir hn
      have Qe:(m:Int)<(l.length:Int):=by omega
      have HV:Hid (r=6):=Aq.out.trans (if_pos hn);clear EL Ir hn Aq Nx I3;go_wp2_with fail;go_ret;exact ⟨by rw [HV.out];rfl,Af.out⟩
set_option maxHeartbeats 12800000
def codeL (l:List Ob) (j:Nat):List Gi:=(zep l l.length++[⟨20,0,0⟩])++(l.take j).flatMap (fun o=>fxL l o o.fixes.length)
theorem zik (l:List Ob) {j:Nat} (h:j<l.length):codeL l (j+1)=codeL l j++fxL l l[j] l[j].fixes.length:=by
 unfold codeL;rw [vaf h,vdk];simp
theorem zki (l:List Ob):∀ j,j<=l.length->((codeL l j).length:Int)=l.length+1+cdL (l.take j)
 | 0,_=>by simp [codeL,zmq,cdL]
 | j+1,h=>by
   have ih:=zki l j (by omega);rw [zik l (by omega:j<l.length),vam,zei,zjr (by omega:j<l.length)];omega
def zxs (l:List Ob):Except Int (List Gi × Int):=if lnChk l≠0 then .error (lnChk l) else if 2048<(codeL l l.length).length\/512<dtL l then .error 2 else .ok (codeL l l.length,dtL l)
def z4p (lo:Nat) (r:Except Int (List Gi × Int)) (e:Ending) (w:World):Prop:=
 match r with
 | .error c=>e = .returned (.tuple #[.agg #[.slice none 0 0,.int .i64 0],.int .i64 c])/\c≠0
 | .ok (c,d)=>∃ v,e = .returned (.tuple #[.agg #[v,.int .i64 d],.int .i64 0])/\w.ownsRow lo 69 3 v c.length (zen c)
theorem zuc {l:List Ob} (h:lnChk l=0):1<=l.length/\l.length<=4/\(∀ o ∈ l,oChk o=0)/\(nmO l).Nodup/\zka l=true/\zkb l=true:=by
 unfold lnChk at h
 split at h
 . cases h
 . rename_i h1
   split at h
   . rename_i h2;exact absurd h h2
   . rename_i h2
     split at h
     . cases h
     . rename_i h3
       split at h
       . cases h
       . rename_i h4
         split at h
         . cases h
         . rename_i h5
           exact ⟨by omega,by omega,zmr (by simpa using h2),by simpa using h3,by simpa using h4,by simpa using h5⟩
theorem zd0 {w:World} {b:Nat} {x0 x1:Value} {t:TypeId} (h:w.heap[b]? = some (.cells #[x0,x1] t (0,0))):w.cell? (qa b 0)=some x0/\w.cell? (qa b 1)=some x1/\∀ i,w.frozen? (qa b i)=false:=by
 refine ⟨?_,?_,fun i=>veg h i⟩<;>(rw [vef h];rfl)
theorem zkj {w:World} {B:Nat} {a:OA} {cap:Nat} {c:List Gi} (h:w.ownsRow B 69 3 (.slice a c.length cap) c.length (zen c)) (hn:c.length≠0):∃ b off,a=some (qa b off)/\∀ j (hj:j<c.length),w.cell? ⟨b,off+j*3,none⟩=some (qi c[j].op)/\w.cell? ⟨b,off+j*3+1,none⟩=some (qi c[j].a)/\w.cell? ⟨b,off+j*3+2,none⟩=some (qi c[j].b):=by
 obtain ⟨g,cap',e,_,_⟩:=zkf h (by omega)
 injection e with e1 _ _
 subst e1;refine ⟨g,0,rfl,fun j hj=>?_⟩
 have hc:∀ k,k<3->∀ u,(giV c[j])[k]? = some u->w.cell? ⟨g,j*3+k,none⟩=some u:=fun k hk u hu=>by
  have:=h.cells (g:=g) rfl (j*3+k) u ((zke giV 3 (fun _=>rfl) c j hj k hk).trans hu);rwa [zoc,vba] at this
 rw [vba];exact ⟨hc 0 (by omega) _ rfl,hc 1 (by omega) _ rfl,hc 2 (by omega) _ rfl⟩
theorem zod (l:List Ob) (ev:Nat->Value) (a:OA) (cap:Nat) (w:World) (hO:OsAt w a l ev) :
 qc 40 #[.slice a l.length cap] w fun e w'=>z4p w.heap.size (zxs l) e w'/\qb w w':=by
 have BH:=hO.bound;have HO:=hid hO;have HC:=hid (zkh l ev a cap (w.alloc (.cells #[qs,qi 0] 81)) (hO.later (al1 _ _)));clear hO
 obtain ⟨r,hr⟩:∃ r,r=zxs l:=⟨_,rfl⟩
 rw [← hr];unfold zxs at hr;have HR:=hid hr;clear hr;go_enter Tryz.func40,Tryz.ntmps40;go_wp2_with fail;refine HC.out.mono ?_;rintro e w1 ⟨rfl,A6⟩;have A7:=hid (thenB (al1 w _) A6);have P0:=hid ((A6.block w.heap.size (by simp)).trans (heap_newP w (.cells #[qs,qi 0] 81)));have An:=A6.size;simp at An;obtain ⟨r0,r1,rf⟩:=zd0 P0.out;have EM:=lt_of_heap P0.out;clear A6 HC
 by_cases he:lnChk l=0
 rotate_left
 . have HV:Hid (r = .error (lnChk l)):=HR.out.trans (if_pos he)
   generalize lnChk l=z at *;have L1:=hid he;go_wp2_with fail;refine bodyPost_ret (v:=.tuple #[.agg #[qs,qi 0],qi z]) (by simp [results,Tryz.results40,go_sem,r0,r1,EM]) rfl ⟨by rw [HV.out];exact ⟨rfl,L1.out⟩,?_⟩;exact (A7.out.setCell (p:=(qa w.heap.size 0)) (vaa _) _).setCell (p:=(qa w.heap.size 1)) (vaa _) _
 obtain ⟨k1,k2,k3,k4,k5,k6⟩:=zuc he;have Ao:=hid (HR.out.trans (if_neg (fun h=>h he)));have HE:=hid k3;have HN:=hid (zr3 k2 k3);have P7:=hid k4;have Ng:=hid (zub k4 k5);have Ey:=hid k6
 have L4:Hid (MainsB l):=⟨fun o ho=>by have:=z4o (k3 o ho);have:=zxr (k3 o ho);omega,k4⟩
 have JT:=hid (zi0 l ev a cap w1 (HO.out.later A7.out) HN.out);rw [he];clear HR k3 k4 k5 k6 he;go_wp2_with fail;refine JT.out.mono ?_;rintro e w2 ⟨pb,rfl,hP,Ab⟩;have Af:=hid (thenB A7.out Ab);have HP:=hid hP;have AA:=Ab.size;have P1:=hid ((Ab.block _ EM).trans P0.out);have L2:=hid (zr0 l ev a cap pb w2 (HO.out.later Af.out) HN.out hP L4.out);clear hP Ab JT r0 r1 rf;go_wp2_with fail;refine L2.out.mono ?_;rintro e w3 ⟨v3,rfl,ho3,A9⟩;obtain ⟨a3,c3,rfl, -, -⟩:=zal ho3;have CU:=hid ho3;have Bw:=A9.size
 have Ci:=fun k hk=>(ho3.lt k hk).2
 obtain ⟨M,hM⟩:∃ M,M=w3.heap.size:=⟨_,rfl⟩
 obtain ⟨W,hW⟩:∃ W,W=w3.alloc (.cells #[.slice a3 (l.length+1) c3,qi 0] 81):=⟨_,rfl⟩
 have Et:qb w3 W:=by rw [hW];exact al1 _ _
 have KT:=hid Et;have HW:=hid hW
 have RE:Hid (W.heap[M]? = some (.cells #[.slice a3 (l.length+1) c3,qi 0] 81)):=by rw [hM,hW];exact heap_newP _ _
 have La:=hid (A9.trans (Et.mono Bw))
 have N7:Hid (∀ k,(Value.slice a3 (l.length+1) c3).ownBlock=some k->k≠M):=fun k hk e=>by have:=Ci k hk;omega
 have Lr:W.heap.size=M+1:=by rw [hW,hM];simp
 have SQ:w2.heap.size<=M:=by omega
 have SR:w.heap.size<M:=by omega
 have CB:=hid hM;clear ho3 A9 L2 hW Et Ci;go_upto_region 6 with fail;rw [← HW.out,← hM];clear HW hM;go_wp2_with fail
 go_loopw [8,23] (fun _ i wr=>∃ (j:Nat) (vc:Value),j<=l.length/\i=qi j/\wr.heap[M]? = some (.cells #[vc,qi (dtL (l.take j))] 81 (0,0))/\wr.ownsRow w2.heap.size 69 3 vc (codeL l j).length (zen (codeL l j))/\vc.ownBlock≠some M/\qb w2 wr) (fun _ i _=>l.length - (intOf i).toNat)
 case atStart=>
  refine ⟨0,_,vag _,rfl,RE.out,?_,fun h=>N7.out _ h rfl,La.out⟩
  have e1:codeL l 0=zep l l.length++[⟨20,0,0⟩]:=by simp [codeL]
  have e2:(codeL l 0).length=l.length+1:=by rw [e1];simp [zmq]
  rw [e2,e1];exact ownsRow_later CU.out KT.out
 case round=>
  obtain ⟨j,vc,hj,rfl,hm,Aa,hvm,hb⟩:=hrel;have Hr:=hid hvm;have HB:=hid hb;have RB:=hid hm;have Fy:=hid Aa;have QS:=lt_of_heap hm;have E9:=thenB Af.out hb;have Bv:=zf0 HN.out j hj;have Jd:=zki l j hj;have Js:=hid ((hb.block _ (vah (lt_of_heap P1.out) (vaa _))).trans P1.out);obtain ⟨ac,cc,hvc, -, -⟩:=zal Aa;clear hvm Aa
  by_cases A4:j<l.length
  . obtain ⟨b,off,x1,y1,x3,y3,x4,y4,x5,y5,rfl,C4,c0,c1,c2,c3',c4,c5,c6,ho, -, -⟩:=(HO.out.later E9).get j A4
    clear hvc;have Cg:=A4;have Dq:=HN.out.2 l[j] (vaj A4);have Hc:=Dq.1;have H9:=Dq.2.1;have Me:=Dq.2.2.1;have Md:=Dq.2.2.2;have Mb:=zn8 A4
    obtain ⟨o,Ep⟩:∃ o,o=l[j]:=⟨_,rfl⟩
    have Gr:=hid (zik l A4)
    obtain ⟨X,hX⟩:∃ X,X=wr.alloc (kzD o.name x1 o.uses.length y1 o.data x3 o.code.length y3 x4 o.fixes.length y4 x5 o.entries.length y5 o.main):=⟨_,rfl⟩
    have C8:qb wr X:=by rw [hX];exact al1 _ _
    have HX:=hid hX
    have Lq:X.heap.size=wr.heap.size+1:=by rw [hX];simp
    have AV:X.heap[wr.heap.size]? = some (kzD o.name x1 o.uses.length y1 o.data x3 o.code.length y3 x4 o.fixes.length y4 x5 o.entries.length y5 o.main):=by rw [hX];exact heap_newP _ _
    have Dh:=hid (fun (W':World) (hW:W'.heap[wr.heap.size]? = some (kzD o.name x1 o.uses.length y1 o.data x3 o.code.length y3 x4 o.fixes.length y4 x5 o.entries.length y5 o.main))=>(by
     obtain ⟨e0,e1,e2,e3,e4,e5,e6,_⟩:=zao hW
     exact ⟨e0,e1,e2,e3,e4,e5,e6⟩:W'.cell? (qa wr.heap.size 0)=some (.string o.name)/\W'.cell? (qa wr.heap.size 1)=some (.slice x1 o.uses.length y1)/\W'.cell? (qa wr.heap.size 2)=some (qi o.data)/\W'.cell? (qa wr.heap.size 3)=some (.slice x3 o.code.length y3)/\W'.cell? (qa wr.heap.size 4)=some (.slice x4 o.fixes.length y4)/\W'.cell? (qa wr.heap.size 5)=some (.slice x5 o.entries.length y5)/\W'.cell? (qa wr.heap.size 6)=some (qi o.main)))
    have HS:=hid (fun W' (hW:qb X W')=>Dh.out W' ((hW.block _ (lt_of_heap AV)).trans AV));have Fh:=hid (hb.trans (C8.mono hb.size));have Gw:=hid ((C8.block _ QS).trans hm);have P9:=hid (fun W' (hW:qb X W')=>zd0 ((hW.block _ (lt_of_heap Gw.out)).trans Gw.out));have Gs:=hid (fun W' (hW:qb X W')=>ownsRow_later (ownsRow_later Fy.out C8) hW)
    have IA:Hid (vc.ownBlock≠some wr.heap.size):=fun h=>by have:=(Fy.out.lt _ h).2;omega
    have Gp:Hid (∀ {v5:Value} {n:Nat},(v5.ownBlock=vc.ownBlock\/v5.ownBlock=some n)->n≠M->v5.ownBlock≠some M):=fun h hn e=>h.elim (fun h=>Hr.out (h.symm.trans e)) (fun h=>hn (vab (h.symm.trans e)))
    have Gy:=hid (fun W' (hW:qb X W')=>zr2 l ev (some (qa b off)) pb W' (HO.out.later (thenB (thenB Af.out (hb.trans (C8.mono hb.size))) hW)) HN.out (HP.out.later (thenB (hb.trans (C8.mono hb.size)) hW)) HE.out Ng.out Ey.out j A4 x1 y1 x3 y3 x4 y4 x5 y5 ((ho.later C8).later hW));rw [← Ep] at Gy Hc H9 Me Md Mb Gr c0 c1 c2 c3' c4 c5 c6;clear ho hm Dq;clear Ep C8 hX hb E9;go_upto_region 9 with fail;rw [← HX.out];refine wp_region_held_drew (S:=(fun W'=>W'.cell? (qa wr.heap.size 0)=some (.string o.name)/\W'.cell? (qa wr.heap.size 1)=some (.slice x1 o.uses.length y1)/\W'.cell? (qa wr.heap.size 2)=some (qi o.data)/\W'.cell? (qa wr.heap.size 3)=some (.slice x3 o.code.length y3)/\W'.cell? (qa wr.heap.size 4)=some (.slice x4 o.fixes.length y4)/\W'.cell? (qa wr.heap.size 5)=some (.slice x5 o.entries.length y5)/\W'.cell? (qa wr.heap.size 6)=some (qi o.main))) (by kernel_rfl) (HS.out _ (zlz X)) (fun A0=>?_)
    refine tkl 0 (pq M 0) rfl (by kernel_rfl) (fun _ _ _ h=>h) (fun W hW=>by kernel_rfl) A0 ?_;refine tkl 2 (.map (some pb)) rfl (by kernel_rfl) (fun _ _ _ h=>h) (fun W hW=>by kernel_rfl) A0 ?_;refine tkl 3 (.agg #[.string o.name,.slice x1 o.uses.length y1,qi o.data,.slice x3 o.code.length y3,.slice x4 o.fixes.length y4,.slice x5 o.entries.length y5,qi o.main]) rfl (by kernel_rfl) (fun _ _ _ h=>h) (fun W hW=>by obtain ⟨s0,s1,s2,s3,s4,s5,s6⟩:=hW;go_simp) A0 ?_;have J6:=(P9.out _ (zlz X)).1
    (try simp only [Act.put,vad,van,vap])
    refine wpAnyH_ready (rs:=[1,4]) (by kernel_rfl) (by simp) ?_;refine AllReadyH.cons rfl ?_ (AllReadyH.cons rfl ?_ AllReadyH.nil)
    . intro Kq hK
      go_simp;refine hK.out _ _ (HS.out _ (zlz X)) (fun A0=>?_);clear hK Kq J6
      (try simp only [Act.put,vad,van,vap])
      refine wpAnyH_ready (rs:=[4]) (by kernel_rfl) (by simp) ?_;refine AllReadyH.cons rfl ?_ AllReadyH.nil;intro Kq hK;go_simp
      go_wp2_with (go_at_call 104;refine (Gy.out _ (zlz X)).mono ?_;rintro e w4 ⟨v4,rfl,ho4,Aj⟩)
      have Ar:=hid (thenB (zlz X) Aj);have Ee:=hid ho4;refine hK.out _ _ (HS.out _ Ar.out) (fun A0=>?_);clear hK Kq Aj ho4
      (try simp only [Act.put,vad,van,vap])
      obtain ⟨JB,cc4,rfl, -, -⟩:=zal Ee.out;obtain ⟨v5,w5,hr5,ho5,hg5,hat5⟩:=zij w4 w2.heap.size 59 vc (codeL l j) (Gs.out w4 Ar.out) JB cc4 (fxL l o o.fixes.length) (zkj (by rw [zei];exact Ee.out)) (by rw [zei];omega) (by have:=Ar.out.size;omega);rw [zei] at hr5;obtain ⟨FW,cc5,rfl, -, -⟩:=zal ho5;generalize Jt:(codeL l j).length+(fxL l o o.fixes.length).length=n5 at *;have N6:=hid Jt;clear Jt;have Bs:=hid hr5;have Bo:=hid ho5;have RR:=hid hg5;have Ie:=hid hat5;have C2:=hg5.size;have Aw:=hid (fun (b:Nat) (x:Obj) (hb:X.heap[b]? = some x) (hn:vc.ownBlock≠some b)=>(hg5.block b (vah (lt_of_heap hb) Ar.out.size) (Ne.symm hn)).trans ((Ar.out.block b (lt_of_heap hb)).trans hb));have Av:=hid ((Fh.out.trans (Ar.out.mono (by omega))).grown hg5 (by have:=Ar.out.size;omega) (fun k hk=>((Gs.out w4 Ar.out).lt k hk).1))
      clear hr5 ho5 hg5 hat5;refine wpAnyH_ready (rs:=[5]) (by kernel_rfl) (by simp) ?_;refine AllReadyH.cons (o:=⟨some 32,_,_,_,_,_⟩) rfl ?_ AllReadyH.nil;intro Kq hK;refine step_append_run rfl (.tmp 28) (.tmp 31) 59 rfl vc (.slice JB o.code.length cc4) (.slice FW n5 cc5) (by kernel_rfl) (by kernel_rfl) Bs.out ?_;refine hK.out _ _ (Dh.out _ (Aw.out _ _ AV IA.out)) (fun A0=>?_);clear hK Kq
      (try simp only [Act.put,vad,van,vap])
      refine tkl 6 (pq M 0) rfl (by kernel_rfl) (fun _ _ _ h=>h) (fun W hW=>by kernel_rfl) A0 ?_;have hq:=zd0 (Aw.out _ _ Gw.out Hr.out);have Dm:=hq.1;have Dl:=hq.2.1;have E4:=hq.2.2;have Im:M<w5.heap.size:=lt_of_heap (Aw.out _ _ Gw.out Hr.out);clear hq;refine wpAnyH_ready (rs:=[7]) (by kernel_rfl) (by simp) ?_;refine AllReadyH.cons rfl ?_ AllReadyH.nil;intro Kq hK;go_simp;refine hK.out _ _ (Dh.out _ ((heap_set_ne (p:=(qa M 0)) (by show wr.heap.size≠M;omega) _).trans (Aw.out _ _ AV IA.out))) (fun A0=>?_);clear hK Kq Dm Dl E4;refine wpAnyH_done (by kernel_rfl) ?_ _;clear A0;go_simp;generalize E2:w5.setCell (qa M 0) (.slice FW n5 cc5)=w6 at *
      have CN:w6.heap[M]? = some (.cells #[.slice FW n5 cc5,qi (dtL (l.take j))] 81):=by rw [← E2];exact heap_set (Aw.out _ _ Gw.out Hr.out) _
      have GC:w6.heap.size=w5.heap.size:=by rw [← E2];exact vaq ..
      have J2:w6.heap[wr.heap.size]? = X.heap[wr.heap.size]?:=by rw [← E2];exact (heap_set_ne (p:=(qa M 0)) (by show wr.heap.size≠M;omega) _).trans ((Aw.out _ _ AV IA.out).trans AV.symm)
      have IC:Hid (w6.ownsRow w2.heap.size 69 3 (.slice FW n5 cc5) n5 (zen (codeL l j++fxL l o o.fixes.length))):=by rw [← E2];exact zai Bo.out (fun k hk=>heap_set_ne (p:=(qa M 0)) (by show k≠M;intro e;exact Gp.out Ie.out (by have:=Ar.out.size;omega) (by rw [hk,e])) _)
      have Cw:Hid (qb w2 w6):=by rw [← E2];exact Av.out.setCell (p:=(qa M 0)) (by show w2.heap.size<=M;omega) _
      have N8:=hid CN;obtain ⟨m0,m1,mf⟩:=zd0 CN;obtain ⟨e0,e1,e2,e3,e4,e5,e6,_⟩:=zao (J2.trans AV);have LI:=lt_of_heap CN;clear E2 CN J2 e0 e1 e3 e4 e5 e6 AV Im;go_wp2_with fail;go_roundw
      case rel=>exact ⟨j+1,_,by omega,by go_num,by rw [Mb];exact heap_set N8.out _,by rw [Gr.out,vam,N6.out];exact zai IC.out (fun k hk=>heap_set_ne (p:=(qa M 1)) (by show k≠M;intro e;exact Gp.out Ie.out (by have:=Ar.out.size;omega) (by rw [hk,e])) _),Gp.out Ie.out (by have:=Ar.out.size;omega),Cw.out.setCell (p:=(qa M 1)) (by show w2.heap.size<=M;omega) _⟩
      case measure=>simp [intOf];omega
    . intro Kq hK
      clear J6;go_simp
      go_wp2_with (go_at_call 104;refine (Gy.out _ (zlz X)).mono ?_;rintro e w4 ⟨v4,rfl,ho4,Aj⟩)
      have Ar:=hid (thenB (zlz X) Aj);have Ee:=hid ho4;refine hK.out _ _ (HS.out _ Ar.out) (fun A0=>?_);clear hK Kq Aj ho4
      (try simp only [Act.put,vad,van,vap])
      have J6:=(P9.out _ Ar.out).1;refine wpAnyH_ready (rs:=[1]) (by kernel_rfl) (by simp) ?_;refine AllReadyH.cons rfl ?_ AllReadyH.nil;intro Kq hK;go_simp;refine hK.out _ _ (HS.out _ Ar.out) (fun A0=>?_);clear hK Kq J6
      (try simp only [Act.put,vad,van,vap])
      obtain ⟨JB,cc4,rfl, -, -⟩:=zal Ee.out;obtain ⟨v5,w5,hr5,ho5,hg5,hat5⟩:=zij w4 w2.heap.size 59 vc (codeL l j) (Gs.out w4 Ar.out) JB cc4 (fxL l o o.fixes.length) (zkj (by rw [zei];exact Ee.out)) (by rw [zei];omega) (by have:=Ar.out.size;omega);rw [zei] at hr5;obtain ⟨FW,cc5,rfl, -, -⟩:=zal ho5;generalize Jt:(codeL l j).length+(fxL l o o.fixes.length).length=n5 at *;have N6:=hid Jt;clear Jt;have Bs:=hid hr5;have Bo:=hid ho5;have RR:=hid hg5;have Ie:=hid hat5;have C2:=hg5.size;have Aw:=hid (fun (b:Nat) (x:Obj) (hb:X.heap[b]? = some x) (hn:vc.ownBlock≠some b)=>(hg5.block b (vah (lt_of_heap hb) Ar.out.size) (Ne.symm hn)).trans ((Ar.out.block b (lt_of_heap hb)).trans hb));have Av:=hid ((Fh.out.trans (Ar.out.mono (by omega))).grown hg5 (by have:=Ar.out.size;omega) (fun k hk=>((Gs.out w4 Ar.out).lt k hk).1))
      clear hr5 ho5 hg5 hat5;refine wpAnyH_ready (rs:=[5]) (by kernel_rfl) (by simp) ?_;refine AllReadyH.cons (o:=⟨some 32,_,_,_,_,_⟩) rfl ?_ AllReadyH.nil;intro Kq hK;refine step_append_run rfl (.tmp 28) (.tmp 31) 59 rfl vc (.slice JB o.code.length cc4) (.slice FW n5 cc5) (by kernel_rfl) (by kernel_rfl) Bs.out ?_;refine hK.out _ _ (Dh.out _ (Aw.out _ _ AV IA.out)) (fun A0=>?_);clear hK Kq
      (try simp only [Act.put,vad,van,vap])
      refine tkl 6 (pq M 0) rfl (by kernel_rfl) (fun _ _ _ h=>h) (fun W hW=>by kernel_rfl) A0 ?_;have hq:=zd0 (Aw.out _ _ Gw.out Hr.out);have Dm:=hq.1;have Dl:=hq.2.1;have E4:=hq.2.2;have Im:M<w5.heap.size:=lt_of_heap (Aw.out _ _ Gw.out Hr.out);clear hq;refine wpAnyH_ready (rs:=[7]) (by kernel_rfl) (by simp) ?_;refine AllReadyH.cons rfl ?_ AllReadyH.nil;intro Kq hK;go_simp;refine hK.out _ _ (Dh.out _ ((heap_set_ne (p:=(qa M 0)) (by show wr.heap.size≠M;omega) _).trans (Aw.out _ _ AV IA.out))) (fun A0=>?_);clear hK Kq Dm Dl E4;refine wpAnyH_done (by kernel_rfl) ?_ _;clear A0;go_simp;generalize E2:w5.setCell (qa M 0) (.slice FW n5 cc5)=w6 at *
      have CN:w6.heap[M]? = some (.cells #[.slice FW n5 cc5,qi (dtL (l.take j))] 81):=by rw [← E2];exact heap_set (Aw.out _ _ Gw.out Hr.out) _
      have GC:w6.heap.size=w5.heap.size:=by rw [← E2];exact vaq ..
      have J2:w6.heap[wr.heap.size]? = X.heap[wr.heap.size]?:=by rw [← E2];exact (heap_set_ne (p:=(qa M 0)) (by show wr.heap.size≠M;omega) _).trans ((Aw.out _ _ AV IA.out).trans AV.symm)
      have IC:Hid (w6.ownsRow w2.heap.size 69 3 (.slice FW n5 cc5) n5 (zen (codeL l j++fxL l o o.fixes.length))):=by rw [← E2];exact zai Bo.out (fun k hk=>heap_set_ne (p:=(qa M 0)) (by show k≠M;intro e;exact Gp.out Ie.out (by have:=Ar.out.size;omega) (by rw [hk,e])) _)
      have Cw:Hid (qb w2 w6):=by rw [← E2];exact Av.out.setCell (p:=(qa M 0)) (by show w2.heap.size<=M;omega) _
      have N8:=hid CN;obtain ⟨m0,m1,mf⟩:=zd0 CN;obtain ⟨e0,e1,e2,e3,e4,e5,e6,_⟩:=zao (J2.trans AV);have LI:=lt_of_heap CN;clear E2 CN J2 e0 e1 e3 e4 e5 e6 AV Im;go_wp2_with fail;go_roundw
      case rel=>exact ⟨j+1,_,by omega,by go_num,by rw [Mb];exact heap_set N8.out _,by rw [Gr.out,vam,N6.out];exact zai IC.out (fun k hk=>heap_set_ne (p:=(qa M 1)) (by show k≠M;intro e;exact Gp.out Ie.out (by have:=Ar.out.size;omega) (by rw [hk,e])) _),Gp.out Ie.out (by have:=Ar.out.size;omega),Cw.out.setCell (p:=(qa M 1)) (by show w2.heap.size<=M;omega) _⟩
      case measure=>simp [intOf];omega
  . obtain rfl:j=l.length:=by omega
    rw [vau] at hm RB;obtain ⟨m0,m1,mf⟩:=zd0 hm;obtain ⟨r0,r1,rf⟩:=zd0 Js.out;have GR:=lt_of_heap Js.out;subst hvc;have Jj:=(zf0 HN.out l.length (vaa _)).2.2;rw [vau] at Jj;have Nu:=hid E9;clear hm hb E9
    by_cases g1:2048<(codeL l l.length).length
    . have HV:Hid (r = .error 2):=Ao.out.trans (if_pos (Or.inl g1))
      have R6:(2048:Int)<((codeL l l.length).length:Int):=by omega
      generalize (codeL l l.length).length=nn at *;clear g1 Jd;go_wp2_with fail;refine bodyPost_ret (v:=.tuple #[.agg #[qs,qi 0],qi 2]) (by simp [results,Tryz.results40,go_sem,r0,r1,GR]) rfl ⟨by rw [HV.out];exact ⟨rfl,by decide⟩,?_⟩;exact (Nu.out.setCell (p:=(qa w.heap.size 0)) (vaa _) _).setCell (p:=(qa w.heap.size 1)) (vaa _) _
    . have R6:¬ ((2048:Int)<((codeL l l.length).length:Int)):=by omega
      by_cases g2:512<dtL l
      . have HV:Hid (r = .error 2):=Ao.out.trans (if_pos (Or.inr g2))
        generalize (codeL l l.length).length=nn at *;generalize dtL l=dd at *;clear g1 Jd;go_wp2_with fail;refine bodyPost_ret (v:=.tuple #[.agg #[qs,qi 0],qi 2]) (by simp [results,Tryz.results40,go_sem,r0,r1,GR]) rfl ⟨by rw [HV.out];exact ⟨rfl,by decide⟩,?_⟩;exact (Nu.out.setCell (p:=(qa w.heap.size 0)) (vaa _) _).setCell (p:=(qa w.heap.size 1)) (vaa _) _
      . have HV:Hid (r = .ok (codeL l l.length,dtL l)):=Ao.out.trans (if_neg (by omega))
        have Rv:=hid (zi3 Fy.out (by omega:w.heap.size<=w2.heap.size))
        have NT:∀ k,(Value.slice ac (codeL l l.length).length cc).ownBlock=some k->k≠w.heap.size:=fun k hk e=>by have:=(Fy.out.lt k hk).1;omega
        have OX:=hid NT;clear NT;generalize Eq:(codeL l l.length).length=nn at *;generalize dtL l=dd at *;clear g1 Jd;go_wp2_with fail;refine bodyPost_ret (v:=.tuple #[.agg #[.slice ac nn cc,qi dd],qi 0]) (by simp [results,Tryz.results40,go_sem,r0,r1,GR]) rfl ⟨?_,?_⟩
        . rw [HV.out]
          refine ⟨_,rfl,?_⟩;rw [Eq];exact zai (zai Rv.out (fun k hk=>heap_set_ne (p:=(qa w.heap.size 0)) (OX.out k hk) _)) (fun k hk=>heap_set_ne (p:=(qa w.heap.size 1)) (OX.out k hk) _)
        . exact (Nu.out.setCell (p:=(qa w.heap.size 0)) (vaa _) _).setCell (p:=(qa w.heap.size 1)) (vaa _) _
end Go.Proofs.YtndkhgakfodldaaGreatDoor
