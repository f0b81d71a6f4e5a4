import Derived.Test.YtndkhgakfodldaaGreatDoorLa
import Derived.Test.YtndkhgakfodldaaGreatDoorRb
namespace Go.Proofs.YtndkhgakfodldaaGreatDoor
set_option maxRecDepth 100000
set_option maxHeartbeats 6400000
open Go.RowKit Go.Maps Go.Sort Go.WideMaps
set_option linter.unusedSimpArgs false
set_option linter.unusedVariables false
def mnO (l:List Ob) (j:Nat):Gi:=match l[j]? with | some o=>⟨13,(l.length:Int)+1+cdL (l.take j)+o.main,0⟩ | none=>⟨0,0,0⟩
def zep (l:List Ob) (j:Nat):List Gi:=(List.range j).map (mnO l)
theorem zkd (l:List Ob) (j:Nat):zep l (j+1)=zep l j++[mnO l j]:=by unfold zep;rw [vdz,vbr];rfl
theorem zmq (l:List Ob) (j:Nat):(zep l j).length=j:=by simp [zep]
theorem z3w {l:List Ob} {j:Nat} (h:j<l.length):mnO l j=⟨13,(l.length:Int)+1+cdL (l.take j)+l[j].main,0⟩:=by unfold mnO;rw [vae h]
theorem zt8 {l:List Ob} (hn:(nmO l).Nodup) {j:Nat} (h:j<l.length):lkO l l[j].name.data.toList l.length=some j:=by
 have h1:=zrv (l:=l) l[j].name.data.toList l.length (vaa _);rw [vau] at h1
 have hm:(nmO l).contains l[j].name.data.toList=true:=by
  rw [vce];exact vch.2 ⟨l[j],vaj h,rfl⟩
 rw [hm] at h1;obtain ⟨i,hi⟩:=Option.isSome_iff_exists.1 h1;obtain ⟨_,hlt,he⟩:=zt5 _ _ _ (vaa _) hi;rw [hi]
 have e1:(nmO l)[i]'(by rw [zn9];exact hlt)=(nmO l)[j]'(by rw [zn9];exact h):=by simpa [nmO] using he
 rw [(List.getElem_inj hn).1 e1]
theorem z8s (a b c d:Value):∀ w:World,(Instr.field 227 (.agg #[a,b,c,d]) 1).run Tryz.prog w = .ok b w:=fun _=>by kernel_rfl
structure MainsB (l:List Ob):Prop where
 main:∀ o ∈ l,0<=o.main/\o.main<=4096
 once:(nmO l).Nodup
theorem zr0 (l:List Ob) (ev:Nat->Value) (a:OA) (cap pb:Nat) (w:World) (hO:OsAt w a l ev) (hN:z6n l) (hP:zjs w pb l ev l.length) (hM:MainsB l) :
 Calls Tryz.prog 103 #[.slice a l.length cap,.map (some pb)] w fun e w'=>∃ v,e = .returned v/\w'.ownsRow w.heap.size 69 3 v (l.length+1) (zen (zep l l.length++[⟨20,0,0⟩]))/\Below w.heap.size w w':=by
 have hbd:=hO.bound;have h4:=hN.1;have HO:=hid hO;have HP:=hid hP;have HN:=hid hN;have HMb:=hid hM;clear hO hP hN hM;go_enter Tryz.func103,Tryz.ntmps103;go_wp2_with fail
 go_loopw [5,7,10] (fun c _ i wr=>∃ j:Nat,j<=l.length/\i = .int .i64 j/\wr.ownsRow w.heap.size 69 3 c j (zen (zep l j))/\Below w.heap.size w wr) (fun _ _ i _=>l.length - (intOf i).toNat)
 case atStart=>exact ⟨0,vag _,rfl,vek _ _ _ _,Below.refl _ _⟩
 case round=>
  obtain ⟨j,hj,rfl,hrow,hb⟩:=hrel;obtain ⟨ca,cc,rfl, -, -⟩:=zal hrow;have HRw:=hid hrow;have HB:=hid hb;clear hrow
  by_cases hlt:j<l.length
  . obtain ⟨b,off,x1,y1,x3,y3,x4,y4,x5,y5,rfl,hlb,c0,c1,c2,c3,c4,c5,c6,ho, -, -⟩:=(HO.out.later hb).get j hlt
    have hwn:=ho.wn
    obtain ⟨X,hX⟩:∃ X,X=wr.alloc (.cells #[.string l[j].name,.slice x1 l[j].uses.length y1,.int .i64 l[j].data,.slice x3 l[j].code.length y3,.slice x4 l[j].fixes.length y4,.slice x5 l[j].entries.length y5,.int .i64 l[j].main] 62):=⟨_,rfl⟩
    have hbX:Below wr.heap.size wr X:=by rw [hX];exact al1 _ _
    have hcX:X.heap[wr.heap.size]? = some (.cells #[.string l[j].name,.slice x1 l[j].uses.length y1,.int .i64 l[j].data,.slice x3 l[j].code.length y3,.slice x4 l[j].fixes.length y4,.slice x5 l[j].entries.length y5,.int .i64 l[j].main] 62):=by rw [hX];exact heap_newP _ _
    have hzX:X.heap.size=wr.heap.size+1:=by rw [hX];simp
    have HX:=hid hX;have hzr:=hb.size;have hlk:=(HP.out.later (thenB hb hbX)).look hwn;rw [zt8 HMb.out.once hlt] at hlk;simp only [Option.elim,pv] at hlk;have HRx:=hid (ownsRow_later HRw.out hbX);have HBX:=hid (thenB hb hbX);have HMn:=hid (z3w hlt)
    have hfit:=(zf0 HN.out j (by omega))
    obtain ⟨hm0,hm1⟩:=HMb.out.main l[j] (vaj hlt);have hcz:=lt_of_heap hcX
    have hcl:∃ z0 z1 z2 z3 z4 z5,X.heap[wr.heap.size]? = some (.cells #[.string l[j].name,z1,z2,z3,z4,z5,.int .i64 l[j].main] 62)/\z0=0:=⟨0,_,_,_,_,_,hcX,rfl⟩
    generalize hev:ev j=ej at *;generalize hnm:l[j].name=nm at *;generalize hmn:l[j].main=mn at *;generalize cdL (l.take j)=cd at *;generalize dtL (l.take j)=dt at *
    have hw1:IntKind.i64.wrap ((l.length:Int)+1+cd+mn)=(l.length:Int)+1+cd+mn:=by simp only [IntKind.wrap,IntKind.bits,IntKind.signed];simp;omega
    have hfd:=z8s (.int .i64 j) (.int .i64 ((l.length:Int)+1+cd)) (.int .i64 dt) ej;clear hbX hX hb;go_upto_region 5 with fail;rw [← HX.out];obtain ⟨d0,d1,d2,d3,d4,d5,d6,_⟩:=zao hcX;clear hcX c0 c1 c2 c3 c4 c5 c6 ho hcl
    go_wp2_with (at_builtin;refine zj6 rfl (.tmp 14) (.tmp 24) 59 rfl w.heap.size 69 _ 3 24 Tryz.underlying59 Tryz.infoInstr rfl (by decide) X (.slice ca j cc) j (zen (zep l j)) rfl HRx.out #[.int .i64 13,.int .i64 ((l.length:Int)+1+cd+mn),.int .i64 0] _ hzX.symm rfl rfl (zrl ⟨13,_,0⟩) (by omega) (by decide) (by omega) _ rfl ?_;intro g cp w1 ho;have HOn:=hid ho;have hzo:=ho.size;clear ho hlk hfd d0 d1 d2 d3 d4 d5 d6)
    go_wp2_with fail;go_roundw
    case rel=>exact ⟨j+1,by omega,by go_num,by rw [zkd,HMn.out,zlu];exact HOn.out.own,HBX.out.trans HOn.out.below⟩
    case measure=>simp [intOf];omega
  . obtain rfl:j=l.length:=by omega
    have hzr:=hb.size;clear hb
    go_wp2_with (at_builtin;refine zj6 rfl (.tmp 27) (.tmp 29) 59 rfl w.heap.size 69 _ 3 24 Tryz.underlying59 Tryz.infoInstr rfl (by decide) wr (.slice ca l.length cc) l.length (zen (zep l l.length)) rfl HRw.out #[.int .i64 20,.int .i64 0,.int .i64 0] _ rfl rfl rfl (zrl ⟨20,0,0⟩) (by omega) (by decide) (by omega) _ rfl ?_;intro g cp w1 ho;have HOn:=hid ho;clear ho)
    go_wp2_with fail;go_ret;exact ⟨_,rfl,by rw [zlu];exact HOn.out.own,HB.out.trans HOn.out.below⟩
theorem zoc (b off j:Nat):(⟨b,off,none⟩:Addr).add j=⟨b,off+j,none⟩:=by unfold Addr.add;split<;>simp_all
theorem zke {α:Type} (f:α->List Value) (n:Nat) (hf:∀ x,(f x).length=n):∀ (l:List α) (i:Nat) (h:i<l.length) (j:Nat),j<n->(l.flatMap f)[i*n+j]? = (f l[i])[j]?
 | [],i,h,_,_=>by simp at h
 | x :: r,0,_,j,hj=>by
   have:=hf x;rw [vbf,vbi,vba,vbb (by omega)]
   rfl
 | x :: r,i+1,h,j,hj=>by
   have:=hf x;rw [vbf,vbd (by rw [Nat.add_mul];omega),vbn,← zke f n hf r i (by simpa using h) j hj]
   congr 1
   rw [Nat.add_mul];omega
theorem zij (w:World) (base:Nat) (ty:TypeId) (v:Value) (xs:List Gi) (hown:w.ownsRow base 69 3 v xs.length (zen xs)) (a:OA) (cap:Nat) (ys:List Gi) (hD:ys.length≠0->∃ b off,a=some ⟨b,off,none⟩/\∀ j (h:j<ys.length),w.cell? ⟨b,off+j*3,none⟩=some (.int .i64 ys[j].op)/\w.cell? ⟨b,off+j*3+1,none⟩=some (.int .i64 ys[j].a)/\w.cell? ⟨b,off+j*3+2,none⟩=some (.int .i64 ys[j].b)) (hb:xs.length+ys.length<=4194304) (hbase:base<=w.heap.size) :
 ∃ v' w',(Builtin.append_ #[59,59] ty #[v,.slice a ys.length cap]).run Tryz.prog w = .ok v' w'/\w'.ownsRow base 69 3 v' (xs.length+ys.length) (zen (xs++ys))/\w.grownBy w' v.ownBlock/\(v'.ownBlock=v.ownBlock\/v'.ownBlock=some w.heap.size):=by
 obtain ⟨i0,hi,hz0,hz1,hz2⟩:=info_parts Tryz.infoInstr
 have key:∀ ad:Addr,(∀ j (u:Value),(zen ys)[j]? = some u->w.cell? (ad.add j)=some u)->∃ v' w',(Builtin.append_ #[59,59] ty #[v,.slice (some ad) ys.length cap]).run Tryz.prog w = .ok v' w'/\w'.ownsRow base 69 3 v' (xs.length+ys.length) (zen (xs++ys))/\w.grownBy w' v.ownBlock/\(v'.ownBlock=v.ownBlock\/v'.ownBlock=some w.heap.size):=by
  intro ad hc
  obtain ⟨v',w',hr,h2,h3,_,h5⟩:=run_append_own_at (P:=Tryz.prog) w base 59 ty 69 i0 _ 3 24 Tryz.underlying59 hi hz0 hz1 hz2 rfl (by omega) v xs.length _ hown ad ys.length cap (zen ys) (zvm ys) hc
   (fun u hu=>by unfold zen at hu;obtain ⟨i,_,h⟩:=List.mem_flatMap.1 hu;exact zrl i u h) (by simp only [maxLen];omega) (by omega) hbase
  refine ⟨v',w',hr,?_,h3,h5⟩
  have:zen (xs++ys)=zen xs++zen ys:=by simp [zen]
  rw [this];exact h2
 by_cases h0:ys.length≠0
 . obtain ⟨b,off,rfl,hc⟩:=hD h0
   refine key ⟨b,off,none⟩ (fun j u hu=>?_)
   have hj:j<ys.length*3:=by rw [← zvm];exact (vcd.1 hu).1
   have h3:j=j / 3*3+j % 3:=by omega
   have hjl:j / 3<ys.length:=by omega
   obtain ⟨d0,d1,d2⟩:=hc (j / 3) hjl;rw [zoc];have hg:(zen ys)[j / 3*3+j % 3]? = (giV ys[j / 3])[j % 3]?:=zke giV 3 (fun _=>rfl) ys (j / 3) hjl (j % 3) (by omega);rw [← h3,hu] at hg
   have hm:j % 3=0\/j % 3=1\/j % 3=2:=by omega
   rcases hm with h | h | h
   . rw [h] at hg;cases hg
     rw [show off+j=off+j / 3*3 by omega];exact d0
   . rw [h] at hg;cases hg
     rw [show off+j=off+j / 3*3+1 by omega];exact d1
   . rw [h] at hg;cases hg
     rw [show off+j=off+j / 3*3+2 by omega];exact d2
 . have hy:ys=[]:=vak (by omega)
   subst hy
   cases a with
   | some ad=>exact key ad (fun j u h=>by simp [zen] at h)
   | none=>
     refine ⟨v,w,?_,by rw [vcl];exact hown,⟨rfl,rfl,rfl,vaa _,fun _ _ _=>rfl⟩,Or.inl rfl⟩
     rcases hown.2 with ⟨rfl,_⟩ | ⟨g,cp,cur,rfl,_,hg,hn,_⟩
     . simp [Builtin.append_,run_underlying Tryz.underlying59,sizeOf,typeInfo,hi,Builtin.lenOf,Builtin.firstCells]
     . simp [Builtin.append_,run_underlying Tryz.underlying59,sizeOf,typeInfo,hi,Builtin.lenOf,Builtin.firstCells,loadCells,storeCells,hn]
set_option maxHeartbeats 12800000
def z63 (l:List Ob) (o:Ob) (f:Gf):Int:=fixV f.kind (aAt o f.at_) ((l.length:Int)+1+cdL (l.take (modO l o f.m))) (dtL (l.take (modO l o f.m))) (entsO l (modO l o f.m))
def fxL (l:List Ob) (o:Ob):Nat->List Gi
 | 0=>o.code
 | j+1=>match o.fixes[j]? with
   | some f=>(fxL l o j).modify f.at_.toNat (zxe (z63 l o f))
   | none=>fxL l o j
theorem zei (l:List Ob) (o:Ob):∀ j,(fxL l o j).length=o.code.length
 | 0=>rfl
 | j+1=>by
   rw [fxL];split
   . rw [List.length_modify];exact zei l o j
   . exact zei l o j
theorem zt9 (l:List Ob) (o:Ob) {j:Nat} (h:j<o.fixes.length):fxL l o (j+1)=(fxL l o j).modify o.fixes[j].at_.toNat (zxe (z63 l o o.fixes[j])):=by
 rw [fxL,vae h]
theorem zr1 (o:Ob) {j:Nat} (h:j<o.fixes.length):lastAt o (j+1)=o.fixes[j].at_:=by rw [lastAt,vae h]
theorem zp1 {o:Ob} (h:oChk o=0) {j:Nat} (hj:j<o.fixes.length):lastAt o j<o.fixes[j].at_:=by
 obtain ⟨_,_,_,hf⟩:=zii h;have:=zba.1 hf j hj;unfold zom at this;rw [vae hj] at this;simp only [vac] at this;exact of_decide_eq_true this.1
theorem zua (l:List Ob) {o:Ob} (h:oChk o=0):∀ (j:Nat) (p:Nat),j<=o.fixes.length->lastAt o j<p->(fxL l o j)[p]? = o.code[p]?
 | 0,p,_,_=>rfl
 | j+1,p,hj,hp=>by
   have hlt:j<o.fixes.length:=by omega
   have h1:=zp1 h hlt;rw [zr1 o hlt] at hp;have h0:=(zkc h hlt).at0
   have hne:o.fixes[j].at_.toNat≠p:=by omega
   rw [zt9 l o hlt,vdg];simp only [if_neg hne,id_map'];exact zua l h j p (by omega) (by omega)
theorem zi3 {w:World} {B B':Nat} {e:TypeId} {sz:Nat} {v:Value} {n:Nat} {xs:List Value} (h:w.ownsRow B e sz v n xs) (hB:B'<=B):w.ownsRow B' e sz v n xs:=by
 refine ⟨h.1,?_⟩
 rcases h.2 with h1 | ⟨g,cap,cur,hv,hb,hg,hr⟩
 . exact Or.inl h1
 . exact Or.inr ⟨g,cap,cur,hv,by omega,hg,hr⟩
theorem zkf {w:World} {B:Nat} {e:TypeId} {sz:Nat} {v:Value} {n:Nat} {xs:List Value} (h:w.ownsRow B e sz v n xs) (hn:0<n):∃ g cap,v = .slice (some ⟨g,0,none⟩) n cap/\B<=g/\g<w.heap.size:=by
 rcases h.2 with ⟨h1,h2⟩ | ⟨g,cap,cur,hv,hb,hg,_⟩
 . omega
 . exact ⟨g,cap,hv,hb,lt_of_heap hg⟩
theorem z4n {w:World} {B g n cap:Nat} {c:List Gi} (h:w.ownsRow B 69 3 (.slice (some ⟨g,0,none⟩) n cap) n (zen c)) (p:Nat) (hp:p<c.length) (hn:c.length=n) :
 w.cell? ⟨g,p*3+1,none⟩=some (.int .i64 c[p].a)/\w.frozen? ⟨g,p*3+1,none⟩=false/\g<w.heap.size/\∀ x,(w.setCell ⟨g,p*3+1,none⟩ (.int .i64 x)).ownsRow B 69 3 (.slice (some ⟨g,0,none⟩) n cap) n (zen (c.modify p (zxe x))):=by
 have hc:=h.cells (g:=g) rfl _ _ (zvn c p hp);rw [zoc,vba] at hc;have hg:g<w.heap.size:=(h.lt g rfl).2;refine ⟨hc,?_,hg,fun x=>?_⟩
 . rcases h.2 with ⟨h1,_⟩ | ⟨g',cap',cur,hv,_,hg,_⟩
   . cases h1
   . cases hv;exact veg hg _
 . have hrow:=ownsRow_set h (p*3+1) (.int .i64 x) (by omega)
   rw [← zpp c p x hp] at hrow;exact hrow
theorem z1d {l:List Ob} (hC:zkb l=true) {i:Nat} (hi:i<l.length) {j:Nat} (hj:j<l[i].fixes.length):zob l l[i] l[i].fixes[j]=true:=by
 have h1:=zba.1 hC i hi;unfold zg2 at h1;rw [vae hi] at h1;have h2:=zba.1 h1 j hj;unfold zft at h2;rw [vae hj] at h2;exact h2
theorem zvs {o:Ob} (h:oChk o=0):∀ x ∈ o.entries,0<=x/\x<=2048:=by
 obtain ⟨hm,_,hc,_⟩:=zii h;unfold zhu at hm;simp only [vat] at hm;have hl:=of_decide_eq_false hm.2.2.2;unfold zfj at hc;simp only [vac] at hc;intro x hx;obtain ⟨i,hi,rfl⟩:=vbl hx;have:=zba.1 hc.2.1 i hi;unfold zsm at this;rw [vae hi] at this;have:=of_decide_eq_true this;omega
theorem zr2 (l:List Ob) (ev:Nat->Value) (a:OA) (pb:Nat) (w:World) (hO:OsAt w a l ev) (hN:z6n l) (hP:zjs w pb l ev l.length) (hR:∀ o ∈ l,oChk o=0) (hF:z1c l) (hC:zkb l=true) (i:Nat) (hi:i<l.length)
 (x1:OA) (y1:Nat) (x3:OA) (y3:Nat) (x4:OA) (y4:Nat) (x5:OA) (y5:Nat) (ho:OvAt w l[i] x1 x3 x4 x5) :
 Calls Tryz.prog 104 #[.map (some pb),obV l[i] x1 y1 x3 y3 x4 y4 x5 y5] w fun e w'=>∃ v,e = .returned v/\w'.ownsRow w.heap.size 69 3 v l[i].code.length (zen (fxL l l[i] l[i].fixes.length))/\Below w.heap.size w w':=by
 have hfb:=ho.fixes.bound;have hcb:=ho.code.bound;have hci:=hN.2 l[i] (vaj hi);have hck:=hR l[i] (vaj hi);have HN:=hid hN;have HO:=hid hO;have HP:=hid hP;have HOv:=hid ho;have HRt:=hid hR;have HFx:=hid (fun (q:Nat) (hq:q<l[i].fixes.length)=>zkc hck hq);have HRi:=hid (fun (q:Nat) (hq:q<l[i].fixes.length)=>zp1 hck hq);have HKp:=hid (fun (q p:Nat) (h1:q<=l[i].fixes.length) (h2:lastAt l[i] q<p)=>zua l hck q p h1 h2);have HFo:=hid (fun (m:Int) (h0:0<=m) (h1:m<=l[i].uses.length)=>zt7 hF hi h0 h1);have HCl:=hid (fun (j:Nat) (hj:j<l[i].fixes.length)=>z1d hC hi hj);have hci1:=hci.1;have hci2:=hci.2.1;clear hO hN hP hR hF hC ho hci hck;generalize l[i]=o at *
 obtain ⟨W,hW⟩:∃ W,W=w.alloc (.cells #[.string o.name,.slice x1 o.uses.length y1,.int .i64 o.data,.slice x3 o.code.length y3,.slice x4 o.fixes.length y4,.slice x5 o.entries.length y5,.int .i64 o.main] 62):=⟨_,rfl⟩
 have hbW:Below w.heap.size w W:=by rw [hW];exact al1 _ _
 have hoW:W.heap[w.heap.size]? = some (.cells #[.string o.name,.slice x1 o.uses.length y1,.int .i64 o.data,.slice x3 o.code.length y3,.slice x4 o.fixes.length y4,.slice x5 o.entries.length y5,.int .i64 o.main] 62):=by rw [hW];exact heap_newP _ _
 have hzW:W.heap.size=w.heap.size+1:=by rw [hW];simp
 have HW:=hid hW;have HbW:=hid hbW;have HoW:=hid hoW
 obtain ⟨v1,w1,hr1,hown,hg1, -⟩:=zij W W.heap.size 59 (.slice none 0 0) [] (vek _ _ _ _) x3 y3 o.code (fun hn=>by
  obtain ⟨cb,co,rfl,_⟩:=(HOv.out.later hbW).code.gi 0 (by omega);refine ⟨cb,co,rfl,fun j hj=>?_⟩;obtain ⟨cb',co',e,hl,i0,i1,i2,_⟩:=(HOv.out.later hbW).code.gi j hj
  cases e
  exact ⟨i0,i1,i2⟩) (by simp;omega) (vaa _)
 rw [List.nil_append,vcv,vba] at hown;obtain ⟨g,cc,rfl,hgB,hgl⟩:=zkf hown (by omega);have HR1:=hid hr1;have HOw:=hid hown
 have hb1:Below (w.heap.size+1) W w1:=by rw [← hzW];exact (Below.refl _ _).grown hg1 (vaa _) (fun k hk=>by simp [Value.ownBlock] at hk)
 have HB1:=hid hb1;have hz1:=hb1.size;obtain ⟨d0,d1,d2,d3,d4,d5,d6,_⟩:=zao hoW;have hlW:=lt_of_heap hoW;clear hr1 hown hg1 hW hbW hoW;go_enter Tryz.func104,Tryz.ntmps104;go_upto_region 1 with fail;rw [← HW.out];clear HW
 go_wp2_with (at_builtin;refine Lib.wpList_append_run _ rfl _ _ _ _ rfl _ _ rfl rfl _ w1 HR1.out ?_;clear d0 d1 d2 d3 d4 d5 d6;have d4:=(zao ((HB1.out.block _ (Nat.lt_succ_self _)).trans HoW.out)).2.2.2.2.1)
 clear d4
 go_loopw [7,14] (fun _ i wr=>∃ j:Nat,j<=o.fixes.length/\i = .int .i64 j/\wr.ownsRow (w.heap.size+1) 69 3 (.slice (some ⟨g,0,none⟩) o.code.length cc) o.code.length (zen (fxL l o j))/\Below (w.heap.size+1) W wr) (fun _ i _=>o.fixes.length - (intOf i).toNat)
 case atStart=>exact ⟨0,vag _,rfl,by rw [← hzW];exact HOw.out,HB1.out⟩
 case round=>
  obtain ⟨j,hj,rfl,hrow,hb⟩:=hrel;have HRw:=hid hrow;have HB:=hid hb;have hbw:Below w.heap.size w wr:=HbW.out.trans (hb.mono (by omega));have HBw:=hid hbw;have hobx:=(hb.block _ (Nat.lt_succ_self _)).trans HoW.out;have hgl2:=(hrow.lt g rfl).2;have hgl1:=(hrow.lt g rfl).1;clear hrow
  by_cases hlt:j<o.fixes.length
  . obtain ⟨fb,fo,rfl,hfx⟩:=((HOv.out.later hbw).fixes).gf j hlt
    obtain ⟨fr1,fr2,fr3,fr4,fr5,fr6,fr7⟩:=HFx.out j hlt;obtain ⟨hmk,hmlt⟩:=HFo.out o.fixes[j].m fr6 fr7;obtain ⟨hfl,g0,g1,g2, -, -, -⟩:=hfx;have HNm:=hid (zxp (o:=o) fr6 fr7);have HSc:=hid (zt9 l o hlt);have HCb:=hid (HCl.out j hlt);have hul:=HOv.out.uses.bound;have hrs:=HRi.out j hlt;generalize o.fixes[j]=f at *
    obtain ⟨p,hp⟩:∃ p:Nat,f.at_=p:=⟨f.at_.toNat,by omega⟩
    have hpc:p<o.code.length:=by omega
    have hpx:p<(fxL l o j).length:=by rw [zei];exact hpc
    have hkeep:=HKp.out j p (by omega) (by omega)
    have HAa:Hid (aAt o f.at_=(fxL l o j)[p].a):=by
     have:(fxL l o j)[p]=o.code[p]:=by
      rw [vae hpx,vae hpc] at hkeep;exact vab hkeep
     show aAt o f.at_=_;rw [this,hp];exact z3v hpc
    have hpi:(p:Int)<o.code.length:=by omega
    rw [HAa.out] at fr4 fr5;rw [hp] at g0
    obtain ⟨X,hX⟩:∃ X,X=wr.alloc (.cells #[.int .i64 p,.int .i64 f.kind,.int .i64 f.m] 67):=⟨_,rfl⟩
    have hbX:Below wr.heap.size wr X:=by rw [hX];exact al1 _ _
    have HX:=hid hX
    have hzX:X.heap.size=wr.heap.size+1:=by rw [hX];simp
    have hfxb:X.heap[wr.heap.size]? = some (.cells #[.int .i64 p,.int .i64 f.kind,.int .i64 f.m] 67):=by rw [hX];exact heap_newP _ _
    have hobX:=(hbX.block _ (lt_of_heap hobx)).trans hobx;have hoxl:=lt_of_heap hobX;have hfxl:=lt_of_heap hfxb;have HbX:=hid hbX
    have HHk:=hid (fun (W:World) (hW:W.heap[w.heap.size]? = X.heap[w.heap.size]?/\W.heap[wr.heap.size]? = X.heap[wr.heap.size]?)=>(by
     obtain ⟨e0,e1,e2,e3,e4,e5,e6,_⟩:=zao (hW.1.trans hobX);obtain ⟨q0,q1,q2⟩:=zxq (hW.2.trans hfxb)
     exact ⟨e0,e1,e2,e3,e4,e5,e6,q0,q1,q2⟩:W.cell? ⟨w.heap.size,0,none⟩=some (.string o.name)/\W.cell? ⟨w.heap.size,1,none⟩=some (.slice x1 o.uses.length y1)/\W.cell? ⟨w.heap.size,2,none⟩=some (.int .i64 o.data)/\W.cell? ⟨w.heap.size,3,none⟩=some (.slice x3 o.code.length y3)/\W.cell? ⟨w.heap.size,4,none⟩=some (.slice (some ⟨fb,fo,none⟩) o.fixes.length y4)/\W.cell? ⟨w.heap.size,5,none⟩=some (.slice x5 o.entries.length y5)/\W.cell? ⟨w.heap.size,6,none⟩=some (.int .i64 o.main)/\W.cell? ⟨wr.heap.size,0,none⟩=some (.int .i64 p)/\W.cell? ⟨wr.heap.size,1,none⟩=some (.int .i64 f.kind)/\W.cell? ⟨wr.heap.size,2,none⟩=some (.int .i64 f.m)))
    have HS:=hid (fun W (hW:Below X.heap.size X W)=>HHk.out W ⟨hW.block _ hoxl,hW.block _ hfxl⟩);have HBX:=hid (hbw.trans (hbX.mono hbw.size));obtain ⟨_,_,_,_,_,_,_,_,xk,yk, -, -, -, -, -, -, -, -, -,hok, -,hek⟩:=HO.out.get (modO l o f.m) hmlt;rw [← zjt hmlt] at hek;have HM:=hid (fun W (hW:Below X.heap.size X W)=>zi2 l ev pb W (HP.out.later (thenB HBX.out hW)) o x1 y1 x3 y3 (some ⟨fb,fo,none⟩) y4 x5 y5 (HOv.out.later (thenB HBX.out hW)) f.m _ HNm.out _ hmk xk _ yk hek);have hkb:=hok.entries.bound;have hfit:=zf0 HN.out (modO l o f.m) (by omega);have hl4:=HN.out.1;have hme:=HRt.out _ (vaj hmlt)
    have HEn:Hid (∀ x ∈ entsO l (modO l o f.m),0<=x/\x<=2048):=by
     rw [zjt hmlt];exact zvs hme
    have HE2:Hid (f.kind=2->(fxL l o j)[p].a<(entsO l (modO l o f.m)).length):=fun k2=>by
     have h1:zob l o f=true:=HCb.out;unfold zob at h1;rw [HAa.out] at h1;simp [k2] at h1;exact h1
    have HF:=hid (fun W (hW:Below X.heap.size X W)=>zxo (modO l o f.m) ((l.length:Int)+1+cdL (l.take (modO l o f.m))) (dtL (l.take (modO l o f.m))) f.kind (fxL l o j)[p].a (entsO l (modO l o f.m)) xk yk W (by rw [zjt hmlt];exact hok.entries.later (thenB HBX.out hW)) (by omega) (by omega) ⟨fr4,fr5⟩ HE2.out HEn.out)
    have HFa:Hid (z63 l o f=fixV f.kind (fxL l o j)[p].a ((l.length:Int)+1+cdL (l.take (modO l o f.m))) (dtL (l.take (modO l o f.m))) (entsO l (modO l o f.m))):=by show z63 l o f=_;unfold z63;rw [HAa.out]
    have HRx:=hid (ownsRow_later HRw.out hbX);have HCd:=hid (fun W (hW:Below X.heap.size X W)=>z4n (ownsRow_later HRx.out hW) p hpx (zei l o j));have hek2:=hek;clear hek2 hok hek hmk hbX hX hobX hobx hfxb hb hbw hme hkeep hrs fr1 fr2 fr6 fr7;generalize fixV f.kind (fxL l o j)[p].a ((l.length:Int)+1+cdL (l.take (modO l o f.m))) (dtL (l.take (modO l o f.m))) (entsO l (modO l o f.m))=fv at *;generalize (fxL l o j)[p].a=A at *;generalize entsO l (modO l o f.m)=es at *;generalize hmo:modO l o f.m=mo at *;go_upto_region 5 with fail;rw [← HX.out];refine wp_region_held_drew (S:=(fun W=>W.cell? ⟨w.heap.size,0,none⟩=some (.string o.name)/\W.cell? ⟨w.heap.size,1,none⟩=some (.slice x1 o.uses.length y1)/\W.cell? ⟨w.heap.size,2,none⟩=some (.int .i64 o.data)/\W.cell? ⟨w.heap.size,3,none⟩=some (.slice x3 o.code.length y3)/\W.cell? ⟨w.heap.size,4,none⟩=some (.slice (some ⟨fb,fo,none⟩) o.fixes.length y4)/\W.cell? ⟨w.heap.size,5,none⟩=some (.slice x5 o.entries.length y5)/\W.cell? ⟨w.heap.size,6,none⟩=some (.int .i64 o.main)/\W.cell? ⟨wr.heap.size,0,none⟩=some (.int .i64 p)/\W.cell? ⟨wr.heap.size,1,none⟩=some (.int .i64 f.kind)/\W.cell? ⟨wr.heap.size,2,none⟩=some (.int .i64 f.m))) (by kernel_rfl) (HS.out _ (zlz X)) (fun hHeld=>?_)
    refine tkl 0 (.slice (some ⟨g,0,none⟩) o.code.length cc) rfl (by kernel_rfl) (fun _ _ _ h=>h) (fun W hW=>by kernel_rfl) hHeld ?_;refine tkl 1 (.pointer (some ⟨wr.heap.size,0,none⟩)) rfl (by kernel_rfl) (fun _ _ _ h=>h) (fun W hW=>by kernel_rfl) hHeld ?_;refine tkl 2 (.int .i64 p) rfl (by kernel_rfl) (fun _ _ _ h=>h) (fun W hW=>by obtain ⟨s0,s1,s2,s3,s4,s5,s6,s7,s8,s9⟩:=hW;go_simp) hHeld ?_;refine tkl 3 (.map (some pb)) rfl (by kernel_rfl) (fun _ _ _ h=>h) (fun W hW=>by kernel_rfl) hHeld ?_;refine tkl 4 (.agg #[.string o.name,.slice x1 o.uses.length y1,.int .i64 o.data,.slice x3 o.code.length y3,.slice (some ⟨fb,fo,none⟩) o.fixes.length y4,.slice x5 o.entries.length y5,.int .i64 o.main]) rfl (by kernel_rfl) (fun _ _ _ h=>h) (fun W hW=>by obtain ⟨s0,s1,s2,s3,s4,s5,s6,s7,s8,s9⟩:=hW;go_simp) hHeld ?_;refine tkl 5 (.pointer (some ⟨wr.heap.size,2,none⟩)) rfl (by kernel_rfl) (fun _ _ _ h=>h) (fun W hW=>by kernel_rfl) hHeld ?_
    refine tkl 6 (.int .i64 f.m) rfl (by kernel_rfl) (fun _ _ _ h=>h) (fun W hW=>by obtain ⟨s0,s1,s2,s3,s4,s5,s6,s7,s8,s9⟩:=hW;go_simp) hHeld ?_;refine tkl 8 (.pointer (some ⟨wr.heap.size,1,none⟩)) rfl (by kernel_rfl) (fun _ _ _ h=>h) (fun W hW=>by kernel_rfl) hHeld ?_;refine tkl 9 (.int .i64 f.kind) rfl (by kernel_rfl) (fun _ _ _ h=>h) (fun W hW=>by obtain ⟨s0,s1,s2,s3,s4,s5,s6,s7,s8,s9⟩:=hW;go_simp) hHeld ?_;refine tkl 10 (.slice (some ⟨g,0,none⟩) o.code.length cc) rfl (by kernel_rfl) (fun _ _ _ h=>h) (fun W hW=>by kernel_rfl) hHeld ?_;refine tkl 11 (.pointer (some ⟨wr.heap.size,0,none⟩)) rfl (by kernel_rfl) (fun _ _ _ h=>h) (fun W hW=>by kernel_rfl) hHeld ?_;refine tkl 12 (.int .i64 p) rfl (by kernel_rfl) (fun _ _ _ h=>h) (fun W hW=>by obtain ⟨s0,s1,s2,s3,s4,s5,s6,s7,s8,s9⟩:=hW;go_simp) hHeld ?_;refine tkl 13 (.pointer (some ⟨g,p*3,none⟩)) rfl (by kernel_rfl) (fun _ _ _ h=>h) (fun W hW=>by go_simp) hHeld ?_
    refine tkl 14 (.pointer (some ⟨g,p*3+1,none⟩)) rfl (by kernel_rfl) (fun _ _ _ h=>h) (fun W hW=>by kernel_rfl) hHeld ?_;have hl0:=(HCd.out _ (zlz X)).1
    (try simp only [Act.put,vad,van,vap])
    refine wpAnyH_ready (rs:=[7,15]) (by kernel_rfl) (by simp) ?_;refine AllReadyH.cons rfl ?_ (AllReadyH.cons rfl ?_ AllReadyH.nil)
    . intro Kq hK
      clear hl0;go_simp
      go_wp2_with (go_at_call 146;refine (HM.out _ (zlz X)).mono ?_;rintro e w7 ⟨rfl,hb7⟩)
      have HB7:=hid (thenB (zlz X) hb7);refine hK.out _ _ (HS.out _ HB7.out) (fun hHeld=>?_);clear hK Kq hb7
      (try simp only [Act.put,vad,van,vap])
      have hl0:=(HCd.out _ HB7.out).1;refine wpAnyH_ready (rs:=[15]) (by kernel_rfl) (by simp) ?_;refine AllReadyH.cons rfl ?_ AllReadyH.nil;intro Kq hK;go_simp;refine hK.out _ _ (HS.out _ HB7.out) (fun hHeld=>?_);clear hK Kq hl0
      (try simp only [Act.put,vad,van,vap])
      refine wpAnyH_ready (rs:=[16]) (by kernel_rfl) (by simp) ?_;refine AllReadyH.cons rfl ?_ AllReadyH.nil;intro Kq hK;go_simp
      go_wp2_with (go_at_call 147;refine (HF.out _ HB7.out).mono ?_;rintro e w8 ⟨rfl,hb8⟩)
      have HB8:=hid (thenB HB7.out hb8);refine hK.out _ _ (HS.out _ HB8.out) (fun hHeld=>?_);clear hK Kq hb8
      (try simp only [Act.put,vad,van,vap])
      refine tkl 17 (.pointer (some ⟨g,p*3,none⟩)) rfl (by kernel_rfl) (fun _ _ _ h=>h) (fun W hW=>by go_simp) hHeld ?_;refine tkl 18 (.pointer (some ⟨g,p*3+1,none⟩)) rfl (by kernel_rfl) (fun _ _ _ h=>h) (fun W hW=>by kernel_rfl) hHeld ?_;have hq:=HCd.out _ HB8.out;have hq0:=hq.1;have hq1:=hq.2.1;have hq2:=hq.2.2.1;clear hq;refine wpAnyH_ready (rs:=[19]) (by kernel_rfl) (by simp) ?_;refine AllReadyH.cons rfl ?_ AllReadyH.nil;intro Kq hK;go_simp;refine hK.out _ _ (HHk.out _ ⟨(heap_set_ne (p:=⟨g,p*3+1,none⟩) (by show w.heap.size≠g;omega) _).trans (HB8.out.block _ hoxl),(heap_set_ne (p:=⟨g,p*3+1,none⟩) (by show wr.heap.size≠g;omega) _).trans (HB8.out.block _ hfxl)⟩) (fun hHeld=>?_);clear hK Kq hq0 hq1 hq2;refine wpAnyH_done (by kernel_rfl) ?_ _;clear hHeld;go_simp;have hz9:=HB8.out.size;clear HM HF HS HHk;go_wp2_with fail;go_roundw
      case rel=>exact ⟨j+1,by omega,by go_num,by rw [HSc.out,HFa.out,hp];exact (HCd.out _ HB8.out).2.2.2 fv,(HB.out.trans ((HbX.out.trans (HB8.out.mono (by omega))).mono (by omega))).setCell (p:=⟨g,p*3+1,none⟩) (by show w.heap.size+1<=g;omega) _⟩
      case measure=>simp [intOf];omega
    . intro Kq hK
      go_simp;refine hK.out _ _ (HS.out _ (zlz X)) (fun hHeld=>?_);clear hK Kq hl0
      (try simp only [Act.put,vad,van,vap])
      refine wpAnyH_ready (rs:=[7]) (by kernel_rfl) (by simp) ?_;refine AllReadyH.cons rfl ?_ AllReadyH.nil;intro Kq hK;go_simp
      go_wp2_with (go_at_call 146;refine (HM.out _ (zlz X)).mono ?_;rintro e w7 ⟨rfl,hb7⟩)
      have HB7:=hid (thenB (zlz X) hb7);refine hK.out _ _ (HS.out _ HB7.out) (fun hHeld=>?_);clear hK Kq hb7
      (try simp only [Act.put,vad,van,vap])
      refine wpAnyH_ready (rs:=[16]) (by kernel_rfl) (by simp) ?_;refine AllReadyH.cons rfl ?_ AllReadyH.nil;intro Kq hK;go_simp
      go_wp2_with (go_at_call 147;refine (HF.out _ HB7.out).mono ?_;rintro e w8 ⟨rfl,hb8⟩)
      have HB8:=hid (thenB HB7.out hb8);refine hK.out _ _ (HS.out _ HB8.out) (fun hHeld=>?_);clear hK Kq hb8
      (try simp only [Act.put,vad,van,vap])
      refine tkl 17 (.pointer (some ⟨g,p*3,none⟩)) rfl (by kernel_rfl) (fun _ _ _ h=>h) (fun W hW=>by go_simp) hHeld ?_;refine tkl 18 (.pointer (some ⟨g,p*3+1,none⟩)) rfl (by kernel_rfl) (fun _ _ _ h=>h) (fun W hW=>by kernel_rfl) hHeld ?_;have hq:=HCd.out _ HB8.out;have hq0:=hq.1;have hq1:=hq.2.1;have hq2:=hq.2.2.1;clear hq;refine wpAnyH_ready (rs:=[19]) (by kernel_rfl) (by simp) ?_;refine AllReadyH.cons rfl ?_ AllReadyH.nil;intro Kq hK;go_simp;refine hK.out _ _ (HHk.out _ ⟨(heap_set_ne (p:=⟨g,p*3+1,none⟩) (by show w.heap.size≠g;omega) _).trans (HB8.out.block _ hoxl),(heap_set_ne (p:=⟨g,p*3+1,none⟩) (by show wr.heap.size≠g;omega) _).trans (HB8.out.block _ hfxl)⟩) (fun hHeld=>?_);clear hK Kq hq0 hq1 hq2;refine wpAnyH_done (by kernel_rfl) ?_ _;clear hHeld;go_simp;have hz9:=HB8.out.size;clear HM HF HS HHk;go_wp2_with fail;go_roundw
      case rel=>exact ⟨j+1,by omega,by go_num,by rw [HSc.out,HFa.out,hp];exact (HCd.out _ HB8.out).2.2.2 fv,(HB.out.trans ((HbX.out.trans (HB8.out.mono (by omega))).mono (by omega))).setCell (p:=⟨g,p*3+1,none⟩) (by show w.heap.size+1<=g;omega) _⟩
      case measure=>simp [intOf];omega
  . obtain rfl:j=o.fixes.length:=by omega
    have hz:=hb.size;clear hobx hbw;go_wp2_with fail;go_ret;exact ⟨_,rfl,zi3 HRw.out (by omega),HbW.out.trans (HB.out.mono (by omega))⟩
set_option maxHeartbeats 6400000
def zgx:List Ob->Int
 | []=>0
 | o :: r=>if oChk o≠0 then oChk o else zgx r
theorem zkg:∀ l:List Ob,(∀ i (h:i<l.length),oChk l[i]=0)->zgx l=0
 | [],_=>rfl
 | o :: r,h=>by
   have h0:oChk o=0:=h 0 (by simp);unfold zgx;rw [if_neg (by rw [h0];exact fun e=>e rfl)];exact zkg r (fun i hi=>h (i+1) (by simpa using hi))
theorem zp2:∀ (l:List Ob) (j:Nat) (hj:j<l.length),(∀ i (h:i<j),oChk l[i]=0)->oChk l[j]≠0->zgx l=oChk l[j]
 | o :: r,0,_,_,hn=>by
   unfold zgx;rw [if_pos (show oChk o≠0 from hn)]
   rfl
 | o :: r,j+1,hj,h,hn=>by
   have h0:oChk o=0:=h 0 (by omega);unfold zgx;rw [if_neg (by rw [h0];exact fun e=>e rfl)];exact zp2 r j (by simpa using hj) (fun i hi=>h (i+1) (by omega)) hn
theorem zmr:∀ {l:List Ob},zgx l=0->∀ o ∈ l,oChk o=0
 | o :: r,h,x,hx=>by
   unfold zgx at h
   by_cases h0:oChk o=0
   . rw [if_neg (by rw [h0];exact fun e=>e rfl)] at h
     rcases vca.1 hx with rfl | hx
     . exact h0
     . exact zmr h x hx
   . rw [if_pos h0] at h
     exact absurd h h0
def lnChk (l:List Ob):Int:=if l.length<1\/4<l.length then 2 else if zgx l≠0 then zgx l else if ¬ (nmO l).Nodup then 6 else if zka l=false then 9 else if zkb l=false then 5 else 0
theorem zxr {o:Ob} (h:oChk o=0):1<=o.code.length/\o.code.length<=2048/\0<=o.data/\o.data<=512:=by
 obtain ⟨hm,_,hc,_⟩:=zii h;unfold zhu at hm;simp only [vat] at hm;have h1:=of_decide_eq_false hm.2.2.1;have h2:=of_decide_eq_false hm.2.2.2;unfold zfj zyn at hc;simp only [vac] at hc;have h3:=of_decide_eq_true hc.2.2.2;omega
theorem z4o {o:Ob} (h:oChk o=0):0<=o.main/\o.main<o.code.length:=by
 obtain ⟨hm,_,hc,_⟩:=zii h;unfold zfj zyn at hc;simp only [vac] at hc;exact of_decide_eq_true hc.2.2.1
theorem zr3 {l:List Ob} (h4:l.length<=4) (h:∀ o ∈ l,oChk o=0):z6n l:=⟨h4,fun o ho=>zxr (h o ho)⟩
theorem zub {l:List Ob} (hn:(nmO l).Nodup) (ha:zka l=true):z1c l:=fun i hi m h0 h1=>by
 unfold zry
 by_cases hm:m=0
 . rw [if_pos hm,zt8 hn hi];rfl
 . rw [if_neg hm]
   have h2:=zba.1 ha i hi;unfold zj9 at h2;rw [vae hi] at h2
   have hk:(m - 1).toNat<l[i].uses.length:=by omega
   have h3:=vas.1 h2 l[i].uses[(m - 1).toNat] (vaj hk);rw [vay,vae hk];show (lkO l (l[i].uses[(m - 1).toNat]).data.toList l.length).isSome=true;unfold zi1 at h3
   cases e:lkO l (l[i].uses[(m - 1).toNat]).data.toList l.length with
   | none=>rw [e] at h3;cases h3
   | some k=>rfl
theorem zkh (l:List Ob) (ev:Nat->Value) (a:OA) (cap:Nat) (w:World) (hO:OsAt w a l ev) :
 Calls Tryz.prog 43 #[.slice a l.length cap] w fun e w'=>e = .returned (.int .i64 (lnChk l))/\Below w.heap.size w w':=by
 have hbd:=hO.bound;have HO:=hid hO;clear hO
 obtain ⟨r,hr⟩:∃ r,r=lnChk l:=⟨_,rfl⟩
 rw [← hr];unfold lnChk at hr;have HR:=hid hr;clear hr;go_enter Tryz.func43,Tryz.ntmps43
 by_cases h1:l.length<1
 . have HV:Hid (r=2):=HR.out.trans (if_pos (Or.inl h1))
   have h1i:(l.length:Int)<1:=by omega
   have h4i:¬ (4<(l.length:Int)):=by omega
   go_wp2_with fail;go_ret;exact ⟨by rw [HV.out];rfl,Below.refl _ _⟩
 by_cases h4:4<l.length
 . have HV:Hid (r=2):=HR.out.trans (if_pos (Or.inr h4))
   have h1i:¬ ((l.length:Int)<1):=by omega
   have h4i:(4:Int)<(l.length:Int):=by omega
   go_wp2_with fail;go_ret;exact ⟨by rw [HV.out];rfl,Below.refl _ _⟩
 have HR2:=hid (HR.out.trans (if_neg (by omega)))
 have h1i:¬ ((l.length:Int)<1):=by omega
 have h4i:¬ (4<(l.length:Int)):=by omega
 go_wp2_with fail;clear h1i h4i
 go_loopw [4,5,17] (fun _ _ i wr=>∃ j:Nat,j<=l.length/\i = .int .i64 j/\(∀ k (h:k<l.length),k<j->oChk l[k]=0)/\Below w.heap.size w wr) (fun _ _ i _=>l.length - (intOf i).toNat)
 case atStart=>exact ⟨0,vag _,rfl,fun k _ h=>absurd h (vck _),Below.refl _ _⟩
 case round=>
  obtain ⟨j,hj,rfl,hall,hb⟩:=hrel;have HA:=hid hall;have HB:=hid hb;clear hall
  by_cases hlt:j<l.length
  . obtain ⟨b,off,x1,y1,x3,y3,x4,y4,x5,y5,rfl,hlb,c0,c1,c2,c3,c4,c5,c6,ho,hcp, -⟩:=(HO.out.later hb).get j hlt
    have HC:=hid (zqo l[j] x1 y1 x3 y3 x4 y4 x5 y5 (wr.alloc (.cells #[.string l[j].name,.slice x1 l[j].uses.length y1,.int .i64 l[j].data,.slice x3 l[j].code.length y3,.slice x4 l[j].fixes.length y4,.slice x5 l[j].entries.length y5,.int .i64 l[j].main] 62)) (ho.later (al1 _ _)) hcp);clear ho hcp hb;go_wp2_with fail;refine HC.out.mono ?_;rintro e w2 ⟨rfl,hb2⟩;have HB2:=hid (thenB HB.out (thenB (al1 wr _) hb2));clear hb2 HC c0 c1 c2 c3 c4 c5 c6
    by_cases hz:oChk l[j]=0
    . have HA2:Hid (∀ k (h:k<l.length),k<j+1->oChk l[k]=0):=fun k h hk=>by
       by_cases he:k=j
       . subst he;exact hz
       . exact HA.out k h (by omega)
      go_wp2_with fail;go_roundw
      case rel=>exact ⟨j+1,by omega,by go_num,HA2.out,HB2.out⟩
      case measure=>simp [intOf];omega
    . have HV:Hid (r=oChk l[j]):=by
       have he:=zp2 l j hlt (fun k hk=>HA.out k (by omega) hk) hz;show r=_;rw [HR2.out,if_pos (by rw [he];exact hz),he]
      generalize oChk l[j]=z at *;go_wp2_with fail;go_ret;exact ⟨by rw [HV.out];rfl,HB2.out⟩
  . obtain rfl:j=l.length:=by omega
    have hall:∀ o ∈ l,oChk o=0:=fun o ho=>by
     obtain ⟨i,hi,rfl⟩:=vbl ho;exact HA.out i hi hi
    have HE:=hid hall;have HN:=hid (zr3 (by omega) hall);have HR3:=hid (HR2.out.trans (if_neg (by rw [zkg l (fun i h=>HA.out i h h)];exact fun e=>e rfl)));have HPl:=hid (zi0 l ev a cap wr (HO.out.later hb) HN.out);clear hall HR2 HA hb;go_wp2_with fail;refine HPl.out.mono ?_;rintro e w2 ⟨pb,rfl,hP,hb2⟩;have HB2:=hid (thenB HB.out hb2);have HP:=hid hP;obtain ⟨m,hm,hm1,hm2⟩:=hP.len;have HAh:=hid (zrw l ev a cap pb w2 (HO.out.later HB2.out) (by omega) hP);have HFo:=hid (fun (hn:(nmO l).Nodup) (ha:zka l=true) W (hW:Below w2.heap.size w2 W)=>zrz l ev a cap pb W (HO.out.later (thenB HB2.out hW)) (by omega) (HP.out.later hW) HE.out (zub hn ha));clear hP hb2 HPl
    by_cases hn:(nmO l).Nodup
    . obtain rfl:=hm1 hn
      have hmi:¬ ((l.length:Int)<(l.length:Int)):=by omega
      have HR4:=hid (HR3.out.trans (if_neg (fun h=>h hn)));have HNd:=hid hn;clear hm1 hm2 hn HR3;go_wp2_with fail;refine HAh.out.mono ?_;rintro e w3 ⟨rfl,hb3⟩;have HB3:=hid hb3;clear hb3 HAh hm
      cases ha:zka l with
      | false=>
        have HV:Hid (r=9):=HR4.out.trans (if_pos ha);clear ha;go_wp2_with fail;go_ret;exact ⟨by rw [HV.out];rfl,thenB HB2.out HB3.out⟩
      | true=>
        have HR5:=hid (HR4.out.trans (if_neg (by rw [ha];decide)));have HC:=hid (HFo.out HNd.out ha w3 HB3.out);clear ha;go_wp2_with fail;refine HC.out.mono ?_;rintro e w4 ⟨rfl,hb4⟩;have HB4:=hid (thenB HB3.out hb4);clear hb4 HC
        cases hc:zkb l with
        | false=>
          have HV:Hid (r=5):=HR5.out.trans (if_pos hc);clear hc;go_wp2_with fail;go_ret;exact ⟨by rw [HV.out];rfl,thenB HB2.out HB4.out⟩
        | true=>
          have HV:Hid (r=0):=HR5.out.trans (if_neg (by rw [hc];decide));clear hc;go_wp2_with fail;go_ret;exact ⟨by rw [HV.out];rfl,thenB HB2.out HB4.out⟩
    . have hlm:=hm2 hn
      have hmi:(m:Int)<(l.length:Int):=by omega
      have HV:Hid (r=6):=HR3.out.trans (if_pos hn);clear hm1 hm2 hn HR3 HAh HFo;go_wp2_with fail;go_ret;exact ⟨by rw [HV.out];rfl,HB2.out⟩
set_option maxHeartbeats 12800000
def codeL (l:List Ob) (j:Nat):List Gi:=(zep l l.length++[⟨20,0,0⟩])++(l.take j).flatMap (fun o=>fxL l o o.fixes.length)
theorem zik (l:List Ob) {j:Nat} (h:j<l.length):codeL l (j+1)=codeL l j++fxL l l[j] l[j].fixes.length:=by
 unfold codeL;rw [vaf h,vdk];simp
theorem zki (l:List Ob):∀ j,j<=l.length->((codeL l j).length:Int)=l.length+1+cdL (l.take j)
 | 0,_=>by simp [codeL,zmq,cdL]
 | j+1,h=>by
   have ih:=zki l j (by omega);rw [zik l (by omega:j<l.length),vam,zei,zjr (by omega:j<l.length)];omega
def zxs (l:List Ob):Except Int (List Gi × Int):=if lnChk l≠0 then .error (lnChk l) else if 2048<(codeL l l.length).length\/512<dtL l then .error 2 else .ok (codeL l l.length,dtL l)
def z4p (lo:Nat) (r:Except Int (List Gi × Int)) (e:Ending) (w:World):Prop:=
 match r with
 | .error c=>e = .returned (.tuple #[.agg #[.slice none 0 0,.int .i64 0],.int .i64 c])/\c≠0
 | .ok (c,d)=>∃ v,e = .returned (.tuple #[.agg #[v,.int .i64 d],.int .i64 0])/\w.ownsRow lo 69 3 v c.length (zen c)
theorem zuc {l:List Ob} (h:lnChk l=0):1<=l.length/\l.length<=4/\(∀ o ∈ l,oChk o=0)/\(nmO l).Nodup/\zka l=true/\zkb l=true:=by
 unfold lnChk at h
 split at h
 . cases h
 . rename_i h1
   split at h
   . rename_i h2;exact absurd h h2
   . rename_i h2
     split at h
     . cases h
     . rename_i h3
       split at h
       . cases h
       . rename_i h4
         split at h
         . cases h
         . rename_i h5
           exact ⟨by omega,by omega,zmr (by simpa using h2),by simpa using h3,by simpa using h4,by simpa using h5⟩
theorem zd0 {w:World} {b:Nat} {x0 x1:Value} {t:TypeId} (h:w.heap[b]? = some (.cells #[x0,x1] t (0,0))):w.cell? ⟨b,0,none⟩=some x0/\w.cell? ⟨b,1,none⟩=some x1/\∀ i,w.frozen? ⟨b,i,none⟩=false:=by
 refine ⟨?_,?_,fun i=>veg h i⟩<;>(rw [vef h];rfl)
theorem zkj {w:World} {B:Nat} {a:OA} {cap:Nat} {c:List Gi} (h:w.ownsRow B 69 3 (.slice a c.length cap) c.length (zen c)) (hn:c.length≠0):∃ b off,a=some ⟨b,off,none⟩/\∀ j (hj:j<c.length),w.cell? ⟨b,off+j*3,none⟩=some (.int .i64 c[j].op)/\w.cell? ⟨b,off+j*3+1,none⟩=some (.int .i64 c[j].a)/\w.cell? ⟨b,off+j*3+2,none⟩=some (.int .i64 c[j].b):=by
 obtain ⟨g,cap',e,_,_⟩:=zkf h (by omega)
 injection e with e1 _ _
 subst e1;refine ⟨g,0,rfl,fun j hj=>?_⟩
 have hc:∀ k,k<3->∀ u,(giV c[j])[k]? = some u->w.cell? ⟨g,j*3+k,none⟩=some u:=fun k hk u hu=>by
  have:=h.cells (g:=g) rfl (j*3+k) u ((zke giV 3 (fun _=>rfl) c j hj k hk).trans hu);rwa [zoc,vba] at this
 rw [vba];exact ⟨hc 0 (by omega) _ rfl,hc 1 (by omega) _ rfl,hc 2 (by omega) _ rfl⟩
theorem zod (l:List Ob) (ev:Nat->Value) (a:OA) (cap:Nat) (w:World) (hO:OsAt w a l ev) :
 Calls Tryz.prog 40 #[.slice a l.length cap] w fun e w'=>z4p w.heap.size (zxs l) e w'/\Below w.heap.size w w':=by
 have hbd:=hO.bound;have HO:=hid hO;have HC:=hid (zkh l ev a cap (w.alloc (.cells #[.slice none 0 0,.int .i64 0] 81)) (hO.later (al1 _ _)));clear hO
 obtain ⟨r,hr⟩:∃ r,r=zxs l:=⟨_,rfl⟩
 rw [← hr];unfold zxs at hr;have HR:=hid hr;clear hr;go_enter Tryz.func40,Tryz.ntmps40;go_wp2_with fail;refine HC.out.mono ?_;rintro e w1 ⟨rfl,hb1⟩;have HB1:=hid (thenB (al1 w _) hb1);have P0:=hid ((hb1.block w.heap.size (by simp)).trans (heap_newP w (.cells #[.slice none 0 0,.int .i64 0] 81)));have hz1:=hb1.size;simp at hz1;obtain ⟨r0,r1,rf⟩:=zd0 P0.out;have hlr:=lt_of_heap P0.out;clear hb1 HC
 by_cases he:lnChk l=0
 rotate_left
 . have HV:Hid (r = .error (lnChk l)):=HR.out.trans (if_pos he)
   generalize lnChk l=z at *;have HNe:=hid he;go_wp2_with fail;refine bodyPost_ret (v:=.tuple #[.agg #[.slice none 0 0,.int .i64 0],.int .i64 z]) (by simp [results,Tryz.results40,go_sem,r0,r1,hlr]) rfl ⟨by rw [HV.out];exact ⟨rfl,HNe.out⟩,?_⟩;exact (HB1.out.setCell (p:=⟨w.heap.size,0,none⟩) (vaa _) _).setCell (p:=⟨w.heap.size,1,none⟩) (vaa _) _
 obtain ⟨k1,k2,k3,k4,k5,k6⟩:=zuc he;have HR2:=hid (HR.out.trans (if_neg (fun h=>h he)));have HE:=hid k3;have HN:=hid (zr3 k2 k3);have HNd:=hid k4;have HFd:=hid (zub k4 k5);have HCl:=hid k6
 have HMb:Hid (MainsB l):=⟨fun o ho=>by have:=z4o (k3 o ho);have:=zxr (k3 o ho);omega,k4⟩
 have HPl:=hid (zi0 l ev a cap w1 (HO.out.later HB1.out) HN.out);rw [he];clear HR k3 k4 k5 k6 he;go_wp2_with fail;refine HPl.out.mono ?_;rintro e w2 ⟨pb,rfl,hP,hb2⟩;have HB2:=hid (thenB HB1.out hb2);have HP:=hid hP;have hz2:=hb2.size;have P1:=hid ((hb2.block _ hlr).trans P0.out);have HMn:=hid (zr0 l ev a cap pb w2 (HO.out.later HB2.out) HN.out hP HMb.out);clear hP hb2 HPl r0 r1 rf;go_wp2_with fail;refine HMn.out.mono ?_;rintro e w3 ⟨v3,rfl,ho3,hb3⟩;obtain ⟨a3,c3,rfl, -, -⟩:=zal ho3;have HO3:=hid ho3;have hz3:=hb3.size
 have hl3:=fun k hk=>(ho3.lt k hk).2
 obtain ⟨M,hM⟩:∃ M,M=w3.heap.size:=⟨_,rfl⟩
 obtain ⟨W,hW⟩:∃ W,W=w3.alloc (.cells #[.slice a3 (l.length+1) c3,.int .i64 0] 81):=⟨_,rfl⟩
 have hbW:Below w3.heap.size w3 W:=by rw [hW];exact al1 _ _
 have HbW:=hid hbW;have HW:=hid hW
 have HMW:Hid (W.heap[M]? = some (.cells #[.slice a3 (l.length+1) c3,.int .i64 0] 81)):=by rw [hM,hW];exact heap_newP _ _
 have HBW:=hid (hb3.trans (hbW.mono hz3))
 have HMn2:Hid (∀ k,(Value.slice a3 (l.length+1) c3).ownBlock=some k->k≠M):=fun k hk e=>by have:=hl3 k hk;omega
 have hzW:W.heap.size=M+1:=by rw [hW,hM];simp
 have hMz:w2.heap.size<=M:=by omega
 have hMr:w.heap.size<M:=by omega
 have HM0:=hid hM;clear ho3 hb3 HMn hW hbW hl3;go_upto_region 6 with fail;rw [← HW.out,← hM];clear HW hM;go_wp2_with fail
 go_loopw [8,23] (fun _ i wr=>∃ (j:Nat) (vc:Value),j<=l.length/\i = .int .i64 j/\wr.heap[M]? = some (.cells #[vc,.int .i64 (dtL (l.take j))] 81 (0,0))/\wr.ownsRow w2.heap.size 69 3 vc (codeL l j).length (zen (codeL l j))/\vc.ownBlock≠some M/\Below w2.heap.size w2 wr) (fun _ i _=>l.length - (intOf i).toNat)
 case atStart=>
  refine ⟨0,_,vag _,rfl,HMW.out,?_,fun h=>HMn2.out _ h rfl,HBW.out⟩
  have e1:codeL l 0=zep l l.length++[⟨20,0,0⟩]:=by simp [codeL]
  have e2:(codeL l 0).length=l.length+1:=by rw [e1];simp [zmq]
  rw [e2,e1];exact ownsRow_later HO3.out HbW.out
 case round=>
  obtain ⟨j,vc,hj,rfl,hm,hrow,hvm,hb⟩:=hrel;have HVm:=hid hvm;have HB:=hid hb;have HMr:=hid hm;have HRw:=hid hrow;have hMl:=lt_of_heap hm;have hbw:=thenB HB2.out hb;have hfit:=zf0 HN.out j hj;have hlc:=zki l j hj;have hP2:=hid ((hb.block _ (vah (lt_of_heap P1.out) (vaa _))).trans P1.out);obtain ⟨ac,cc,hvc, -, -⟩:=zal hrow;clear hvm hrow
  by_cases hlt:j<l.length
  . obtain ⟨b,off,x1,y1,x3,y3,x4,y4,x5,y5,rfl,hlb,c0,c1,c2,c3',c4,c5,c6,ho, -, -⟩:=(HO.out.later hbw).get j hlt
    clear hvc;have hlt2:=hlt;have hci:=HN.out.2 l[j] (vaj hlt);have hci1:=hci.1;have hci2:=hci.2.1;have hci3:=hci.2.2.1;have hci4:=hci.2.2.2;have hdt:=zn8 hlt
    obtain ⟨o,ho'⟩:∃ o,o=l[j]:=⟨_,rfl⟩
    have HSc:=hid (zik l hlt)
    obtain ⟨X,hX⟩:∃ X,X=wr.alloc (.cells #[.string o.name,.slice x1 o.uses.length y1,.int .i64 o.data,.slice x3 o.code.length y3,.slice x4 o.fixes.length y4,.slice x5 o.entries.length y5,.int .i64 o.main] 62):=⟨_,rfl⟩
    have hbX:Below wr.heap.size wr X:=by rw [hX];exact al1 _ _
    have HX:=hid hX
    have hzX:X.heap.size=wr.heap.size+1:=by rw [hX];simp
    have hobX:X.heap[wr.heap.size]? = some (.cells #[.string o.name,.slice x1 o.uses.length y1,.int .i64 o.data,.slice x3 o.code.length y3,.slice x4 o.fixes.length y4,.slice x5 o.entries.length y5,.int .i64 o.main] 62):=by rw [hX];exact heap_newP _ _
    have HHk:=hid (fun (W':World) (hW:W'.heap[wr.heap.size]? = some (.cells #[.string o.name,.slice x1 o.uses.length y1,.int .i64 o.data,.slice x3 o.code.length y3,.slice x4 o.fixes.length y4,.slice x5 o.entries.length y5,.int .i64 o.main] 62))=>(by
     obtain ⟨e0,e1,e2,e3,e4,e5,e6,_⟩:=zao hW
     exact ⟨e0,e1,e2,e3,e4,e5,e6⟩:W'.cell? ⟨wr.heap.size,0,none⟩=some (.string o.name)/\W'.cell? ⟨wr.heap.size,1,none⟩=some (.slice x1 o.uses.length y1)/\W'.cell? ⟨wr.heap.size,2,none⟩=some (.int .i64 o.data)/\W'.cell? ⟨wr.heap.size,3,none⟩=some (.slice x3 o.code.length y3)/\W'.cell? ⟨wr.heap.size,4,none⟩=some (.slice x4 o.fixes.length y4)/\W'.cell? ⟨wr.heap.size,5,none⟩=some (.slice x5 o.entries.length y5)/\W'.cell? ⟨wr.heap.size,6,none⟩=some (.int .i64 o.main)))
    have HS:=hid (fun W' (hW:Below X.heap.size X W')=>HHk.out W' ((hW.block _ (lt_of_heap hobX)).trans hobX));have HBX:=hid (hb.trans (hbX.mono hb.size));have HMx:=hid ((hbX.block _ hMl).trans hm);have HMc:=hid (fun W' (hW:Below X.heap.size X W')=>zd0 ((hW.block _ (lt_of_heap HMx.out)).trans HMx.out));have HRx:=hid (fun W' (hW:Below X.heap.size X W')=>ownsRow_later (ownsRow_later HRw.out hbX) hW)
    have HVo:Hid (vc.ownBlock≠some wr.heap.size):=fun h=>by have:=(HRw.out.lt _ h).2;omega
    have HV5:Hid (∀ {v5:Value} {n:Nat},(v5.ownBlock=vc.ownBlock\/v5.ownBlock=some n)->n≠M->v5.ownBlock≠some M):=fun h hn e=>h.elim (fun h=>HVm.out (h.symm.trans e)) (fun h=>hn (vab (h.symm.trans e)))
    have HFx:=hid (fun W' (hW:Below X.heap.size X W')=>zr2 l ev (some ⟨b,off,none⟩) pb W' (HO.out.later (thenB (thenB HB2.out (hb.trans (hbX.mono hb.size))) hW)) HN.out (HP.out.later (thenB (hb.trans (hbX.mono hb.size)) hW)) HE.out HFd.out HCl.out j hlt x1 y1 x3 y3 x4 y4 x5 y5 ((ho.later hbX).later hW));rw [← ho'] at HFx hci1 hci2 hci3 hci4 hdt HSc c0 c1 c2 c3' c4 c5 c6;clear ho hm hci;clear ho' hbX hX hb hbw;go_upto_region 9 with fail;rw [← HX.out];refine wp_region_held_drew (S:=(fun W'=>W'.cell? ⟨wr.heap.size,0,none⟩=some (.string o.name)/\W'.cell? ⟨wr.heap.size,1,none⟩=some (.slice x1 o.uses.length y1)/\W'.cell? ⟨wr.heap.size,2,none⟩=some (.int .i64 o.data)/\W'.cell? ⟨wr.heap.size,3,none⟩=some (.slice x3 o.code.length y3)/\W'.cell? ⟨wr.heap.size,4,none⟩=some (.slice x4 o.fixes.length y4)/\W'.cell? ⟨wr.heap.size,5,none⟩=some (.slice x5 o.entries.length y5)/\W'.cell? ⟨wr.heap.size,6,none⟩=some (.int .i64 o.main))) (by kernel_rfl) (HS.out _ (zlz X)) (fun hHeld=>?_)
    refine tkl 0 (.pointer (some ⟨M,0,none⟩)) rfl (by kernel_rfl) (fun _ _ _ h=>h) (fun W hW=>by kernel_rfl) hHeld ?_;refine tkl 2 (.map (some pb)) rfl (by kernel_rfl) (fun _ _ _ h=>h) (fun W hW=>by kernel_rfl) hHeld ?_;refine tkl 3 (.agg #[.string o.name,.slice x1 o.uses.length y1,.int .i64 o.data,.slice x3 o.code.length y3,.slice x4 o.fixes.length y4,.slice x5 o.entries.length y5,.int .i64 o.main]) rfl (by kernel_rfl) (fun _ _ _ h=>h) (fun W hW=>by obtain ⟨s0,s1,s2,s3,s4,s5,s6⟩:=hW;go_simp) hHeld ?_;have hm0:=(HMc.out _ (zlz X)).1
    (try simp only [Act.put,vad,van,vap])
    refine wpAnyH_ready (rs:=[1,4]) (by kernel_rfl) (by simp) ?_;refine AllReadyH.cons rfl ?_ (AllReadyH.cons rfl ?_ AllReadyH.nil)
    . intro Kq hK
      go_simp;refine hK.out _ _ (HS.out _ (zlz X)) (fun hHeld=>?_);clear hK Kq hm0
      (try simp only [Act.put,vad,van,vap])
      refine wpAnyH_ready (rs:=[4]) (by kernel_rfl) (by simp) ?_;refine AllReadyH.cons rfl ?_ AllReadyH.nil;intro Kq hK;go_simp
      go_wp2_with (go_at_call 104;refine (HFx.out _ (zlz X)).mono ?_;rintro e w4 ⟨v4,rfl,ho4,hb4⟩)
      have HB4:=hid (thenB (zlz X) hb4);have HO4:=hid ho4;refine hK.out _ _ (HS.out _ HB4.out) (fun hHeld=>?_);clear hK Kq hb4 ho4
      (try simp only [Act.put,vad,van,vap])
      obtain ⟨ca4,cc4,rfl, -, -⟩:=zal HO4.out;obtain ⟨v5,w5,hr5,ho5,hg5,hat5⟩:=zij w4 w2.heap.size 59 vc (codeL l j) (HRx.out w4 HB4.out) ca4 cc4 (fxL l o o.fixes.length) (zkj (by rw [zei];exact HO4.out)) (by rw [zei];omega) (by have:=HB4.out.size;omega);rw [zei] at hr5;obtain ⟨ca5,cc5,rfl, -, -⟩:=zal ho5;generalize hN5:(codeL l j).length+(fxL l o o.fixes.length).length=n5 at *;have HN5:=hid hN5;clear hN5;have HR5:=hid hr5;have HO5:=hid ho5;have HG5:=hid hg5;have HA5:=hid hat5;have hz5:=hg5.size;have HK5:=hid (fun (b:Nat) (x:Obj) (hb:X.heap[b]? = some x) (hn:vc.ownBlock≠some b)=>(hg5.block b (vah (lt_of_heap hb) HB4.out.size) (Ne.symm hn)).trans ((HB4.out.block b (lt_of_heap hb)).trans hb));have HB5:=hid ((HBX.out.trans (HB4.out.mono (by omega))).grown hg5 (by have:=HB4.out.size;omega) (fun k hk=>((HRx.out w4 HB4.out).lt k hk).1))
      clear hr5 ho5 hg5 hat5;refine wpAnyH_ready (rs:=[5]) (by kernel_rfl) (by simp) ?_;refine AllReadyH.cons (o:=⟨some 32,_,_,_,_,_⟩) rfl ?_ AllReadyH.nil;intro Kq hK;refine step_append_run rfl (.tmp 28) (.tmp 31) 59 rfl vc (.slice ca4 o.code.length cc4) (.slice ca5 n5 cc5) (by kernel_rfl) (by kernel_rfl) HR5.out ?_;refine hK.out _ _ (HHk.out _ (HK5.out _ _ hobX HVo.out)) (fun hHeld=>?_);clear hK Kq
      (try simp only [Act.put,vad,van,vap])
      refine tkl 6 (.pointer (some ⟨M,0,none⟩)) rfl (by kernel_rfl) (fun _ _ _ h=>h) (fun W hW=>by kernel_rfl) hHeld ?_;have hq:=zd0 (HK5.out _ _ HMx.out HVm.out);have hq0:=hq.1;have hq1:=hq.2.1;have hq2:=hq.2.2;have hq3:M<w5.heap.size:=lt_of_heap (HK5.out _ _ HMx.out HVm.out);clear hq;refine wpAnyH_ready (rs:=[7]) (by kernel_rfl) (by simp) ?_;refine AllReadyH.cons rfl ?_ AllReadyH.nil;intro Kq hK;go_simp;refine hK.out _ _ (HHk.out _ ((heap_set_ne (p:=⟨M,0,none⟩) (by show wr.heap.size≠M;omega) _).trans (HK5.out _ _ hobX HVo.out))) (fun hHeld=>?_);clear hK Kq hq0 hq1 hq2;refine wpAnyH_done (by kernel_rfl) ?_ _;clear hHeld;go_simp;generalize hw6:w5.setCell ⟨M,0,none⟩ (.slice ca5 n5 cc5)=w6 at *
      have hm6:w6.heap[M]? = some (.cells #[.slice ca5 n5 cc5,.int .i64 (dtL (l.take j))] 81):=by rw [← hw6];exact heap_set (HK5.out _ _ HMx.out HVm.out) _
      have hz6:w6.heap.size=w5.heap.size:=by rw [← hw6];exact vaq ..
      have ho6:w6.heap[wr.heap.size]? = X.heap[wr.heap.size]?:=by rw [← hw6];exact (heap_set_ne (p:=⟨M,0,none⟩) (by show wr.heap.size≠M;omega) _).trans ((HK5.out _ _ hobX HVo.out).trans hobX.symm)
      have HO6:Hid (w6.ownsRow w2.heap.size 69 3 (.slice ca5 n5 cc5) n5 (zen (codeL l j++fxL l o o.fixes.length))):=by rw [← hw6];exact zai HO5.out (fun k hk=>heap_set_ne (p:=⟨M,0,none⟩) (by show k≠M;intro e;exact HV5.out HA5.out (by have:=HB4.out.size;omega) (by rw [hk,e])) _)
      have HB6:Hid (Below w2.heap.size w2 w6):=by rw [← hw6];exact HB5.out.setCell (p:=⟨M,0,none⟩) (by show w2.heap.size<=M;omega) _
      have HM6:=hid hm6;obtain ⟨m0,m1,mf⟩:=zd0 hm6;obtain ⟨e0,e1,e2,e3,e4,e5,e6,_⟩:=zao (ho6.trans hobX);have hml:=lt_of_heap hm6;clear hw6 hm6 ho6 e0 e1 e3 e4 e5 e6 hobX hq3;go_wp2_with fail;go_roundw
      case rel=>exact ⟨j+1,_,by omega,by go_num,by rw [hdt];exact heap_set HM6.out _,by rw [HSc.out,vam,HN5.out];exact zai HO6.out (fun k hk=>heap_set_ne (p:=⟨M,1,none⟩) (by show k≠M;intro e;exact HV5.out HA5.out (by have:=HB4.out.size;omega) (by rw [hk,e])) _),HV5.out HA5.out (by have:=HB4.out.size;omega),HB6.out.setCell (p:=⟨M,1,none⟩) (by show w2.heap.size<=M;omega) _⟩
      case measure=>simp [intOf];omega
    . intro Kq hK
      clear hm0;go_simp
      go_wp2_with (go_at_call 104;refine (HFx.out _ (zlz X)).mono ?_;rintro e w4 ⟨v4,rfl,ho4,hb4⟩)
      have HB4:=hid (thenB (zlz X) hb4);have HO4:=hid ho4;refine hK.out _ _ (HS.out _ HB4.out) (fun hHeld=>?_);clear hK Kq hb4 ho4
      (try simp only [Act.put,vad,van,vap])
      have hm0:=(HMc.out _ HB4.out).1;refine wpAnyH_ready (rs:=[1]) (by kernel_rfl) (by simp) ?_;refine AllReadyH.cons rfl ?_ AllReadyH.nil;intro Kq hK;go_simp;refine hK.out _ _ (HS.out _ HB4.out) (fun hHeld=>?_);clear hK Kq hm0
      (try simp only [Act.put,vad,van,vap])
      obtain ⟨ca4,cc4,rfl, -, -⟩:=zal HO4.out;obtain ⟨v5,w5,hr5,ho5,hg5,hat5⟩:=zij w4 w2.heap.size 59 vc (codeL l j) (HRx.out w4 HB4.out) ca4 cc4 (fxL l o o.fixes.length) (zkj (by rw [zei];exact HO4.out)) (by rw [zei];omega) (by have:=HB4.out.size;omega);rw [zei] at hr5;obtain ⟨ca5,cc5,rfl, -, -⟩:=zal ho5;generalize hN5:(codeL l j).length+(fxL l o o.fixes.length).length=n5 at *;have HN5:=hid hN5;clear hN5;have HR5:=hid hr5;have HO5:=hid ho5;have HG5:=hid hg5;have HA5:=hid hat5;have hz5:=hg5.size;have HK5:=hid (fun (b:Nat) (x:Obj) (hb:X.heap[b]? = some x) (hn:vc.ownBlock≠some b)=>(hg5.block b (vah (lt_of_heap hb) HB4.out.size) (Ne.symm hn)).trans ((HB4.out.block b (lt_of_heap hb)).trans hb));have HB5:=hid ((HBX.out.trans (HB4.out.mono (by omega))).grown hg5 (by have:=HB4.out.size;omega) (fun k hk=>((HRx.out w4 HB4.out).lt k hk).1))
      clear hr5 ho5 hg5 hat5;refine wpAnyH_ready (rs:=[5]) (by kernel_rfl) (by simp) ?_;refine AllReadyH.cons (o:=⟨some 32,_,_,_,_,_⟩) rfl ?_ AllReadyH.nil;intro Kq hK;refine step_append_run rfl (.tmp 28) (.tmp 31) 59 rfl vc (.slice ca4 o.code.length cc4) (.slice ca5 n5 cc5) (by kernel_rfl) (by kernel_rfl) HR5.out ?_;refine hK.out _ _ (HHk.out _ (HK5.out _ _ hobX HVo.out)) (fun hHeld=>?_);clear hK Kq
      (try simp only [Act.put,vad,van,vap])
      refine tkl 6 (.pointer (some ⟨M,0,none⟩)) rfl (by kernel_rfl) (fun _ _ _ h=>h) (fun W hW=>by kernel_rfl) hHeld ?_;have hq:=zd0 (HK5.out _ _ HMx.out HVm.out);have hq0:=hq.1;have hq1:=hq.2.1;have hq2:=hq.2.2;have hq3:M<w5.heap.size:=lt_of_heap (HK5.out _ _ HMx.out HVm.out);clear hq;refine wpAnyH_ready (rs:=[7]) (by kernel_rfl) (by simp) ?_;refine AllReadyH.cons rfl ?_ AllReadyH.nil;intro Kq hK;go_simp;refine hK.out _ _ (HHk.out _ ((heap_set_ne (p:=⟨M,0,none⟩) (by show wr.heap.size≠M;omega) _).trans (HK5.out _ _ hobX HVo.out))) (fun hHeld=>?_);clear hK Kq hq0 hq1 hq2;refine wpAnyH_done (by kernel_rfl) ?_ _;clear hHeld;go_simp;generalize hw6:w5.setCell ⟨M,0,none⟩ (.slice ca5 n5 cc5)=w6 at *
      have hm6:w6.heap[M]? = some (.cells #[.slice ca5 n5 cc5,.int .i64 (dtL (l.take j))] 81):=by rw [← hw6];exact heap_set (HK5.out _ _ HMx.out HVm.out) _
      have hz6:w6.heap.size=w5.heap.size:=by rw [← hw6];exact vaq ..
      have ho6:w6.heap[wr.heap.size]? = X.heap[wr.heap.size]?:=by rw [← hw6];exact (heap_set_ne (p:=⟨M,0,none⟩) (by show wr.heap.size≠M;omega) _).trans ((HK5.out _ _ hobX HVo.out).trans hobX.symm)
      have HO6:Hid (w6.ownsRow w2.heap.size 69 3 (.slice ca5 n5 cc5) n5 (zen (codeL l j++fxL l o o.fixes.length))):=by rw [← hw6];exact zai HO5.out (fun k hk=>heap_set_ne (p:=⟨M,0,none⟩) (by show k≠M;intro e;exact HV5.out HA5.out (by have:=HB4.out.size;omega) (by rw [hk,e])) _)
      have HB6:Hid (Below w2.heap.size w2 w6):=by rw [← hw6];exact HB5.out.setCell (p:=⟨M,0,none⟩) (by show w2.heap.size<=M;omega) _
      have HM6:=hid hm6;obtain ⟨m0,m1,mf⟩:=zd0 hm6;obtain ⟨e0,e1,e2,e3,e4,e5,e6,_⟩:=zao (ho6.trans hobX);have hml:=lt_of_heap hm6;clear hw6 hm6 ho6 e0 e1 e3 e4 e5 e6 hobX hq3;go_wp2_with fail;go_roundw
      case rel=>exact ⟨j+1,_,by omega,by go_num,by rw [hdt];exact heap_set HM6.out _,by rw [HSc.out,vam,HN5.out];exact zai HO6.out (fun k hk=>heap_set_ne (p:=⟨M,1,none⟩) (by show k≠M;intro e;exact HV5.out HA5.out (by have:=HB4.out.size;omega) (by rw [hk,e])) _),HV5.out HA5.out (by have:=HB4.out.size;omega),HB6.out.setCell (p:=⟨M,1,none⟩) (by show w2.heap.size<=M;omega) _⟩
      case measure=>simp [intOf];omega
  . obtain rfl:j=l.length:=by omega
    rw [vau] at hm HMr;obtain ⟨m0,m1,mf⟩:=zd0 hm;obtain ⟨r0,r1,rf⟩:=zd0 hP2.out;have hlr2:=lt_of_heap hP2.out;subst hvc;have hfitD:=(zf0 HN.out l.length (vaa _)).2.2;rw [vau] at hfitD;have HBe:=hid hbw;clear hm hb hbw
    by_cases g1:2048<(codeL l l.length).length
    . have HV:Hid (r = .error 2):=HR2.out.trans (if_pos (Or.inl g1))
      have g1i:(2048:Int)<((codeL l l.length).length:Int):=by omega
      generalize (codeL l l.length).length=nn at *;clear g1 hlc;go_wp2_with fail;refine bodyPost_ret (v:=.tuple #[.agg #[.slice none 0 0,.int .i64 0],.int .i64 2]) (by simp [results,Tryz.results40,go_sem,r0,r1,hlr2]) rfl ⟨by rw [HV.out];exact ⟨rfl,by decide⟩,?_⟩;exact (HBe.out.setCell (p:=⟨w.heap.size,0,none⟩) (vaa _) _).setCell (p:=⟨w.heap.size,1,none⟩) (vaa _) _
    . have g1i:¬ ((2048:Int)<((codeL l l.length).length:Int)):=by omega
      by_cases g2:512<dtL l
      . have HV:Hid (r = .error 2):=HR2.out.trans (if_pos (Or.inr g2))
        generalize (codeL l l.length).length=nn at *;generalize dtL l=dd at *;clear g1 hlc;go_wp2_with fail;refine bodyPost_ret (v:=.tuple #[.agg #[.slice none 0 0,.int .i64 0],.int .i64 2]) (by simp [results,Tryz.results40,go_sem,r0,r1,hlr2]) rfl ⟨by rw [HV.out];exact ⟨rfl,by decide⟩,?_⟩;exact (HBe.out.setCell (p:=⟨w.heap.size,0,none⟩) (vaa _) _).setCell (p:=⟨w.heap.size,1,none⟩) (vaa _) _
      . have HV:Hid (r = .ok (codeL l l.length,dtL l)):=HR2.out.trans (if_neg (by omega))
        have HRz:=hid (zi3 HRw.out (by omega:w.heap.size<=w2.heap.size))
        have hvb:∀ k,(Value.slice ac (codeL l l.length).length cc).ownBlock=some k->k≠w.heap.size:=fun k hk e=>by have:=(HRw.out.lt k hk).1;omega
        have HVb:=hid hvb;clear hvb;generalize hnn:(codeL l l.length).length=nn at *;generalize dtL l=dd at *;clear g1 hlc;go_wp2_with fail;refine bodyPost_ret (v:=.tuple #[.agg #[.slice ac nn cc,.int .i64 dd],.int .i64 0]) (by simp [results,Tryz.results40,go_sem,r0,r1,hlr2]) rfl ⟨?_,?_⟩
        . rw [HV.out]
          refine ⟨_,rfl,?_⟩;rw [hnn];exact zai (zai HRz.out (fun k hk=>heap_set_ne (p:=⟨w.heap.size,0,none⟩) (HVb.out k hk) _)) (fun k hk=>heap_set_ne (p:=⟨w.heap.size,1,none⟩) (HVb.out k hk) _)
        . exact (HBe.out.setCell (p:=⟨w.heap.size,0,none⟩) (vaa _) _).setCell (p:=⟨w.heap.size,1,none⟩) (vaa _) _
end Go.Proofs.YtndkhgakfodldaaGreatDoor
