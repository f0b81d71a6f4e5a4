import Derived.Test.YtndkhgakfodldaaGreatDoorDx
namespace Go.Proofs.YtndkhgakfodldaaGreatDoor
set_option maxRecDepth 100000
open Go.RowKit Go.Shelf Go.Maps Go.WideMaps
set_option linter.unusedSimpArgs false
set_option linter.unusedVariables false
theorem Tryz.infoSl:(Tryz.prog.info? 49).map (fun i=>(i.zero,i.size,i.bytes))=some (some (.slice none 0 0),1,24):=by kernel_rfl
theorem zff.moves {w w':World} {b n:Nat} {L:Lc} (h:zff w b n L) (hb:w'.heap[b]? = w.heap[b]?):zff w' b n L:=by
 obtain ⟨D,⟨es,clock,hh,r⟩,k⟩:=h;exact ⟨D,⟨es,clock,hb.trans hh,r⟩,k⟩
theorem zff.has {w w':World} {b n:Nat} {L:Lc} (h:zff w b n L) (hb:∀ x,w.heap[b]? = some x->w'.heap[b]? = some x):zff w' b n L:=by
 obtain ⟨D,⟨es,clock,hh,r⟩,k⟩:=h;exact ⟨D,⟨es,clock,hb _ hh,r⟩,k⟩
theorem zou {w:World} {B C:Nat} {e:TypeId} {sz:Nat} {v:Value} {n:Nat} {xs:List Value} (h:w.ownsRow B e sz v n xs) (hc:C<=B):w.ownsRow C e sz v n xs:=by
 refine ⟨h.1,?_⟩
 rcases h.2 with h1 | ⟨g,cap,cur,hv,hb,hr⟩
 . exact Or.inl h1
 . exact Or.inr ⟨g,cap,cur,hv,vav hc hb,hr⟩
structure Nr (S0:Nat) (wr:World) (rs:List (List Nat)) (bs:List Int) (vn vb:Value) (vs:List Value):Prop where
 on:wr.ownsRow S0 49 1 vn rs.length vs
 ob:wr.ownsRow S0 3 1 vb bs.length (intV bs)
 ap:Apt vn vb
 vl:vs.length=rs.length
 rw:∀ i (h:i<rs.length) (h':i<vs.length),wr.ownsRow S0 3 1 vs[i] rs[i].length (intV (natI rs[i]))/\Apt vs[i] vn/\Apt vs[i] vb
theorem Nr.keep {S0:Nat} {wr w':World} {rs:List (List Nat)} {bs:List Int} {vn vb:Value} {vs:List Value} (h:Nr S0 wr rs bs vn vb vs) (hk:∀ b,S0<=b->b<wr.heap.size->w'.heap[b]? = wr.heap[b]?):Nr S0 w' rs bs vn vb vs:=
 ⟨zbg h.on (fun k e=>hk k (h.on.lt k e).1 (h.on.lt k e).2),zbg h.ob (fun k e=>hk k (h.ob.lt k e).1 (h.ob.lt k e).2),h.ap,h.vl,fun i h1 h2=>⟨zbg (h.rw i h1 h2).1 (fun k e=>hk k ((h.rw i h1 h2).1.lt k e).1 ((h.rw i h1 h2).1.lt k e).2),(h.rw i h1 h2).2⟩⟩
theorem Nr.addN {S0 g cap:Nat} {w w':World} {rs:List (List Nat)} {bs:List Int} {vn vb vr:Value} {vs:List Value} {r:List Nat} (h:Nr S0 w rs bs vn vb vs) (ho:w'.ownsRow S0 49 1 (.slice (some ⟨g,0,none⟩) (rs.length+1) cap) (rs.length+1) (vs++[vr]))
 (hk:∀ (b2:Nat) (e2:TypeId) (z2 n2:Nat) (u:Value) (ys:List Value),w.ownsRow b2 e2 z2 u n2 ys->Apt u vn->w'.ownsRow b2 e2 z2 u n2 ys/\Apt u (.slice (some ⟨g,0,none⟩) (rs.length+1) cap)) (hr:w.ownsRow S0 3 1 vr r.length (intV (natI r))) (h1:Apt vr vn) (h2:Apt vr vb):Nr S0 w' (rs++[r]) bs (.slice (some ⟨g,0,none⟩) (rs.length+1) cap) vb (vs++[vr]):=by
 have hb:=hk _ _ _ _ _ _ h.ob h.ap.symm;refine ⟨by rw [vag];exact ho,hb.1,hb.2.symm,by rw [vag,vag,h.vl];rfl,fun i h3 h4=>?_⟩;rw [vag,vbg] at h3
 rcases vbe i rs.length with hlt | hge
 . have h5:i<vs.length:=by rw [h.vl];exact hlt
   rw [vau hlt,vau h5];have:=hk _ _ _ _ _ _ (h.rw i hlt h5).1 (h.rw i hlt h5).2.1;exact ⟨this.1,this.2,(h.rw i hlt h5).2.2⟩
 . obtain rfl:i=rs.length:=by omega
   have:=hk _ _ _ _ _ _ hr h1;simp only [vcs]
   have e:(vs++[vr])[rs.length]'h4=vr:=by simp [← h.vl]
   rw [e];exact ⟨this.1,this.2,h2⟩
theorem Nr.addB {S0 g cap:Nat} {w w':World} {rs:List (List Nat)} {bs:List Int} {vn vb:Value} {vs:List Value} {x:Int} (h:Nr S0 w rs bs vn vb vs) (ho:w'.ownsRow S0 3 1 (.slice (some ⟨g,0,none⟩) (bs.length+1) cap) (bs.length+1) (intV bs++[.int .i64 x]))
 (hk:∀ (b2:Nat) (e2:TypeId) (z2 n2:Nat) (u:Value) (ys:List Value),w.ownsRow b2 e2 z2 u n2 ys->Apt u vb->w'.ownsRow b2 e2 z2 u n2 ys/\Apt u (.slice (some ⟨g,0,none⟩) (bs.length+1) cap)):Nr S0 w' rs (bs++[x]) vn (.slice (some ⟨g,0,none⟩) (bs.length+1) cap) vs:=by
 have hn:=hk _ _ _ _ _ _ h.on h.ap;refine ⟨hn.1,by rw [vag,zmp];exact ho,hn.2,h.vl,fun i h3 h4=>?_⟩;have:=hk _ _ _ _ _ _ (h.rw i h3 h4).1 (h.rw i h3 h4).2.2;exact ⟨this.1,(h.rw i h3 h4).2.1,this.2⟩
theorem zlm {W:World} {A:Nat->Prop}:∀ l:List Int,(∀ i ∈ l,(Lit.int .i64 i).wf=true)->DVals W A (zdx l) (intV l)
 | [],_=>DVals.nil
 | x :: r,hf=>.cons (dint (hf x (vcw ..))) (zlm r (fun j hj=>hf j (vcc _ hj)))
theorem zln {W:World} {base:Nat} {t:TypeId} {sz:Nat} {a:OA} {n cap:Nat} {xs:List Value} {ds:List D} {A:Nat->Prop} (h:W.ownsRow base t sz (.slice a n cap) n xs) (hx:DVals W A ds xs) (h1:n<=ds.length) (h2:ds.length<=17592186044416) (hA:∀ q,base<=q->q<W.heap.size->A q):DAt W A a n ds:=by
 refine ⟨h1,h2,?_⟩
 rcases h.2 with ⟨e,h0⟩ | ⟨g,cap',cur,e,hb,hg,_⟩
 . exact Or.inl h0
 . cases e
   refine Or.inr ⟨g,0,xs,rfl,hA g hb (zab hg),zab hg,fun j u hj=>?_,hx⟩;have:=h.cells (g:=g) rfl j u hj;rw [show (⟨g,0,none⟩:Addr).add j=⟨g,j,none⟩ from by unfold Addr.add;split<;>simp_all] at this
   rw [vbc];exact this
theorem Nr.beg {S0 n cb:Nat} {w:World} {rs:List (List Nat)} {bs:List Int} {vn:Value} {ab:OA} {vs:List Value} {A:Nat->Prop} (h:Nr S0 w rs bs vn (.slice ab n cb) vs) (hn:n=bs.length) (hA:∀ q,S0<=q->q<w.heap.size->A q) (hf:∀ i ∈ bs,(Lit.int .i64 i).wf=true) (hl:bs.length<=1000):DAt w A ab bs.length (zdx bs):=by
 subst hn;exact zln h.ob (zlm bs hf) (by simp [zdx]) (by simp [zdx];omega) hA
theorem zqm {S0:Nat} {w:World} {A:Nat->Prop} (hA:∀ q,S0<=q->q<w.heap.size->A q):∀ (rs:List (List Nat)) (vs:List Value),vs.length=rs.length->(∀ r ∈ rs,r.length<=3000000/\∀ i ∈ natI r,(Lit.int .i64 i).wf=true)->(∀ i (h:i<rs.length) (h':i<vs.length),w.ownsRow S0 3 1 vs[i] rs[i].length (intV (natI rs[i])))->DVals w A (zoe rs) vs
 | [],[],_,_,_=>DVals.nil
 | [],_ :: _,h,_,_=>by simp at h
 | _ :: _,[],h,_,_=>by simp at h
 | r :: rs,v :: vs,h,hf,ho=>by
   have h0:=ho 0 (by simp) (by simp);simp only [vbn] at h0;obtain ⟨a,cap,rfl,_,_⟩:=zba h0;have hr:=hf r (vcw ..)
   have hl:(natI r).length=r.length:=by simp [natI]
   refine .cons (DAt.val (zln h0 (zlm _ hr.2) (by simp [zdx,hl]) (by simp [zdx,hl];omega) hA)) (zqm hA rs vs (by simpa using h) (fun r' h'=>hf r' (vcc _ h')) (fun i h1 h2=>?_));have:=ho (i+1) (by simpa using h1) (by simpa using h2);simpa using this
theorem Nr.near {S0 n cn:Nat} {w:World} {rs:List (List Nat)} {bs:List Int} {vb:Value} {an:OA} {vs:List Value} {A:Nat->Prop} (h:Nr S0 w rs bs (.slice an n cn) vb vs) (hn:n=rs.length) (hA:∀ q,S0<=q->q<w.heap.size->A q) (hf:∀ r ∈ rs,r.length<=3000000/\∀ i ∈ natI r,(Lit.int .i64 i).wf=true) (hl:rs.length<=1000):DAt w A an rs.length (zoe rs):=by
 subst hn;exact zln h.on (zqm hA rs vs h.vl hf (fun i h1 h2=>(h.rw i h1 h2).1)) (by simp [zoe]) (by simp [zoe];omega) hA
theorem zrv {l:List Un} (hA:zez l=true) (hN:zob l) (hS:∀ u ∈ l,u.uses.length<=2000000):∀ r ∈ nearS l,r.length<=3000000/\∀ i ∈ r,i<l.length:=by
 intro r hr;unfold nearS at hr;obtain ⟨j,hj,rfl⟩:=vcb.1 hr;have hj:=List.mem_range.1 hj;rw [var,vaj hj,vba];unfold nearU;refine ⟨?_,fun i hi=>?_⟩
 . rw [vat,vbd]
   have:=hS l[j] (vah hj);omega
 . rcases vci.1 hi with rfl | hi
   . exact hj
   . obtain ⟨s,hs,rfl⟩:=vcb.1 hi
     obtain ⟨q,hq,_,e,_⟩:=zrf hA hN hj hs;rw [e];show (q:Int).toNat<_;omega
theorem zc2 (l:List Un):(nearS l).length=l.length:=by simp [nearS]
theorem zdy (l:List Un):(zh3 l).length=l.length:=by simp [zh3]
theorem zrw (l:List Un) (j:Nat) (h:j<l.length):(nearS l).take (j+1)=(nearS l).take j++[nearU l j l[j]]:=by
 rw [vaf (by rw [zc2];exact h)];simp [nearS,h]
theorem ztu (l:List Un) (j:Nat) (h:j<l.length):(zh3 l).take (j+1)=(zh3 l).take j++[sumD (l.take j)]:=by
 rw [vaf (by rw [zdy];exact h)];simp [zh3]
theorem Apt.new {v u:Value} {w:World} {B C:Nat} {e e2:TypeId} {z z2 n n2:Nat} {xs ys:List Value} {w':World} (h:w.ownsRow B e z v n xs) (h':w'.ownsRow C e2 z2 u n2 ys) (hw:w'.heap.size<=B):Apt v u:=fun k h1 h2=>by
 have:=(h.lt k h1).1;have:=(h'.lt k h2).2;omega
set_option maxHeartbeats 12800000
theorem zm6 (l:List Un) (inp:List Int) (lim:Nat) (au:OA) (cu:Nat) (ai:OA) (ci:Nat) (w:World) (hD:DAt w Tt au l.length (zfs l)) (hI:DAt w Tt ai inp.length (zdx inp)) (hci:inp.length<=ci) (hA:zez l=true) (hN:zob l) (h0:0<l.length) (h4:l.length<=4) (hd:∀ u ∈ l,0<=u.data/\u.data<=512) (hs:sumD l<=512) (hS:∀ u ∈ l,u.uses.length<=2000000) (hlim:lim<=1000000) :
 Calls Tryz.prog 73 #[.slice au l.length cu,.slice ai inp.length ci,.int .i64 lim] w fun e w'=>e = .returned (.pointer (some ⟨w.heap.size,0,none⟩))/\Below w.heap.size w w'/\∃ K,Wd w' w.heap.size w.heap.size (cxS l lim) K (.slice none 0 0) (sw0 l inp) 0:=by
 have hmm:=@run_makeMap Tryz.prog;have HD:=hid hD;have HI:=hid hI;have HUse:=hid (fun j (hj:j<l.length) s (hs:s ∈ l[j].uses)=>zrf hA hN hj hs);have HBd:=hid (zho l hd);have HSz:=hid hS;have HDt:=hid hd;have HSum:=hid hs;have hci':=hid hci;have HSm:=hid (zrv hA hN hS);obtain ⟨b,off,_,_,_,_,_,_,rfl, -⟩:=hD.un 0 h0;clear hD hI hA hN hd hS hs hci;go_enter Tryz.func73,Tryz.ntmps73;go_wp2_with fail
 go_loopw [9,23] (fun sz i wr=>∃ (j:Nat) (vn vb:Value) (vs:List Value),j<=l.length/\i = .int .i64 j/\sz = .int .i64 (sumD (l.take j))/\wr.heap[w.heap.size]? = some (.cells #[.slice (some ⟨b,off,none⟩) l.length cu,vn,vb,.slice none 0 0,.slice ai inp.length ci,.slice none 0 0,.int .i64 lim,.int .i64 0,.int .i64 0,.int .i64 0] 128 (0,0))/\zff wr (w.heap.size+1) j (zhy (namesU (l.take j)))/\Nr (w.heap.size+2) wr ((nearS l).take j) ((zh3 l).take j) vn vb vs/\Below w.heap.size w wr) (fun _ i _=>l.length - (intOf i).toNat)
 case atStart=>
  refine ⟨0,.slice none 0 0,.slice none 0 0,[],vad _,rfl,rfl,zae (heap_newP w _),?_,⟨vei _ _ _ _,vei _ _ _ _,Apt.nil _,rfl,fun i h=>?_⟩,thenB (al1 w _) (al1 _ _)⟩
  . have:=zff.made (w.alloc (.cells #[.slice (some ⟨b,off,none⟩) l.length cu,.slice none 0 0,.slice none 0 0,.slice none 0 0,.slice ai inp.length ci,.slice none 0 0,.int .i64 lim,.int .i64 0,.int .i64 0,.int .i64 0] 128))
    rw [vdq] at this;exact this
  . simp at h
 case round=>
  obtain ⟨j,vn,vb,vs,hj,rfl,rfl,hblk,hmap,hnr,hbel⟩:=hrel;have HBl:=hid hblk;have HM:=hid hmap;have HNr:=hid hnr;have HB:=hid hbel;have hzr:=hbel.size;clear hblk hmap hnr hbel;have hmz:=HM.out.lt
  by_cases hlt:j<l.length
  . obtain ⟨b',off',a1,k1,a2,k2,a3,k3,he,hx⟩:=HD.out.un j hlt
    cases he;have HUs:=hid (HUse.out j hlt);have HN:=hid (zdv l j hlt);have husm:=HSz.out l[j] (vah hlt);have hdj:=HDt.out l[j] (vah hlt);have HSd:=hid (zei l j hlt);have hbd:=HBd.out j;have HNt:=hid (zrw l j hlt);have HBt:=hid (ztu l j hlt);have HNu:Hid (nearU l j l[j]=j :: l[j].uses.map (fun s=>((zhy (namesU (l.take (j+1))) s).getD 0).toNat)):=rfl;obtain ⟨hbl0,g0,g1,g2,g3,g4,hus,_,_,hnm,_⟩:=hx;have c0:=(HB.out.cell (p:=⟨b,_,none⟩) hbl0).trans g0;have c1:=(HB.out.cell (p:=⟨b,_,none⟩) hbl0).trans g1;have c2:=(HB.out.cell (p:=⟨b,_,none⟩) hbl0).trans g2;have c3:=(HB.out.cell (p:=⟨b,_,none⟩) hbl0).trans g3;have c4:=(HB.out.cell (p:=⟨b,_,none⟩) hbl0).trans g4;have hbl:=vac hbl0 HB.out.size;clear g0 g1 g2 g3 g4;have HUd:=hid hus;have hub:=hus.bound
    have HLoc:=hid (zg5 (namesU (l.take j)) l[j].name)
    have HLen:Hid ((namesU (l.take j)).length=j):=by show _=_;unfold namesU;rw [vbd,vbm];omega
    have hj4:j<4:=by omega
    have hnl:((nearS l).take j).length=j:=by rw [vbm,zc2];omega
    have hbl2:((zh3 l).take j).length=j:=by rw [vbm,zdy];omega
    generalize namesU (l.take j)=ns at *;generalize hNs1:namesU (l.take (j+1))=ns1 at *;generalize nearU l j l[j]=nr at *;generalize l[j]=x at *;generalize sumD (l.take j)=sj at *;clear hus
    obtain ⟨W1,hW1⟩:∃ W1,W1=wr.alloc (.cells #[.string x.name,.slice a1 x.uses.length k1,.int .i64 x.data,.slice a2 x.parts.length k2,.slice a3 x.main.length k3] 42):=⟨_,rfl⟩
    have HM1:Hid (zff W1 (w.heap.size+1) j (zhy ns)):=by rw [hW1];exact HM.out.later (al1 _ _)
    have HX1:Hid (W1.heap[wr.heap.size]? = some (.cells #[.string x.name,.slice a1 x.uses.length k1,.int .i64 x.data,.slice a2 x.parts.length k2,.slice a3 x.main.length k3] 42)):=by rw [hW1];exact heap_newP _ _
    have HB1:Hid (Below w.heap.size w W1):=by rw [hW1];exact thenB HB.out (al1 _ _)
    have HK1:Hid (∀ q,q<wr.heap.size->W1.heap[q]? = wr.heap[q]?):=by rw [hW1];exact fun q hq=>(al1 wr _).block q hq
    obtain ⟨w2,hup,hm2,hg2⟩:=HM1.out.put (by unfold maxLen;omega) x.name hnm (j:Int) (by simp only [Lit.wf,vae,decide_eq_true_eq];exact ⟨by show (-9223372036854775808:Int)<=_;omega,by show _<=(9223372036854775807:Int);omega⟩)
    have HM2:Hid (zff w2 (w.heap.size+1) (j+1) (zhy ns1)):=by show zff _ _ _ _;rw [HN.out,HLoc.out,HLen.out];exact hm2
    have HX2:=hid (zje hg2 (by omega) HX1.out);have HB2:=hid (HB1.out.grown hg2 HB1.out.size (fun q hq=>by cases hq;exact vda _));have HW2:Hid (w2.heap[w.heap.size]? = wr.heap[w.heap.size]?):=(hg2.block _ (by have:=zab HX1.out;omega) (fun e=>by have:=vab e;omega)).trans (HK1.out _ (by omega));have HN2:=hid (HNr.out.keep (w':=w2) (fun q h1 h2=>(hg2.block q (by have:=zab HX1.out;omega) (fun e=>by have:=vab e;omega)).trans (HK1.out q h2)));have hz2:wr.heap.size<w2.heap.size:=vac (zab HX1.out) hg2.size;obtain ⟨f0,f1,f2,f3,f4,_⟩:=zad HX1.out;have fz:=zab HX1.out;have HOw:=hid (And.intro (fun k e=>(HNr.out.on.lt k e).2) (fun k e=>(HNr.out.ob.lt k e).2));clear hm2 hg2 HM1 HM HNr HK1;go_wp2_with fail;rw [← hW1];clear hW1;rw [hup];obtain ⟨e0,e1,e2,e3,e4,_⟩:=zad HX2.out
    have ez:=zab HX2.out;clear f0 f1 f2 f3 f4 fz c0 c1 c2 c3 c4 hup HB1 HX1;go_wp2_with fail;generalize hxb:wr.heap.size=xb at *
    go_loopw [12,37] (fun v i W=>∃ k:Nat,k<=x.uses.length/\i = .int .i64 k/\W.ownsRow w2.heap.size 3 1 v (k+1) (intV (natI (j :: (x.uses.take k).map (fun s=>((zhy ns1 s).getD 0).toNat))))/\Below w2.heap.size w2 W) (fun _ i _=>x.uses.length - (intOf i).toNat)
    case atStart=>exact ⟨0,vad _,rfl,⟨rfl,Or.inr ⟨w2.heap.size,1,#[.int .i64 j],rfl,vaa _,heap_newP w2 _,vaa _,by unfold maxLen;omega,rfl,rfl⟩⟩,al1 w2 _⟩
    case round=>
     obtain ⟨k,hk,rfl,ho,hb3⟩:=hrel;have HO:=hid ho;have HB3:=hid hb3;have HX3:=hid ((hb3.block _ (zab HX2.out)).trans HX2.out);have HM3:=hid (HM2.out.later hb3);clear e0 e1 e2 e3 e4 ez;obtain ⟨e0,e1,e2,e3,e4,_⟩:=zad HX3.out;have ez:=zab HX3.out;clear ho hb3
     by_cases hlt2:k<x.uses.length
     . obtain ⟨b2,off2,rfl,hb2,d0,hsz⟩:=(HUd.out.later (thenB HB2.out HB3.out)).str k hlt2
       obtain ⟨i,hi,hij,hloc, -⟩:=HUs.out x.uses[k] (vah hlt2);have hlk:=HM3.out.look x.uses[k] hsz;rw [hloc] at hlk
       have HTk:Hid (natI (j :: (x.uses.take (k+1)).map (fun s=>((zhy ns1 s).getD 0).toNat))=natI (j :: (x.uses.take k).map (fun s=>((zhy ns1 s).getD 0).toNat))++[(i:Int)]):=by show _=_;rw [vaf hlt2,vce,List.map_singleton,hloc];simp [natI]
       generalize natI (j :: (x.uses.take k).map (fun s=>((zhy ns1 s).getD 0).toNat))=row at *;generalize x.uses[k]=su at *;simp only [vba] at hlk;clear hloc
       go_wp2_with (at_builtin;(refine zfu rfl (.tmp 41) (.tmp 45) 49 rfl w2.heap.size 3 _ 1 8 Tryz.underlying49 Tryz.infoI rfl (by decide) wr u12 (k+1) (intV row) rfl HO.out #[.int .i64 i] _ rfl rfl rfl (zoz i) (by omega) (by decide) HB3.out.size ?_);intro g5 c5 w5 ho5 hb5 hz5 hkp5 hkb5;have HO5:=hid ho5;have HB5:=hid hb5;clear ho5 hb5 hz5 hkp5 hkb5)
       go_roundw
       case rel=>exact ⟨k+1,by omega,by go_num,by rw [HTk.out,zmp];exact HO5.out,HB3.out.trans HB5.out⟩
       case measure=>simp [intOf];omega
     . obtain rfl:k=x.uses.length:=by omega
       rw [vaz,← HNu.out] at HO
       have hnrl:nr.length=x.uses.length+1:=by rw [HNu.out,vat,vbd]
       obtain ⟨an,cn,rfl,_,_⟩:=zba HN2.out.on;obtain ⟨ab,cb,rfl,_,_⟩:=zba HN2.out.ob;rw [hnl,hbl2] at HN2 HBl HOw;obtain ⟨ar,cr,rfl,_,_⟩:=zba HO.out;have HN3:=hid (HN2.out.keep (w':=wr) (fun q h1 h2=>HB3.out.block q h2));have HBk:Hid (wr.heap[w.heap.size]? = some (.cells #[.slice (some ⟨b,off,none⟩) l.length cu,.slice an j cn,.slice ab j cb,.slice none 0 0,.slice ai inp.length ci,.slice none 0 0,.int .i64 lim,.int .i64 0,.int .i64 0,.int .i64 0] 128 (0,0))):=(HB3.out.block _ (by omega)).trans (HW2.out.trans HBl.out);obtain ⟨q0,q1,q2,q3,q4,q5,q6,q7,q8,q9,qz,qf⟩:=zbr HBk.out;have HBw:=hid (thenB HB2.out HB3.out);have hap1:Apt (.slice ar (x.uses.length+1) cr) (.slice an j cn):=Apt.new HO.out HN2.out.on (vaa _);have hap2:Apt (.slice ar (x.uses.length+1) cr) (.slice ab j cb):=Apt.new HO.out HN2.out.ob (vaa _)
       have HAp:=hid (And.intro hap1 hap2)
       have HO3:Hid (wr.ownsRow (w.heap.size+2) 3 1 (.slice ar (x.uses.length+1) cr) nr.length (intV (natI nr))):=by show World.ownsRow _ _ _ _ _ _ _;rw [hnrl];exact zou HO.out (by omega)
       have hzw:w.heap.size+2<=wr.heap.size:=by have:=HM3.out.lt;omega
       have hoB:∀ (v:Value) (e:TypeId) (z n:Nat) (xs:List Value) (V:World),V.ownsRow (w.heap.size+2) e z v n xs->∀ q,q<w.heap.size+2->v.ownBlock≠some q:=fun v e z n xs V h q hq h'=>by have:=(h.lt q h').1;omega
       have HoB:=hid hoB
       have HXk:Hid (Value.ownBlock (.slice an j cn)≠some xb/\Value.ownBlock (.slice ab j cb)≠some xb):=⟨fun e=>by have:=HOw.out.1 _ e;omega,fun e=>by have:=HOw.out.2 _ e;omega⟩
       have HOn:Hid (wr.ownsRow (w.heap.size+2) 49 1 (.slice an j cn) j vs):=by have:=HN3.out.on;rw [hnl] at this;exact this
       clear hap1 hap2 HO hoB
       go_upto_region 15 with (at_builtin;(refine zfu rfl (.tmp 52) (.tmp 54) 126 rfl (w.heap.size+2) 49 _ 1 24 Tryz.underlying126 Tryz.infoSl rfl (by decide) wr (.slice an j cn) j vs rfl HOn.out #[.slice ar (x.uses.length+1) cr] _ rfl rfl rfl (by simp;rfl) (by omega) (by decide) hzw ?_);intro g5 c5 w5 ho5 hb5 hz5 hkp5 hkb5;have hB5:=hkb5 _ _ HBk.out (HoB.out _ _ _ _ _ _ HN3.out.on _ (by omega));obtain ⟨r0,r1,r2,r3,r4,r5,r6,r7,r8,r9,rz,rf⟩:=zbr hB5;have HB5:=hid hB5;have HN5:=hid (HN3.out.addN (r:=nr) (g:=g5) (cap:=c5) (by rw [hnl];exact ho5) (by rw [hnl];exact hkp5) HO3.out HAp.out.1 HAp.out.2);have HM5:=hid (HM3.out.has (fun y hy=>hkb5 _ y hy (HoB.out _ _ _ _ _ _ HN3.out.on _ (by omega))));have HW5:=hid hb5;have HZ5:=hid hz5;have HX5:=hid (hkb5 _ _ HX3.out HXk.out.1);clear ho5 hb5 hz5 hkp5 hkb5 hB5 q0 q1 q2 q3 q4 q5 q6 q7 q8 q9 qf)
       rw [hnl] at HN5
       have hxB:w.heap.size≠xb:=by omega
       obtain ⟨w6,hw6⟩:∃ w6,w6=w5.setCell ⟨w.heap.size,1,none⟩ (.slice (some ⟨g5,0,none⟩) (j+1) c5):=⟨_,rfl⟩
       have HB6:Hid (w6.heap[w.heap.size]? = some (.cells #[.slice (some ⟨b,off,none⟩) l.length cu,.slice (some ⟨g5,0,none⟩) (j+1) c5,.slice ab j cb,.slice none 0 0,.slice ai inp.length ci,.slice none 0 0,.int .i64 lim,.int .i64 0,.int .i64 0,.int .i64 0] 128 (0,0))):=by show _=_;rw [hw6,zaf HB5.out];rfl
       have HN6:=hid (HN5.out.keep (w':=w6) (fun q h1 h2=>by rw [hw6];exact zac (by show q≠w.heap.size;omega) _));have HM6:=hid (HM5.out.moves (w':=w6) (by rw [hw6];exact zac (by show w.heap.size+1≠w.heap.size;omega) _))
       have HX6:Hid (w6.heap[xb]? = some (.cells #[.string x.name,.slice a1 x.uses.length k1,.int .i64 x.data,.slice a2 x.parts.length k2,.slice a3 x.main.length k3] 42)):=by show _=_;rw [hw6];exact (zac (by show xb≠w.heap.size;exact fun e=>hxB e.symm) _).trans HX5.out
       have HW6:Hid (Below w.heap.size w w6):=by rw [hw6];exact (HBw.out.trans (HW5.out.mono (by omega))).setCell (p:=⟨w.heap.size,1,none⟩) (vaa _) _
       have hz6:w.heap.size+2<=w6.heap.size:=by rw [hw6];have:=HZ5.out;simp;omega
       have HOb:Hid (w6.ownsRow (w.heap.size+2) 3 1 (.slice ab j cb) j (intV ((zh3 l).take j))):=by have:=HN6.out.ob;rw [hbl2] at this;exact this
       rw [← hw6];clear hw6 r0 r1 r2 r3 r4 r5 r6 r7 r8 r9 rz rf e0 e1 e2 e3 e4 ez;obtain ⟨q0,q1,q2,q3,q4,q5,q6,q7,q8,q9,qz,qf⟩:=zbr HB6.out
       have hwr:wrap64 (sj+x.data)=sj+x.data:=by unfold wrap64;omega
       go_wp2_with (at_builtin;(refine zfu rfl (.tmp 62) (.tmp 64) 49 rfl (w.heap.size+2) 3 _ 1 8 Tryz.underlying49 Tryz.infoI rfl (by decide) w6 (.slice ab j cb) j (intV ((zh3 l).take j)) rfl HOb.out #[.int .i64 sj] _ rfl rfl rfl (zoz sj) (by omega) (by decide) hz6 ?_);intro g7 c7 w7 ho7 hb7 hz7 hkp7 hkb7;have hB7:=hkb7 _ _ HB6.out (HoB.out _ _ _ _ _ _ HN6.out.ob _ (by omega));obtain ⟨r0,r1,r2,r3,r4,r5,r6,r7,r8,r9,rz,rf⟩:=zbr hB7;have HB7:=hid hB7;have HN7:=hid (HN6.out.addB (x:=sj) (g:=g7) (cap:=c7) (by rw [hbl2];exact ho7) (by rw [hbl2];exact hkp7));have HM7:=hid (HM6.out.has (fun y hy=>hkb7 _ y hy (HoB.out _ _ _ _ _ _ HN6.out.ob _ (by omega))));have HW7:=hid (HW6.out.trans (hb7.mono (by omega)));have hX7:=hkb7 _ _ HX6.out HXk.out.2;obtain ⟨t0,t1,t2,t3,t4,_⟩:=zad hX7;have tz:=zab hX7;clear ho7 hb7 hz7 hkp7 hkb7 hB7 hX7 q0 q1 q2 q3 q4 q5 q6 q7 q8 q9 qf)
       rw [hbl2] at HN7;go_roundw
       case rel=>
        refine ⟨j+1,(.slice (some ⟨g5,0,none⟩) (j+1) c5),(.slice (some ⟨g7,0,none⟩) (j+1) c7),vs++[.slice ar (x.uses.length+1) cr],by omega,by go_num,by rw [HSd.out],?_,?_,?_,HW7.out.setCell (p:=⟨w.heap.size,2,none⟩) (vaa _) _⟩
        . rw [zaf HB7.out];rfl
        . rw [hNs1]
          exact HM7.out.moves (zac (by show w.heap.size+1≠w.heap.size;omega) _)
        . rw [HNt.out,HBt.out]
          exact HN7.out.keep (fun q h1 h2=>zac (by show q≠w.heap.size;omega) _)
       case measure=>simp [intOf];omega
  . obtain rfl:j=l.length:=by omega
    have hnl:(nearS l).take l.length=nearS l:=vao (by rw [zc2];exact vaa _);have hbl:(zh3 l).take l.length=zh3 l:=vao (by rw [zdy];exact vaa _);rw [hnl,hbl] at HNr;obtain ⟨an,cn,rfl,_,_⟩:=zba HNr.out.on;obtain ⟨ab,cb,rfl,_,_⟩:=zba HNr.out.ob;rw [zc2,zdy] at HNr HBl;have hb0:=HBd.out l.length;rw [vaz] at hb0
    obtain ⟨sd,hsd⟩:∃ sd:Nat,sumD l=sd:=⟨(sumD l).toNat,by omega⟩
    have hs5:sd<=512:=by have:=HSum.out;omega
    have hmk:=zm4 sd hs5
    have hx0:sumD (l.take l.length)=(sd:Int):=by rw [vaz];exact hsd
    have HSd:=hid hsd;obtain ⟨q0,q1,q2,q3,q4,q5,q6,q7,q8,q9,qz,qf⟩:=zbr HBl.out
    obtain ⟨w8,hw8⟩:∃ w8,w8=(wr.setCell ⟨w.heap.size,3,none⟩ (.slice (some ⟨wr.heap.size,0,none⟩) sd sd)).alloc (.cells (intV (zdm [] (sd:Int))).toArray 3):=⟨_,rfl⟩
    have HW8:=hid hw8
    have HE:Hid (Below w.heap.size w w8/\∃ K,Wd w8 w.heap.size w.heap.size (cxS l lim) K (.slice none 0 0) (sw0 l inp) 0):=by
     have hk:∀ q,q<wr.heap.size->q≠w.heap.size->w8.heap[q]? = wr.heap[q]?:=fun q h1 h2=>by rw [hw8];exact ((al1 (wr.setCell ⟨w.heap.size,3,none⟩ (.slice (some ⟨wr.heap.size,0,none⟩) sd sd)) _).block q (by simpa using h1)).trans (zac h2 _)
     have hz8:w8.heap.size=wr.heap.size+1:=by rw [hw8];simp
     have hB8:Below w.heap.size w w8:=by rw [hw8];exact thenB (HB.out.setCell (p:=⟨w.heap.size,3,none⟩) (vaa _) _) (al1 _ _)
     have hN8:=HNr.out.keep (w':=w8) (fun q h1 h2=>hk q h2 (by omega))
     have hda:(sw0 l inp).data=zdm [] (sd:Int):=by
      show List.replicate (zv4 l).toNat 0=_;unfold zv4 zdm;rw [HSd.out];simp
     have hdl:(sw0 l inp).data.length=sd:=by rw [hda];simp [zdm]
     have hA8:∀ q,w.heap.size+2<=q->q<wr.heap.size->(q<wr.heap.size+1/\q≠w.heap.size/\q≠wr.heap.size):=fun q h1 h2=>⟨by omega,by omega,by omega⟩
     have hA0:∀ {a:OA} {n:Nat} {ds:List D},DAt w Tt a n ds->DAt w8 (·<w.heap.size) a n ds:=fun h=>(h.moves (A':=(·<w.heap.size)) ⟨vaa _,fun q hq _=>⟨hq,rfl⟩⟩).moves ⟨hB8.size,fun q hq hl=>⟨hl,hB8.block q hq⟩⟩
     have hmv:∀ {a:OA} {n:Nat} {ds:List D},DAt wr (fun q=>q<wr.heap.size+1/\q≠w.heap.size/\q≠wr.heap.size) a n ds->DAt w8 (fun q=>q<wr.heap.size+1/\q≠w.heap.size/\q≠wr.heap.size) a n ds:=fun h=>h.moves ⟨by omega,fun q hq hl=>⟨hl,hk q hq hl.2.1⟩⟩
     refine ⟨hB8,⟨some ⟨b,off,none⟩,cu,an,cn,ab,cb,wr.heap.size,sd,wr.heap.size+1⟩,⟨ai,ci,?_,hA0 HI.out,hci'.out⟩,?_,vei _ _ _ _,⟨hA0 HD.out,?_,?_,vaa _,by show w.heap.size<=wr.heap.size;omega,by show w.heap.size<wr.heap.size+1;omega,by show wr.heap.size<wr.heap.size+1;omega,by show w.heap.size≠wr.heap.size;omega,by show wr.heap.size+1<=w8.heap.size;omega⟩,hdl.symm,by rw [hdl];exact hs5,vad _,hlim,vad _,vad _⟩
     . rw [hw8]
       refine (zae (zaf HBl.out _)).trans ?_;unfold wC;rw [hdl];show some (Obj.cells _ _ _)=some (Obj.cells _ _ _);simp [cxS,zc2,zdy,sw0]
     . rw [hw8]
       rw [hda];have:=heap_newP (wr.setCell ⟨w.heap.size,3,none⟩ (.slice (some ⟨wr.heap.size,0,none⟩) sd sd)) (.cells (intV (zdm [] (sd:Int))).toArray 3);rw [van] at this;exact this
     . show DAt w8 (fun q=>q<wr.heap.size+1/\q≠w.heap.size/\q≠wr.heap.size) an (nearS l).length (zoe (nearS l))
       refine hmv (HNr.out.near (zc2 l).symm hA8 (fun r hr=>⟨(HSm.out r hr).1,fun i hi=>?_⟩) (by rw [zc2];omega));unfold natI at hi;obtain ⟨q,hq,rfl⟩:=vcb.1 hi;have:=(HSm.out r hr).2 q hq;exact zzj (by show _<=(q:Int);omega) (by show (q:Int)<=_;omega)
     . show DAt w8 (fun q=>q<wr.heap.size+1/\q≠w.heap.size/\q≠wr.heap.size) ab (zh3 l).length (zdx (zh3 l))
       refine hmv (HNr.out.beg (zdy l).symm hA8 (fun i hi=>?_) (by rw [zdy];omega));unfold zh3 at hi;obtain ⟨q,hq,rfl⟩:=vcb.1 hi;have:=HBd.out q;have:=List.mem_range.1 hq;exact zzj (by omega) (by omega)
    clear hsd hw8 HSum hb0;simp only [hx0];go_wp2_with fail;rw [← HW8.out]
    go_returns
    exact ⟨rfl,HE.out⟩
end Go.Proofs.YtndkhgakfodldaaGreatDoor

namespace Go.Proofs.YtndkhgakfodldaaGreatDoor
set_option maxRecDepth 100000
set_option maxHeartbeats 800000
open Go.RowKit Go.Shelf
set_option linter.unusedSimpArgs false
set_option linter.unusedVariables false
def ze0 (w:World) (a:OA) (l:List Int):Prop:=l=[]\/∃ b off,a=some ⟨b,off,none⟩/\b<w.heap.size/\∀ i (h:i<l.length),w.cell? ⟨b,off+i,none⟩=some (.int .i64 l[i])
theorem ze0.later {w w':World} {a:OA} {l:List Int} (h:ze0 w a l) (hb:Below w.heap.size w w'):ze0 w' a l:=by
 rcases h with h | ⟨b,off,ha,hl,hc⟩
 . exact Or.inl h
 . exact Or.inr ⟨b,off,ha,vac hl hb.size,fun i h=>(hb.cell (p:=⟨b,off+i,none⟩) hl).trans (hc i h)⟩
theorem ze0.at_ {w:World} {a:OA} {l:List Int} (h:ze0 w a l) (i:Nat) (hi:i<l.length):∃ b off,a=some ⟨b,off,none⟩/\b<w.heap.size/\w.cell? ⟨b,off+i,none⟩=some (.int .i64 l[i]):=by
 rcases h with rfl | ⟨b,off,ha,hl,hc⟩
 . simp at hi
 . exact ⟨b,off,ha,hl,hc i hi⟩
theorem ze0.own {w:World} {B n:Nat} {a:OA} {cap:Nat} {l:List Int} (h:w.ownsRow B 3 1 (.slice a n cap) n (intV l)) (hn:n=l.length):ze0 w a l:=by
 subst hn
 rcases h.2 with ⟨_,h0⟩ | ⟨g,cap',cur,e,_,hg,_⟩
 . exact Or.inl (vam h0)
 . cases e
   refine Or.inr ⟨g,0,rfl,zab hg,fun i hi=>?_⟩;have:=h.cells (g:=g) rfl i (.int .i64 l[i]) (by simp [intV,hi]);rw [show (⟨g,0,none⟩:Addr).add i=⟨g,i,none⟩ from by unfold Addr.add;split<;>simp_all] at this
   rw [vbc];exact this
theorem ze0.blk {w:World} {g:Nat} {l:List Int} (h:w.heap[g]? = some (.cells (intV l).toArray 3 (0,0))):ze0 w (some ⟨g,0,none⟩) l:=Or.inr ⟨g,0,rfl,zab h,fun i hi=>by
 rw [vee h,vcp]
 simp [intV,hi]⟩
theorem ze0.take {w:World} {a:OA} {l m:List Int} (h:ze0 w a l) (hp:m <+: l):ze0 w a m:=by
 obtain ⟨t,rfl⟩:=hp
 rcases h with h | ⟨b,off,ha,hl,hc⟩
 . exact Or.inl (List.append_eq_nil_iff.1 h).1
 . refine Or.inr ⟨b,off,ha,hl,fun i hi=>?_⟩
   have:=hc i (by rw [vag];omega);rw [vau hi] at this;exact this
theorem ze0.dat {w:World} {A:Nat->Prop} {a:OA} {l:List Int} (h:DAt w A a l.length (zdx l)):ze0 w a l:=by
 by_cases h0:l.length=0
 . exact Or.inl (vam h0)
 . obtain ⟨b,off,ha,hb,hc⟩:=h.ints (by omega)
   exact Or.inr ⟨b,off,ha,hb,fun i hi=>hc i l[i] (by simp [zdx,hi])⟩
theorem zm7 {w w':World} (h:Below w.heap.size w w') (m:Nat):Below w.heap.size w (w'.drewN m):=zod h m
theorem zhr (a b:OA) (c1 c2:Nat) (l:List Int) (w:World) (ha:ze0 w a l) (hb:ze0 w b l) (hbd:l.length<=1000000) :
 Calls Tryz.prog 28 #[.slice a l.length c1,.slice b l.length c2] w fun e w'=>e = .returned (.bool true)/\∃ m,w'=w.drewN m:=by
 have HA:=hid ha;have HB:=hid hb;clear ha hb;go_enter Tryz.func28,Tryz.ntmps28;go_wp2_with fail
 go_loopw [5] (fun i wr=>∃ k m:Nat,k<=l.length/\i = .int .i64 k/\wr=w.drewN m) (fun i _=>l.length - (intOf i).toNat)
 case atStart=>exact ⟨0,0,vad _,rfl,rfl⟩
 case round=>
  obtain ⟨k,m,hk,rfl,rfl⟩:=hrel
  by_cases hlt:k<l.length
  . obtain ⟨b1,o1,rfl,hl1,hc0⟩:=(HA.out.later (bd w m)).at_ k hlt
    obtain ⟨b2,o2,rfl,hl2,hd0⟩:=(HB.out.later (bd w m)).at_ k hlt;have hc:=hid hc0;generalize l[k]=lk at *;generalize hW:w.drewN m=W at *;have HW:=hid hW;clear hW;go_wp2_with fail
    go_quiet ((fail))
    go_wp2_with fail;go_roundw
    case rel=>exact ⟨k+1,m+nq,by omega,by go_num,by rw [← HW.out,World.drewN_drewN]⟩
    case measure=>simp [intOf];omega
  . go_wp2_with fail
    go_ret;exact ⟨rfl,m,rfl⟩
theorem zex (en tk:Int) (oa ob da db:OA) (c1 c2 c3 c4:Nat) (l r:List Int) (w:World) (h1:ze0 w oa l) (h2:ze0 w ob l) (h3:ze0 w da r) (h4:ze0 w db r) (hl:l.length<=1000000) (hr:r.length<=1000000) :
 Calls Tryz.prog 29 #[.agg #[.int .i64 en,.slice oa l.length c1,.slice da r.length c3,.int .i64 tk],.agg #[.int .i64 en,.slice ob l.length c2,.slice db r.length c4,.int .i64 tk]] w fun e w'=>e = .returned (.bool true)/\Below w.heap.size w w':=by
 have HS:Hid (∀ W,Below w.heap.size w W->Calls Tryz.prog 28 #[.slice oa l.length c1,.slice ob l.length c2] W fun e w'=>e = .returned (.bool true)/\∃ m,w'=W.drewN m):=fun W hb=>zhr oa ob c1 c2 l W (h1.later hb) (h2.later hb) hl
 have HT:Hid (∀ W,Below w.heap.size w W->Calls Tryz.prog 28 #[.slice da r.length c3,.slice db r.length c4] W fun e w'=>e = .returned (.bool true)/\∃ m,w'=W.drewN m):=fun W hb=>zhr da db c3 c4 r W (h3.later hb) (h4.later hb) hr
 clear h1 h2 h3 h4 hl hr;have HB2:=hid (thenB (al1 w (.cells #[.int .i64 en,.slice oa l.length c1,.slice da r.length c3,.int .i64 tk] 51)) (al1 _ (.cells #[.int .i64 en,.slice ob l.length c2,.slice db r.length c4,.int .i64 tk] 51)));generalize l.length=n at *;generalize r.length=k at *;go_enter Tryz.func29,Tryz.ntmps29;go_wp2_with fail;refine (HS.out _ HB2.out).mono ?_;rintro e w1 ⟨rfl,m1,rfl⟩;go_wp2_with fail;refine (HT.out _ (zm7 HB2.out m1)).mono ?_;rintro e w1 ⟨rfl,m2,rfl⟩;go_wp2_with fail;go_ret;exact ⟨rfl,zm7 HB2.out _⟩
def zzv (w:World) (r:Rs) (v:Value):Prop:=∃ ao co ad cd,v = .agg #[.int .i64 r.end_,.slice ao r.out.length co,.slice ad r.data.length cd,.int .i64 r.ticks]/\ze0 w ao r.out/\ze0 w ad r.data/\r.out.length<=co
theorem zzv.later {w w':World} {r:Rs} {v:Value} (h:zzv w r v) (hb:Below w.heap.size w w'):zzv w' r v:=by
 obtain ⟨ao,co,ad,cd,e,h1,h2,h3⟩:=h;exact ⟨ao,co,ad,cd,e,h1.later hb,h2.later hb,h3⟩
end Go.Proofs.YtndkhgakfodldaaGreatDoor

namespace Go.Proofs.YtndkhgakfodldaaGreatDoor
set_option linter.unusedSimpArgs false
set_option linter.unusedVariables false
theorem ztv {l:List Un} {j:Nat} (hj:j<l.length) (h:j<(nearS l).length):(nearS l)[j]=nearU l j l[j]:=by simp [nearS,hj]
theorem zqn {l:List Un} {j:Nat} (h:j<(zh3 l).length):(zh3 l)[j]=sumD (l.take j):=by simp [zh3]
theorem z2s {l:List Un} (hA:zez l=true) (hN:zob l) {j:Nat} (hj:j<l.length) (m:Int) (hm:0<=m) (hm2:m<=l[j].uses.length):∃ i,∃ (hi:i<l.length) (h1:j<(nearS l).length) (h2:m.toNat<(nearS l)[j].length),(nearS l)[j][m.toNat]=i/\(m=0->i=j)/\(0<m->(usesU l l[j])[(m - 1).toNat]? = some l[i]):=by
 have h1:j<(nearS l).length:=by rw [zc2];exact hj
 have e:=ztv hj h1
 have hl:(nearU l j l[j]).length=l[j].uses.length+1:=by simp [nearU]
 have h2:m.toNat<(nearS l)[j].length:=by rw [e,hl];omega
 by_cases h0:m=0
 . subst h0
   refine ⟨j,hj,h1,h2,?_,fun _=>rfl,fun h=>by omega⟩;simp only [e]
   rfl
 . obtain ⟨p,rfl⟩:∃ p:Nat,m=(p:Int)+1:=⟨(m - 1).toNat,by omega⟩
   have hp:p<l[j].uses.length:=by omega
   obtain ⟨i,hi,hij,hl,hf⟩:=zrf hA hN hj (vah hp);refine ⟨i,hi,h1,h2,?_,fun h=>absurd h h0,fun _=>?_⟩
   . simp only [e]
     have e2:((p:Int)+1).toNat=p+1:=by omega
     simp only [e2];unfold nearU;rw [vbo,vcu,hl];show (i:Int).toNat=i;omega
   . rw [show ((p:Int)+1 - 1).toNat=p from by omega]
     unfold usesU;rw [List.getElem?_map,vaj hp];show some (zmm l l[j].uses[p])=_;rw [hf]
theorem zm8 {l:List Un} (hd:∀ u ∈ l,0<=u.data/\u.data<=512):∀ (d j:Nat),sumD (l.take j)<=sumD (l.take (j+d))
 | 0,j=>vcv _
 | d + 1,j=>by
   have ih:=zm8 hd d j;rw [show j+(d+1)=(j+d)+1 from rfl]
   by_cases h:j+d<l.length
   . rw [zei l (j+d) h]
     have:=hd _ (vah h);omega
   . rw [vao (i:=j+d) (by omega)] at ih
     rw [vao (i:=j+d+1) (by omega)];exact ih
theorem zy6 {l:List Un} (hd:∀ u ∈ l,0<=u.data/\u.data<=512) {i:Nat} (hi:i<l.length) {at_ n:Int} (h:zwf l[i].data at_ n=true):0<=at_/\∃ h3:i<(zh3 l).length,0<=(zh3 l)[i]/\(zh3 l)[i]+at_+n<=((zv4 l).toNat:Nat):=by
 have h:=of_decide_eq_true h
 have h3:i<(zh3 l).length:=by rw [zdy];exact hi
 have hb:=zho l hd;refine ⟨h.1,h3,by rw [zqn];exact (hb i).1,?_⟩;rw [zqn];have h1:=zei l i hi;have h2:=zm8 hd (l.length - (i+1)) (i+1);rw [show i+1+(l.length - (i+1))=l.length from by omega,vaz] at h2;have h0:=(hb i).1;have:=hd _ (vah hi);unfold zv4;omega
structure Okp (l:List Un):Prop where
 a:zez l=true
 n:zob l
 z:0<l.length
 f:l.length<=4
 d:∀ u ∈ l,0<=u.data/\u.data<=512
 s:sumD l<=512
 u:∀ lim,okU (cxS l lim) (zv4 l).toNat
theorem zov {l:List Un} (h:zhz l=0):Okp l:=by
 unfold zhz at h
 split at h
 . cases h
 rename_i h1
 split at h
 . cases h
 rename_i h2
 split at h
 . cases h
 rename_i h3
 split at h
 rename_i h4
 case isFalse=>cases h
 rw [vae] at h4
 have hA:zez l=true:=by simpa using h2
 have hN:zob l:=zre (by simpa using h3);have hF:=vas.1 h4.1
 have hd:∀ u ∈ l,0<=u.data/\u.data<=512:=fun u hu=>zjf (hF u hu)
 refine ⟨hA,hN,by omega,by omega,hd,of_decide_eq_true h4.2,fun lim j hj=>?_⟩;have hj:j<l.length:=hj;have ho:=hF _ (vah hj);unfold zwi zka at ho;simp only [vae] at ho;obtain ⟨hh,hp,hm⟩:=ho
 have hn:∀ (lc m a n:Int),numB (zjv l[j] (zt8 (usesU l l[j])) (zo1 (usesU l l[j])) lc) m a n=true->zol (cxS l lim) j (zv4 l).toNat m a n:=fun lc m a n h=>by
  unfold numB at h
  by_cases h0:m=0
  . subst h0
    rw [if_pos rfl] at h;obtain ⟨i,hi,k1,k2,e,e0, -⟩:=z2s hA hN hj 0 (vcv _) (by omega);obtain rfl:=e0 rfl;obtain ⟨ha,k3,k4,k5⟩:=zy6 hd hi h;refine ⟨vcv _,ha,k1,k2,by show (nearS l)[i][(0:Int).toNat]<_;rw [e];exact k3,?_,?_⟩
    . show 0<=(zh3 l)[(nearS l)[i][(0:Int).toNat]]
      simp only [e];exact k4
    . show (zh3 l)[(nearS l)[i][(0:Int).toNat]]+a+n<=_
      simp only [e];exact k5
  . rw [if_neg h0,vae] at h
    have hu:1<=m/\m<=l[j].uses.length:=of_decide_eq_true h.1;obtain ⟨i,hi,k1,k2,e, -,e1⟩:=z2s hA hN hj m (by omega) hu.2
    have hx:zwf l[i].data a n=true:=by
     have:=h.2;unfold zjv zt8 at this;simp only [e1 (by omega)] at this;exact this
    obtain ⟨ha,k3,k4,k5⟩:=zy6 hd hi hx;refine ⟨by omega,ha,k1,k2,by show (nearS l)[j][m.toNat]<_;rw [e];exact k3,?_,?_⟩
    . show 0<=(zh3 l)[(nearS l)[j][m.toNat]]
      simp only [e];exact k4
    . show (zh3 l)[(nearS l)[j][m.toNat]]+a+n<=_
      simp only [e];exact k5
 have hasP_pt:∀ (i:Nat) (hi:i<l.length) (a:Int) (k:Nat),zpz l[i].parts a k=true->0<=a/\∃ h4:a.toNat<l[i].parts.length,l[i].parts[a.toNat].params=k:=fun i hi a k h=>by
  unfold zpz at h;rw [vae] at h;refine ⟨of_decide_eq_true h.1,?_⟩;have h2:=h.2
  by_cases h4:a.toNat<l[i].parts.length
  . rw [vaj h4] at h2
    exact ⟨h4,of_decide_eq_true h2⟩
  . rw [vbi (by omega)] at h2
    cases h2
 have hq:∀ (lc m a:Int) (k:Nat),zom (zjv l[j] (zt8 (usesU l l[j])) (zo1 (usesU l l[j])) lc) m a k=true->zwd (cxS l lim) j k m a:=fun lc m a k h=>by
  unfold zom at h
  by_cases h0:m=0
  . subst h0
    rw [if_pos rfl] at h;obtain ⟨i,hi,k1,k2,e,e0, -⟩:=z2s hA hN hj 0 (vcv _) (by omega);obtain rfl:=e0 rfl;obtain ⟨ha,k4,k5⟩:=hasP_pt i hi a k h;refine ⟨vcv _,ha,k1,k2,by show (nearS l)[i][(0:Int).toNat]<l.length;rw [e];exact hi,?_,?_⟩
    . show a.toNat<(l[(nearS l)[i][(0:Int).toNat]]'_).parts.length
      simp only [e];exact k4
    . show ((l[(nearS l)[i][(0:Int).toNat]]'_).parts[a.toNat]'_).params=k
      simp only [e];exact k5
  . rw [if_neg h0,vae] at h
    have hu:1<=m/\m<=l[j].uses.length:=of_decide_eq_true h.1;obtain ⟨i,hi,k1,k2,e, -,e1⟩:=z2s hA hN hj m (by omega) hu.2
    have hx:zpz l[i].parts a k=true:=by
     have:=h.2;unfold zjv zo1 at this;simp only [e1 (by omega)] at this;exact this
    obtain ⟨ha,k4,k5⟩:=hasP_pt i hi a k hx;refine ⟨by omega,ha,k1,k2,by show (nearS l)[j][m.toNat]<l.length;rw [e];exact hi,?_,?_⟩
    . show a.toNat<(l[(nearS l)[j][m.toNat]]'_).parts.length
      simp only [e];exact k4
    . show ((l[(nearS l)[j][m.toNat]]'_).parts[a.toNat]'_).params=k
      simp only [e];exact k5
 have hP:∀ p ∈ l[j].parts,0<=p.params/\0<=p.locals/\p.params+p.locals<=16:=fun p hp'=>by
  unfold zeh at hh;simp only [vae] at hh;have:=vas.1 hh.2.1 p hp';unfold ptB at this;simp only [vae,decide_eq_true_eq] at this;omega
 refine ⟨fun a ha=>zna (hn 0) (hq 0) rfl 6 l[j].main hm a ha,fun p hp'=>⟨(hP p hp').1,(hP p hp').2.1,(hP p hp').2.2,fun a ha=>?_⟩⟩;have h5:=hP p hp';exact zna (hn (p.params+p.locals)) (hq (p.params+p.locals)) (by show p.params+p.locals=((p.params+p.locals).toNat:Nat);omega) 6 p.body (vas.1 hp p hp') a ha
end Go.Proofs.YtndkhgakfodldaaGreatDoor

namespace Go.Proofs.YtndkhgakfodldaaGreatDoor
set_option maxRecDepth 100000
set_option maxHeartbeats 6400000
open Go.RowKit Go.Shelf
set_option linter.unusedSimpArgs false
set_option linter.unusedVariables false
def errS (l:List Un) (inp:List Int) (ticks:Int):Int:=if zhz l≠0 then zhz l else if 64<inp.length then 2 else if ticks<0\/2000<ticks then 3 else 0
def ansS (l:List Un) (inp:List Int) (ticks:Int):Rs:=if errS l inp ticks=0 then (zqe l inp ticks.toNat).res else ⟨0,[],[],0⟩
def zow (w:World) (b:Nat) (x0 x1 x2 x3:Value):World:=(((w.setCell ⟨b,0,none⟩ x0).setCell ⟨b,1,none⟩ x1).setCell ⟨b,2,none⟩ x2).setCell ⟨b,3,none⟩ x3
theorem zdq {B:Nat} {w w':World} {b:Nat} (h:Below B w w') (hb:B<=b) (x0 x1 x2 x3:Value):Below B w (zow w' b x0 x1 x2 x3):=
 (((h.setCell (p:=⟨b,0,none⟩) hb _).setCell (p:=⟨b,1,none⟩) hb _).setCell (p:=⟨b,2,none⟩) hb _).setCell (p:=⟨b,3,none⟩) hb _
theorem zrx {w:World} {b k:Nat} (hn:k≠b) (x0 x1 x2 x3:Value):(zow w b x0 x1 x2 x3).heap[k]? = w.heap[k]?:=
 (zac hn _).trans ((zac hn _).trans ((zac hn _).trans (zac hn _)))
theorem ze0.ne {w w':World} {a:OA} {l:List Int} {n:Nat} (h:ze0 w a l) (hz:w.heap.size<=w'.heap.size) (hk:∀ b,b≠n->w'.heap[b]? = w.heap[b]?) (ha:∀ b off,a=some ⟨b,off,none⟩->l≠[]->b≠n):ze0 w' a l:=by
 rcases h with h | ⟨b,off,e,hl,hc⟩
 . exact Or.inl h
 . by_cases h0:l=[]
   . exact Or.inl h0
   . exact Or.inr ⟨b,off,e,vac hl hz,fun i hi=>(zd9 (hk b (ha b off e h0)) _).trans (hc i hi)⟩
theorem Wd.belowB {w w':World} {B base:Nat} {cx:Cx} {K:Wk} {vo vo':Value} {s:Sw} {e:Int} (h:Wd w B base cx K vo s e) (hf:Fm B K.D vo vo' w w'):Below base w w':=by
 have h1:=h.ro.lB;have h2:=h.ro.lD;have h3:=h.ro.BS;have h4:=h.ro.zS;exact ⟨hf.os,hf.tape,hf.output,hf.size,fun k hk=>hf.block k (by omega) (by omega) (by omega) (fun e=>by have:=(h.out.lt k e).1;omega)⟩
theorem Rr.res_eq {α:Type} (r:Rr α):r.res=⟨r.en,r.st.out,r.st.data,r.st.ticks⟩:=by cases r<;>rfl
theorem ztw (l:List Un) (inp:List Int) (ticks:Int) (au:OA) (cu:Nat) (ai:OA) (ci:Nat) (w:World) (hD:DAt w Tt au l.length (zfs l)) (hI:DAt w Tt ai inp.length (zdx inp)) (hci:inp.length<=ci) (hS:∀ u ∈ l,u.uses.length<=2000000) :
 Calls Tryz.prog 25 #[.slice au l.length cu,.slice ai inp.length ci,.int .i64 ticks] w fun e w'=>Below w.heap.size w w'/\∃ v,e = .returned (.tuple #[v,.int .i64 (errS l inp ticks)])/\zzv w' (ansS l inp ticks) v:=by
 have hbi:=hI.bound;have HB0:=hid (al1 w (.cells #[.int .i64 0,.slice none 0 0,.slice none 0 0,.int .i64 0] 51));have HC:=hid (zfg l au cu _ (hD.later HB0.out) hS);have HD:=hid hD;have HI:=hid hI;have HS:=hid hS;have hci':=hid hci
 have HZ:Hid (∀ W:World,errS l inp ticks≠0->zzv W (ansS l inp ticks) (.agg #[.int .i64 0,.slice none 0 0,.slice none 0 0,.int .i64 0])):=fun W h=>by
  unfold ansS;rw [if_neg h];exact ⟨none,0,none,0,rfl,Or.inl rfl,Or.inl rfl,vaa _⟩
 have hX0:=heap_newP w (.cells #[.int .i64 0,.slice none 0 0,.slice none 0 0,.int .i64 0] 51);have HX0:=hid hX0;clear hD hI hS hci hX0
 by_cases hE:zhz l=0
 . have hb1:(zhz l != 0)=false:=by simp [hE]
   have HR1:Hid (errS l inp ticks=if 64<inp.length then 2 else if ticks<0\/2000<ticks then 3 else 0):=if_neg (by simp [hE]);have HO:=hid (zov hE);have hE0:=hid hE;clear hE;go_enter Tryz.func25,Tryz.ntmps25;go_wp2_with fail;refine HC.out.mono ?_;rintro e w1 ⟨rfl,hb⟩;have HB1:=hid (thenB HB0.out hb);have hX1:=(hb.block _ (zab HX0.out)).trans HX0.out;have HX1:=hid hX1;obtain ⟨q0,q1,q2,q3,qz,qf⟩:=za2 hX1;clear hb hX1
   by_cases h64:64<inp.length
   . have HR:Hid (errS l inp ticks=2):=HR1.out.trans (if_pos h64)
     go_wp2_with fail;refine bodyPost_ret (v:=.tuple #[.agg #[.int .i64 0,.slice none 0 0,.slice none 0 0,.int .i64 0],.int .i64 2]) (by simp [results,Tryz.results25,go_sem,q0,q1,q2,q3,qz]) rfl ⟨?_,_,by rw [HR.out],HZ.out _ (by rw [HR.out];decide)⟩;exact zdq HB1.out (vaa _) _ _ _ _
   . have HR2:=hid (HR1.out.trans (if_neg h64))
     by_cases ht:ticks<0\/2000<ticks
     . have HR:Hid (errS l inp ticks=3):=HR2.out.trans (if_pos ht)
       by_cases ht0:ticks<0
       . clear ht
         go_wp2_with fail;refine bodyPost_ret (v:=.tuple #[.agg #[.int .i64 0,.slice none 0 0,.slice none 0 0,.int .i64 0],.int .i64 3]) (by simp [results,Tryz.results25,go_sem,q0,q1,q2,q3,qz]) rfl ⟨?_,_,by rw [HR.out],HZ.out _ (by rw [HR.out];decide)⟩;exact zdq HB1.out (vaa _) _ _ _ _
       . have ht1:2000<ticks:=ht.resolve_left ht0
         clear ht;go_wp2_with fail;refine bodyPost_ret (v:=.tuple #[.agg #[.int .i64 0,.slice none 0 0,.slice none 0 0,.int .i64 0],.int .i64 3]) (by simp [results,Tryz.results25,go_sem,q0,q1,q2,q3,qz]) rfl ⟨?_,_,by rw [HR.out],HZ.out _ (by rw [HR.out];decide)⟩;exact zdq HB1.out (vaa _) _ _ _ _
     . have HR:Hid (errS l inp ticks=0):=HR2.out.trans (if_neg ht)
       obtain ⟨t,rfl⟩:∃ t:Nat,ticks=t:=⟨ticks.toNat,by omega⟩
       have hT:t<=2000:=by omega
       have HN:=hid (zm6 l inp t au cu ai ci w1 (HD.out.later HB1.out) (HI.out.later HB1.out) hci'.out HO.out.a HO.out.n HO.out.z HO.out.f HO.out.d HO.out.s HS.out (by omega));clear ht;go_wp2_with fail;refine HN.out.mono ?_;rintro e w2 ⟨rfl,hb2,K,hW⟩
       have hcd:K.cd=(zv4 l).toNat:=by rw [hW.cd];simp [sw0]
       have hU:okU (cxS l t) K.cd:=by rw [hcd];exact HO.out.u t
       have HM:=hid (zt4 (zw1 hU (t+1)) hU hW (by show t+1<=0+(t+1);omega) HO.out.z);have HB2:=hid hb2;have HW:=hid hW;clear hb2 hW hcd hU;go_wp2_with fail;refine HM.out.mono ?_;rintro e w3 ⟨rfl,vo,hf,hw⟩;have HB3:=hid (HB2.out.trans (HW.out.belowB hf))
       have HAn:Hid (ansS l inp (t:Int)=(mainsS (En (cxS l t) (t+1)) (zipU (cxS l t).us) (sw0 l inp)).res):=by show _=_;unfold ansS;rw [if_pos HR.out];rfl
       generalize mainsS (En (cxS l t) (t+1)) (zipU (cxS l t).us) (sw0 l inp)=r at *;obtain ⟨ao,co,rfl,hco,_⟩:=zba hw.out;obtain ⟨ai',ci',hbk, -, -⟩:=hw.blk;obtain ⟨z0,z1,z2,z3,z4,z5,z6,z7,z8,z9,zz,zf⟩:=zbr hbk;have hX3:=(HB3.out.block _ (zab HX1.out)).trans HX1.out;obtain ⟨p0,p1,p2,p3,pz,pf⟩:=za2 hX3;have hn:w.heap.size<w1.heap.size:=zab HX1.out
       have m1:w.heap.size≠w1.heap.size:=by omega
       have HE:Hid (∀ x0 x1 x2 x3,zzv (zow w3.drew w.heap.size x0 x1 x2 x3) (ansS l inp (t:Int)) (.agg #[.int .i64 r.en,.slice ao r.st.out.length co,.slice (some ⟨K.D,0,none⟩) r.st.data.length K.cd,.int .i64 r.st.ticks])):=fun x0 x1 x2 x3=>by
        rw [HAn.out,Rr.res_eq]
        have hk:∀ b,b≠w.heap.size->(zow w3.drew w.heap.size x0 x1 x2 x3).heap[b]? = w3.heap[b]?:=fun b hb=>zrx hb _ _ _ _
        have hz:w3.heap.size<=(zow w3.drew w.heap.size x0 x1 x2 x3).heap.size:=by simp [zow]
        have h1:=hw.ro.lB;have h2:=hw.ro.lD;have h3:=hw.ro.BS;refine ⟨ao,co,some ⟨K.D,0,none⟩,K.cd,rfl,(ze0.own hw.out rfl).ne hz hk (fun b off e h0=>?_),(ze0.blk hw.data).ne hz hk (fun b off e h0=>?_),hco⟩
        . have h5:Value.ownBlock (.slice ao r.st.out.length co)=some b:=by
           rcases hw.out.2 with ⟨e',h0'⟩ | ⟨g,_,_,e',_⟩
           . exact absurd (vam h0') h0
           . cases e'
             cases e
             rfl
          have:=(hw.out.lt b h5).1;omega
        . cases e
          omega
       have HBe:Hid (∀ x0 x1 x2 x3,Below w.heap.size w (zow w3.drew w.heap.size x0 x1 x2 x3)):=fun x0 x1 x2 x3=>zdq (thenB HB1.out (thenB HB3.out (bdrew w3))) (vaa _) _ _ _ _
       have HR0:=hid HR.out;clear hf hw hX3 hbk HM HW HN HC z0 z1 z2 z4 z6 z8;go_wp2_with fail
       go_region_held (fun W=>W.cell? ⟨w1.heap.size,9,none⟩=some (.int .i64 r.en)/\W.cell? ⟨w1.heap.size,5,none⟩=some (.slice ao r.st.out.length co)/\W.cell? ⟨w1.heap.size,3,none⟩=some (.slice (some ⟨K.D,0,none⟩) r.st.data.length K.cd)/\W.cell? ⟨w1.heap.size,7,none⟩=some (.int .i64 r.st.ticks)) (go_keep) (fail)
       go_wp2_with fail;refine bodyPost_ret (v:=.tuple #[.agg #[.int .i64 r.en,.slice ao r.st.out.length co,.slice (some ⟨K.D,0,none⟩) r.st.data.length K.cd,.int .i64 r.st.ticks],.int .i64 0]) (by simp [results,Tryz.results25,go_sem,p0,p1,p2,p3,pz]) rfl ⟨?_,_,by rw [HR.out],HE.out _ _ _ _⟩;exact HBe.out _ _ _ _
 . have HR:Hid (errS l inp ticks=zhz l):=if_pos hE
   have hb1:(zhz l != 0)=true:=by simp [hE]
   have HE:=hid hE;clear hE;go_enter Tryz.func25,Tryz.ntmps25;go_wp2_with fail;refine HC.out.mono ?_;rintro e w1 ⟨rfl,hb⟩;have HB1:=hid (thenB HB0.out hb);obtain ⟨q0,q1,q2,q3,qz,qf⟩:=za2 ((hb.block _ (zab HX0.out)).trans HX0.out);clear hb;go_wp2_with fail;refine bodyPost_ret (v:=.tuple #[.agg #[.int .i64 0,.slice none 0 0,.slice none 0 0,.int .i64 0],.int .i64 (zhz l)]) (by simp [results,Tryz.results25,go_sem,q0,q1,q2,q3,qz]) rfl ⟨?_,_,by rw [HR.out],HZ.out _ (by rw [HR.out];exact HE.out)⟩;exact zdq HB1.out (vaa _) _ _ _ _
theorem ztx:zhz [cntUn,zfz]=0:=by kernel_rfl
theorem zwz:ansS [cntUn,zfz] [1] 9=⟨0,[6,7],[6,0,6,0,0],6⟩:=by kernel_rfl
theorem zqo:((ansS [cntUn,zfz] [4] 9).end_,(ansS [cntUn,zfz] [4] 9).out)=(2,[]):=by kernel_rfl
theorem zqp:((ansS [cntUn,zfz] [] 4).end_,(ansS [cntUn,zfz] [] 4).ticks)=(3,4):=by kernel_rfl
theorem zox (inp:List Int) (t:Nat) (hi:inp.length<=64) (ht:t<=2000):errS [cntUn,zfz] inp t=0:=by
 unfold errS;rw [ztx,if_neg (by decide),if_neg (by omega),if_neg (by omega)]
theorem zw0:∀ u ∈ [cntUn,zfz],u.uses.length<=2000000:=by
 have h1:cntUn.uses.length=0:=by kernel_rfl
 have h2:zfz.uses.length=1:=by kernel_rfl
 intro u hu
 rcases vci.1 hu with rfl | hu
 . omega
 . obtain rfl:=vby.1 hu
   omega
theorem zm9 (us:List Un) (hl:us.length=2) (hP:∀ w,Calls Tryz.prog 75 #[] w fun e w'=>∃ a,e = .returned (.slice (some a) 2 2)/\DAt w' Tt (some a) 2 (zfs us)/\Below w.heap.size w w') (hS:∀ u ∈ us,u.uses.length<=2000000) (h0:zhz us=0) (a1 a2 a3:Rs) (e1:ansS us [1] 9=a1) (e2:ansS us [4] 9=a2) (e3:ansS us [] 4=a3) (g1:errS us [1] 9=0) (g2:errS us [4] 9=0) (g3:errS us [] 4=0) (k1:a1=⟨0,[6,7],[6,0,6,0,0],6⟩) (k2:a2.end_=2) (k3:a2.out.length=0) (k4:a3.end_=3) (k5:(a3.ticks:Int)=4) (w:World) :
 Calls Tryz.prog 26 #[] w fun e w'=>e = .returned (.bool true)/\Below w.heap.size w w':=by
 have HP:=hid hP;have HS:=hid hS;have HRun:=hid (fun inp ticks a cu ai ci W (hD:DAt W Tt a us.length (zfs us)) hI hci=>ztw us inp ticks a cu ai ci W hD hI hci hS);have HC:=hid (fun a cu W (hD:DAt W Tt a us.length (zfs us))=>zfg us a cu W hD hS);have HC0:=hid (fun W=>zfg [] none 0 W ⟨vaa _,by simp [zfs],Or.inl rfl⟩ (fun u h=>by cases h));have HL:=hid hl;have HE:=hid (And.intro e1 (And.intro e2 e3));have HG:=hid (And.intro g1 (And.intro g2 g3));have H0:=hid h0;have HK:=hid k1;have HK2:=hid (And.intro k2 (And.intro k3 (And.intro k4 k5)));clear hP hS hl e1 e2 e3 g1 g2 g3 h0 k1 k2 k3 k4 k5;go_enter Tryz.func26,Tryz.ntmps26;go_wp2_with fail;refine (HP.out _).mono ?_;rintro e w1 ⟨pa,rfl,hD1,hb1⟩;have HB1:=hid hb1;have hR:=HRun.out [1] 9 (some pa) 2 (some ⟨w1.heap.size,0,none⟩) 1 (w1.alloc (.cells #[.int .i64 1] 3)) (by rw [HL.out];exact hD1.later (al1 _ _)) (zzm (heap_newP w1 _) (by decide)) (vaa _)
 rw [HL.out,HG.out.1,HE.out.1] at hR;have HR:=hid hR;clear hD1 hb1 hR;go_wp2_with fail;refine HR.out.mono ?_;rintro e w2 ⟨hb2,v2,rfl,ao,co,ad,cd,rfl,hn1,hn2, -⟩;have HB2:=hid (thenB HB1.out (thenB (al1 _ _) hb2));have HN:=hid (And.intro hn1 hn2);clear hb2 hn1 hn2 HR;have HX2:=hid (heap_newP w2 (.cells #[.int .i64 a1.end_,.slice ao a1.out.length co,.slice ad a1.data.length cd,.int .i64 a1.ticks] 51));have HBa:=hid (thenB HB2.out (al1 w2 (.cells #[.int .i64 a1.end_,.slice ao a1.out.length co,.slice ad a1.data.length cd,.int .i64 a1.ticks] 51)));go_wp2_with fail;refine (HP.out _).mono ?_;rintro e w3 ⟨pb,rfl,hD3,hb3⟩;have HB3:=hid (thenB HBa.out hb3);have HX3:=hid (zav HX2.out hb3);have HN3:=hid (And.intro (HN.out.1.later (thenB (al1 w2 _) hb3)) (HN.out.2.later (thenB (al1 w2 _) hb3)));have hR:=HRun.out [4] 9 (some pb) 2 (some ⟨w3.heap.size,0,none⟩) 1 (w3.alloc (.cells #[.int .i64 4] 3)) (by rw [HL.out];exact hD3.later (al1 _ _)) (zzm (heap_newP w3 _) (by decide)) (vaa _)
 rw [HL.out,HG.out.2.1,HE.out.2.1] at hR;have HR:=hid hR;clear hD3 hb3 hR HN HX2;go_wp2_with fail;refine HR.out.mono ?_;rintro e w4 ⟨hb4,v4,rfl,bo,bc,bd',be,rfl, -, -, -⟩;have HBb:=hid (thenB (thenB HB3.out (thenB (al1 w3 _) hb4)) (al1 w4 (.cells #[.int .i64 a2.end_,.slice bo a2.out.length bc,.slice bd' a2.data.length be,.int .i64 a2.ticks] 51)));have HX4:=hid (zav (zav HX3.out (thenB (al1 w3 _) hb4)) (al1 w4 (.cells #[.int .i64 a2.end_,.slice bo a2.out.length bc,.slice bd' a2.data.length be,.int .i64 a2.ticks] 51)));have HY4:=hid (heap_newP w4 (.cells #[.int .i64 a2.end_,.slice bo a2.out.length bc,.slice bd' a2.data.length be,.int .i64 a2.ticks] 51));have HN4:=hid (And.intro ((HN3.out.1.later (thenB (al1 w3 _) hb4)).later (al1 w4 (.cells #[.int .i64 a2.end_,.slice bo a2.out.length bc,.slice bd' a2.data.length be,.int .i64 a2.ticks] 51))) ((HN3.out.2.later (thenB (al1 w3 _) hb4)).later (al1 w4 (.cells #[.int .i64 a2.end_,.slice bo a2.out.length bc,.slice bd' a2.data.length be,.int .i64 a2.ticks] 51))))
 clear hb4 HR HN3 HX3;go_wp2_with fail;refine (HP.out _).mono ?_;rintro e w5 ⟨pc,rfl,hD5,hb5⟩;have HB5:=hid (thenB HBb.out hb5);have HX5:=hid (zav HX4.out hb5);have HY5:=hid (zav HY4.out hb5);have HN5:=hid (And.intro (HN4.out.1.later hb5) (HN4.out.2.later hb5));have hR:=HRun.out [] 4 (some pc) 2 none 0 w5 (by rw [HL.out];exact hD5) ⟨vaa _,by simp [zdx],Or.inl rfl⟩ (vaa _);rw [HL.out,HG.out.2.2,HE.out.2.2] at hR;have HR:=hid hR;clear hD5 hb5 hR HN4 HX4 HY4;go_wp2_with fail;refine HR.out.mono ?_;rintro e w6 ⟨hb6,v6,rfl,do_,dc,dd,de,rfl, -, -, -⟩;have HBc:=hid (thenB (thenB HB5.out hb6) (al1 w6 (.cells #[.int .i64 a3.end_,.slice do_ a3.out.length dc,.slice dd a3.data.length de,.int .i64 a3.ticks] 51)));have HX6:=hid (zav (zav HX5.out hb6) (al1 w6 (.cells #[.int .i64 a3.end_,.slice do_ a3.out.length dc,.slice dd a3.data.length de,.int .i64 a3.ticks] 51)))
 have HY6:=hid (zav (zav HY5.out hb6) (al1 w6 (.cells #[.int .i64 a3.end_,.slice do_ a3.out.length dc,.slice dd a3.data.length de,.int .i64 a3.ticks] 51)));have HZ6:=hid (heap_newP w6 (.cells #[.int .i64 a3.end_,.slice do_ a3.out.length dc,.slice dd a3.data.length de,.int .i64 a3.ticks] 51));have HN6:=hid (And.intro ((HN5.out.1.later hb6).later (al1 w6 (.cells #[.int .i64 a3.end_,.slice do_ a3.out.length dc,.slice dd a3.data.length de,.int .i64 a3.ticks] 51))) ((HN5.out.2.later hb6).later (al1 w6 (.cells #[.int .i64 a3.end_,.slice do_ a3.out.length dc,.slice dd a3.data.length de,.int .i64 a3.ticks] 51))));clear hb6 HR HN5 HX5 HY5;go_wp2_with fail;refine (HP.out _).mono ?_;rintro e w7 ⟨pd,rfl,hD7,hb7⟩;have hR:=HC.out (some pd) 2 w7 (by rw [HL.out];exact hD7);rw [HL.out,H0.out] at hR;have HR:=hid hR;have HB7:=hid (thenB HBc.out hb7);have HX7:=hid (zav HX6.out hb7)
 have HY7:=hid (zav HY6.out hb7);have HZ7:=hid (zav HZ6.out hb7);have HN7:=hid (And.intro (HN6.out.1.later hb7) (HN6.out.2.later hb7));clear hD7 hb7 hR HN6 HX6 HY6 HZ6;go_wp2_with fail;refine HR.out.mono ?_;rintro e w8 ⟨rfl,hb8⟩;have HB8:=hid (thenB HB7.out hb8);have HX8:=hid (zav HX7.out hb8);have HY8:=hid (zav HY7.out hb8);have HZ8:=hid (zav HZ7.out hb8);have HN8:=hid (And.intro (HN7.out.1.later hb8) (HN7.out.2.later hb8));clear hb8 HR HN7 HX7 HY7 HZ7;go_wp2_with fail;refine (HC0.out _).mono ?_;rintro e w9 ⟨rfl,hb9⟩;have hsn:zhz []=2:=rfl;rw [hsn];obtain rfl:=HK.out;have HB9:=hid (thenB HB8.out hb9);have HX9:=hid (zav HX8.out hb9);have HY9:=hid (zav HY8.out hb9);have HZ9:=hid (zav HZ8.out hb9);have HN9:=hid (And.intro (HN8.out.1.later hb9) (HN8.out.2.later hb9));clear hb9 HN8 HX8 HY8 HZ8 hsn
 obtain ⟨p0,p1,p2,p3,pz,pf⟩:=za2 HX9.out;have HBt:=hid (thenB (al1 w9 (.cells #[.int .i64 6,.int .i64 7] 3)) (al1 _ (.cells #[.int .i64 6,.int .i64 0,.int .i64 6,.int .i64 0,.int .i64 0] 3)));have hq1:ze0 ((w9.alloc (.cells #[.int .i64 6,.int .i64 7] 3)).alloc (.cells #[.int .i64 6,.int .i64 0,.int .i64 6,.int .i64 0,.int .i64 0] 3)) (some ⟨w9.heap.size,0,none⟩) [6,7]:=(ze0.blk (l:=[6,7]) (heap_newP w9 (.cells #[.int .i64 6,.int .i64 7] 3))).later (al1 _ _)
 have hq2:ze0 ((w9.alloc (.cells #[.int .i64 6,.int .i64 7] 3)).alloc (.cells #[.int .i64 6,.int .i64 0,.int .i64 6,.int .i64 0,.int .i64 0] 3)) (some ⟨w9.heap.size+1,0,none⟩) [6,0,6,0,0]:=ze0.blk (l:=[6,0,6,0,0]) (by
  have:=heap_newP (w9.alloc (.cells #[.int .i64 6,.int .i64 7] 3)) (.cells #[.int .i64 6,.int .i64 0,.int .i64 6,.int .i64 0,.int .i64 0] 3);rw [vdq] at this
  exact this)
 have HSr:=hid (zex 0 6 ao (some ⟨w9.heap.size,0,none⟩) ad (some ⟨w9.heap.size+1,0,none⟩) co 2 cd 5 [6,7] [6,0,6,0,0] _ (HN9.out.1.later HBt.out) hq1 (HN9.out.2.later HBt.out) hq2 (by decide) (by decide));clear hq1 hq2;go_wp2_with fail;refine HSr.out.mono ?_;rintro e w10 ⟨rfl,hb10⟩;have HB10:=hid (thenB HB9.out (thenB HBt.out hb10));obtain ⟨k2,k3,k4,k5⟩:=HK2.out;obtain ⟨y0,y1,y2,y3,yz,yf⟩:=za2 (zav HY9.out (thenB HBt.out hb10));obtain ⟨z0,z1,z2,z3,zz,zf⟩:=za2 (zav HZ9.out (thenB HBt.out hb10));rw [k2] at y0;rw [k3] at y1;rw [k4] at z0;rw [k5] at z3;clear hb10 k2 k3 k4 k5 p0 p1 p2 p3 pz pf;go_wp2_with fail
 go_returns
 exact ⟨rfl,HB10.out⟩
theorem ze3 (w:World):Calls Tryz.prog 26 #[] w fun e w'=>e = .returned (.bool true)/\Below w.heap.size w w':=
 zm9 [cntUn,zfz] rfl zp7 zw0 ztx _ _ _ rfl rfl rfl (zox [1] 9 (by decide) (by decide)) (zox [4] 9 (by decide) (by decide)) (zox [] 4 (by decide) (by decide)) zwz (congrArg Prod.fst zqo) (by rw [show (ansS [cntUn,zfz] [4] 9).out=[] from congrArg Prod.snd zqo];rfl) (congrArg Prod.fst zqp) (by rw [show (ansS [cntUn,zfz] [] 4).ticks=4 from congrArg Prod.snd zqp];rfl) w
theorem zin {l:List Un} {inp:List Int} {ticks:Int} (h:errS l inp ticks=0):zhz l=0/\inp.length<=64/\0<=ticks/\ticks<=2000:=by
 unfold errS at h
 split at h
 . rename_i h1;exact absurd h h1
 . rename_i h1
   split at h
   . cases h
   . split at h
     . cases h
     . exact ⟨by simpa using h1,by omega,by omega,by omega⟩
theorem zty {l:List Un} {inp:List Int} {ticks:Int} (h1:zhz l=0) (h2:inp.length<=64) (h3:0<=ticks) (h4:ticks<=2000):errS l inp ticks=0:=by
 unfold errS;rw [if_neg (by simp [h1]),if_neg (by omega),if_neg (by omega)]
theorem zoy {l:List Un} {inp:List Int} {ticks:Int} (h:errS l inp ticks=0):ansS l inp ticks=(zqe l inp ticks.toNat).res:=if_pos h
theorem ztz {l:List Un} {inp:List Int} {ticks:Int} (h:errS l inp ticks=0):(ansS l inp ticks).out.length<=200/\((ansS l inp ticks).data.length:Int)=sumD l/\sumD l<=512:=by
 rw [zoy h];have h1:=zyz l inp ticks.toNat;have h2:=zov (zin h).1;have h3:=(zho l h2.d l.length).1;rw [vaz] at h3;refine ⟨h1.2,?_,h2.s⟩;rw [h1.1];unfold zv4;omega
end Go.Proofs.YtndkhgakfodldaaGreatDoor
