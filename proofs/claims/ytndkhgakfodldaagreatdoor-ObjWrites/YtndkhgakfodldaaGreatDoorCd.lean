import Derived.Test.YtndkhgakfodldaaGreatDoorCb
namespace Go.Proofs.YtndkhgakfodldaaGreatDoor
set_option maxRecDepth 100000
set_option maxHeartbeats 800000
open Go.RowKit Go.Maps
abbrev Tt:Nat->Prop:=fun _=>True
theorem Tryz.infoBody:(Tryz.prog.info? 25).map (fun i=>(i.zero,i.size,i.bytes))=some (some (.slice none 0 0),1,24):=by kernel_rfl
def zw9 (w:World) (xs:List Value) (bs:List (List St)):Prop:=xs.length=bs.length/\∀ i (h:i<bs.length),∃ a c,xs[i]? = some (.slice a bs[i].length c)/\DAt w Tt a bs[i].length (zb0 bs[i])
theorem zw9.later {w w':World} {xs:List Value} {bs:List (List St)} (h:zw9 w xs bs) (hb:Below w.heap.size w w'):zw9 w' xs bs:=
 ⟨h.1,fun i hi=>by obtain ⟨a,c,h1,h2⟩:=h.2 i hi;exact ⟨a,c,h1,h2.later hb⟩⟩
theorem zw9.nil (w:World):zw9 w [] []:=⟨rfl,fun i h=>by simp at h⟩
theorem zw9.snoc {w:World} {xs:List Value} {bs:List (List St)} (h:zw9 w xs bs) {l:List St} {a:OA} {c:Nat} (hd:DAt w Tt a l.length (zb0 l)):zw9 w (xs++[.slice a l.length c]) (bs++[l]):=by
 refine ⟨by simp [h.1],fun i hi=>?_⟩
 rcases vbj i bs.length with hlt | hge
 . obtain ⟨a',c',h1,h2⟩:=h.2 i hlt
   refine ⟨a',c',?_,?_⟩
   . rw [vbi (by rw [h.1];exact hlt),vcu hlt];exact h1
   . rw [vcu hlt];exact h2
 . have:i=bs.length:=by simp at hi;omega
   subst this;refine ⟨a,c,?_,?_⟩
   . rw [vbk (by rw [h.1];exact vaa _),h.1];simp
   . simpa using hd
def zro (w:World) (a:OA) (bs:List (List St)):Prop:=∀ i (h:i<bs.length),∃ b off a' c',a=some ⟨b,off,none⟩/\b<w.heap.size/\w.cell? ⟨b,off+i,none⟩=some (.slice a' bs[i].length c')/\DAt w Tt a' bs[i].length (zb0 bs[i])
theorem zro.later {w w':World} {a:OA} {bs:List (List St)} (h:zro w a bs) (hb:Below w.heap.size w w'):zro w' a bs:=fun i hi=>by
 obtain ⟨b,off,a',c',h1,h2,h3,h4⟩:=h i hi;exact ⟨b,off,a',c',h1,vah h2 hb.size,(hb.cell (p:=⟨b,off+i,none⟩) h2).trans h3,h4.later hb⟩
theorem zw9.at {w:World} {base g n cap:Nat} {xs:List Value} {bs:List (List St)} (h:zw9 w xs bs) (hown:w.ownsRow base 25 1 (.slice (some ⟨g,0,none⟩) n cap) n xs):zro w (some ⟨g,0,none⟩) bs:=by
 intro i hi;obtain ⟨a',c',h1,h2⟩:=h.2 i hi;have hc:=hown.cells (g:=g) rfl i _ h1;have hlt:=(hown.lt g rfl).2
 have e:(⟨g,0,none⟩:Addr).add i=⟨g,i,none⟩:=by unfold Addr.add;split<;>simp_all
 rw [e] at hc;exact ⟨g,0,a',c',rfl,hlt,by rw [vbq];exact hc,h2⟩
theorem Blk.grown {w w':World} {b:Nat} {cs:List Value} {row:Option Nat} (h:Blk w b cs) (hg:w.grownBy w' row) (hne:some b≠row):Blk w' b cs:=
 ⟨vah h.lt hg.size,fun j v hj=>(vet (w:=w) (hg.block b h.lt hne)).trans (h.cell j v hj)⟩
theorem zyu (w:World) (v:Value) (t:TypeId) (n:Nat) (hn:n=w.heap.size):∀ j u,[v][j]? = some u->(w.alloc (.cells #[v] t)).cell? ((⟨n,0,none⟩:Addr).add j)=some u:=by
 subst hn;intro j u hj
 have e:(⟨w.heap.size,0,none⟩:Addr).add j=⟨w.heap.size,j,none⟩:=by unfold Addr.add;split<;>simp_all
 rw [e];exact (Blk.new w #[v] t).cell j u hj
theorem zj2 (m:Mo) (v:Value) (a1:OA) (c1:Nat) (a2:OA) (c2:Nat) (a3:OA) (c3:Nat) (a4:OA) (c4:Nat) (w:World) (hM:MoAt w Tt m v a1 c1 a2 c2 a3 c3 a4 c4) :
 Calls Tryz.prog 183 #[v] w fun e w'=>∃ a cap,e = .returned (.slice a m.bodies.length cap)/\zro w' a m.bodies/\Below w.heap.size w w':=by
 obtain ⟨rfl,hna,hU,hDe,hP,hMa⟩:=hM;obtain ⟨i0,hi,hz0,hz1,hz2⟩:=info_parts Tryz.infoBody
 have hbd:m.procs.length<=3518437208883:=by
  have h1:=hP.2.1
  have h2:(zjc m.procs).length=m.procs.length*5:=by
   unfold zjc;rw [List.length_flatMap]
   have:∀ l:List Pr,(l.map (fun x=>x.ds.length)).sum=l.length*5:=by
    intro l
    induction l with
    | nil=>rfl
    | cons x r ih=>rw [vcz,List.sum_cons,ih,vas];have:x.ds.length=5:=rfl;omega
   exact this _
  omega
 have HP:Hid (DAt w Tt a3 m.procs.length (zjc m.procs)):=hP;have HM:Hid (DAt w Tt a4 m.main.length (zb0 m.main)):=hMa;clear hU hDe hP hMa;go_enter Tryz.func183,Tryz.ntmps183;go_wp2_with fail;have HB:=Blk.new w #[.string m.name,.slice a1 m.uses.length c1,.slice a2 m.decls.length c2,.slice a3 m.procs.length c3,.slice a4 m.main.length c4] 27
 go_loopw [9,3] (fun i v wr=>∃ (j:Nat) (xs:List Value),j<=m.procs.length/\i = .int .i64 j/\wr.ownsRow (w.heap.size+1) 25 1 v j xs/\zw9 w xs ((m.procs.take j).map Pr.body)/\Below w.heap.size w wr/\Blk wr w.heap.size [.string m.name,.slice a1 m.uses.length c1,.slice a2 m.decls.length c2,.slice a3 m.procs.length c3,.slice a4 m.main.length c4]) (fun i _ _=>m.procs.length - (intOf i).toNat)
 case atStart=>exact ⟨0,[],vae _,rfl,ves _ _ _ _,zw9.nil _,al1 _ _,HB⟩
 case round=>
  clear HB;obtain ⟨j,xs,hj,rfl,hown,hBo,hb,hB⟩:=hrel;have HO:Hid (wr.ownsRow (w.heap.size+1) 25 1 u3 j xs):=hown;have HQ:Hid (zw9 w xs ((m.procs.take j).map Pr.body)):=hBo;have HB:Hid (Blk wr w.heap.size [.string m.name,.slice a1 m.uses.length c1,.slice a2 m.decls.length c2,.slice a3 m.procs.length c3,.slice a4 m.main.length c4]):=hB;have HL:Hid (∀ k,u3.ownBlock=some k->w.heap.size+1<=k/\k<wr.heap.size):=hown.lt;obtain ⟨q0,q1,q2,q3,q4,qz⟩:=hB.c5;clear hown hBo hB
  by_cases hlt:j<m.procs.length
  . obtain ⟨b,off,b1,d1,b2,d2,b3,d3,rfl,hx⟩:=(HP.out.later hb).pr j hlt
    have hc0:=hx.c0;have hc1:=hx.c1;have hc2:=hx.c2;have hc3:=hx.c3;have hc4:=hx.c4;have hlb:=hx.lt
    have HX:Hid (DAt w Tt b3 m.procs[j].body.length (zb0 m.procs[j].body)):=by
     obtain ⟨b',off',b1',d1',b2',d2',b3',d3',e,hx'⟩:=HP.out.pr j hlt
     injection e with e
     injection e with e1 e2
     subst e1;subst e2;have h4:=(hb.cell (p:=⟨b,off+j*5+4,none⟩) hx'.lt).trans hx'.c4;rw [hx.c4] at h4
     injection h4 with h4
     injection h4 with h4 _ _
     subst h4;exact hx'.body
    have HS:Hid ((m.procs.take (j+1)).map Pr.body=(m.procs.take j).map Pr.body++[m.procs[j].body]):=by
     show _=_
     rw [vag hlt,vdf];rfl
    clear hx
    go_wp2_with (at_builtin;refine wpList_append_lies _ rfl _ _ 271 rfl (w.heap.size+1) 25 i0 _ 1 24 Tryz.underlying271 hi hz0 hz1 hz2 rfl (by decide) _ j xs rfl ((HO.out.alloc _).alloc _) _ 1 1 [.slice b3 m.procs[j].body.length d3] rfl rfl (zyu _ _ _ _ (by simp)) (by simp [Value.oneCell']) (by omega) (by unfold maxLen;omega) (by omega) (by simp;omega) _ rfl ?_;intro g cp w2 hown2 hg2 hat2 hlt2)
    have hg:wr.grownBy w2 u3.ownBlock:=((vex wr _ _).trans (vex _ _ _)).trans hg2;have hb2:Below w.heap.size w w2:=hb.grown hg hb.size (fun k hk=>by have:=(HL.out k hk).1;omega);have K2:=HB.out.grown hg (fun e=>by have:=(HL.out _ e.symm).1;omega);clear hg2 hat2 hg;go_roundw
    case rel=>exact ⟨j+1,xs++[.slice b3 m.procs[j].body.length d3],by omega,by go_num,hown2,by rw [HS.out];exact HQ.out.snoc HX.out,hb2,K2⟩
    case measure=>simp [intOf];omega
  . have hje:j=m.procs.length:=by omega
    subst hje
    have HS:Hid (m.bodies=(m.procs.take m.procs.length).map Pr.body++[m.main]):=by show _=_;rw [vaz];rfl
    have HN:Hid (m.bodies.length=m.procs.length+1):=by show _=_;simp [Mo.bodies]
    go_wp2_with (at_builtin;refine wpList_append_lies _ rfl _ _ 271 rfl (w.heap.size+1) 25 i0 _ 1 24 Tryz.underlying271 hi hz0 hz1 hz2 rfl (by decide) _ m.procs.length xs rfl (HO.out.alloc _) _ 1 1 [.slice a4 m.main.length c4] rfl rfl (zyu _ _ _ _ (by simp)) (by simp [Value.oneCell']) (by omega) (by unfold maxLen;omega) (by omega) (by simp;omega) _ rfl ?_;intro g cp w2 hown2 hg2 hat2 hlt2)
    have hg:wr.grownBy w2 u3.ownBlock:=(vex wr _ _).trans hg2;have hb2:Below w.heap.size w w2:=hb.grown hg hb.size (fun k hk=>by have:=(HL.out k hk).1;omega);clear hg2 hat2 hg;go_ret;refine ⟨some ⟨g,0,none⟩,cp,?_,?_,hb2⟩
    . rw [HN.out];rfl
    have:=(HQ.out.snoc (c:=c4) HM.out).later hb2;rw [HS.out];exact this.at hown2
theorem zti (s:ByteArray) (w:World) (hs:s.size<=maxLen) :
 Calls Tryz.prog 240 #[.string s] w fun e w'=>e = .returned (.bool (!nameOk s))/\Below w.heap.size w w':=by
 go_enter Tryz.func240,Tryz.ntmps240
 go_wp2_with (go_at_call 186;refine (zeq s _ hs).mono ?_;rintro e w' ⟨rfl,hb⟩)
 go_ret;exact ⟨rfl,hb⟩
theorem znj (l:List ByteArray) (a:OA) (cap:Nat) (w:World) (hD:DAt w Tt a l.length (zao l)) :
 Calls Tryz.prog 279 #[.slice a l.length cap,.func (.func 240) #[] #[]] w fun e w'=>∃ n:Int,e = .returned (.int .i64 n)/\decide (0<=n) = !l.all nameOk/\Below w.heap.size w w':=by
 have hbd:=hD.bound;have HD:Hid (DAt w Tt a l.length (zao l)):=hD;clear hD;go_enter Tryz.func279,Tryz.ntmps279;go_wp2_with fail
 go_loopw [8] (fun i wr=>∃ j:Nat,j<=l.length/\i = .int .i64 j/\(l.take j).all nameOk=true/\Below w.heap.size w wr) (fun i _=>l.length - (intOf i).toNat)
 case atStart=>exact ⟨0,vae _,rfl,rfl,Below.refl _ _⟩
 case round=>
  obtain ⟨j,hj,rfl,hall,hb⟩:=hrel;have HA:Hid ((l.take j).all nameOk=true):=hall;clear hall
  by_cases hlt:j<l.length
  . obtain ⟨b,off,rfl,hlb,hc,hsz⟩:=(HD.out.later hb).str j hlt
    go_wp2_with fail;refine (zti l[j] _ hsz).mono ?_
    cases hn:nameOk l[j] with
    | false=>
      have HF:Hid (l.all nameOk=false):=all_not l _ j hlt hn;rintro e w3 ⟨rfl,hb3⟩;go_wp2_with fail;go_ret;exact ⟨j,rfl,by rw [HF.out];simp,thenB hb hb3⟩
    | true=>
      have HT:Hid ((l.take (j+1)).all nameOk=true):=by
       show _=_
       rw [all_snoc l _ j hlt,HA.out,hn];rfl
      rintro e w3 ⟨rfl,hb3⟩;go_wp2_with fail;go_roundw
      case rel=>exact ⟨j+1,by omega,by go_num,HT.out,thenB hb hb3⟩
      case measure=>simp [intOf];omega
  . have HT:Hid (l.all nameOk=true):=zde HA.out hlt
    go_wp2_with fail;go_ret;exact ⟨-1,rfl,by rw [HT.out];rfl,hb⟩
theorem zgv (l:List ByteArray) (a:OA) (cap:Nat) (w:World) (hD:DAt w Tt a l.length (zao l)) :
 Calls Tryz.prog 187 #[.slice a l.length cap] w fun e w'=>e = .returned (.bool (l.all nameOk))/\Below w.heap.size w w':=by
 have HC:Hid (Calls Tryz.prog 239 #[.slice a l.length cap,.func (.func 240) #[] #[]] w fun e w'=>e = .returned (.bool (!l.all nameOk))/\Below w.heap.size w w'):=by
  have HI:Hid (Calls Tryz.prog 279 #[.slice a l.length cap,.func (.func 240) #[] #[]] w fun e w'=>∃ n:Int,e = .returned (.int .i64 n)/\decide (0<=n) = !l.all nameOk/\Below w.heap.size w w'):=znj l a cap w hD;clear hD;show Calls _ _ _ _ _;go_enter Tryz.func239,Tryz.ntmps239
  go_wp2_with (go_at_call 279;refine HI.out.mono ?_;rintro e w' ⟨n,rfl,hn,hb⟩)
  go_ret;exact ⟨rfl,hb⟩
 clear hD;go_enter Tryz.func187,Tryz.ntmps187
 go_wp2_with (go_at_call 239;refine HC.out.mono ?_;rintro e w' ⟨rfl,hb⟩)
 go_ret;exact ⟨zaa (by simp),hb⟩
set_option maxHeartbeats 3200000
abbrev mC (m:Mo) (a:OA) (b:Nat) (c:OA) (e:Nat) (f:OA) (g:Nat) (h:OA) (i:Nat):Obj:=.cells #[.string m.name,.slice a m.uses.length b,.slice c m.decls.length e,.slice f m.procs.length g,.slice h m.main.length i] 27
theorem hid {q:Prop} (h:q):Hid q:=h
theorem zgf {w:World} {a:OA} {l:List Pr} (h:DAt w Tt a l.length (zjc l)):l.length<=3518437208883:=by
 have h1:=h.2.1
 have h2:(zjc l).length=l.length*5:=by
  unfold zjc;rw [List.length_flatMap]
  have:∀ l:List Pr,(l.map (fun x=>x.ds.length)).sum=l.length*5:=by
   intro l
   induction l with
   | nil=>rfl
   | cons x r ih=>rw [vcz,List.sum_cons,ih,vas];have:x.ds.length=5:=rfl;omega
  exact this _
 omega
theorem zrp
 (be bs:Nat) (m:Mo) (v:Value) (a1:OA) (c1:Nat) (a2:OA) (c2:Nat) (a3:OA) (c3:Nat) (a4:OA) (c4:Nat) (w:World) (hM:MoAt w Tt m v a1 c1 a2 c2 a3 c3 a4 c4) (hS:zdn w be 15 zkb) (hT:zdn w bs 7 znh) :
 Calls Tryz.prog 152 #[.agg #[.map (some be),.map (some bs)],v] w fun e w'=>e = .returned (.bool m.kinds)/\Below w.heap.size w w':=by
 have HR:Hid (m.kinds=(m.decls.all (fun d:De=>decide (1<=d.kind)&&decide (d.kind<=3))&&m.bodies.all (zay 6))):=rfl;obtain rfl:=hM.val;have hn1:=hM.uses.bound;have hn2:=hM.decls.bound;have HP:Hid (m.procs.length<=3518437208883):=zgf hM.procs;have hn3:=HP.out;have HM:Hid (MoAt w Tt m (.agg #[.string m.name,.slice a1 m.uses.length c1,.slice a2 m.decls.length c2,.slice a3 m.procs.length c3,.slice a4 m.main.length c4]) a1 c1 a2 c2 a3 c3 a4 c4):=hM;have HS:Hid (zdn w be 15 zkb):=hS;have HU:Hid (zdn w bs 7 znh):=hT;clear hM hS hT;have HB0:Hid (Blk ((w.alloc (.cells #[.map (some be),.map (some bs)] 235)).alloc (mC m a1 c1 a2 c2 a3 c3 a4 c4)) w.heap.size [.map (some be),.map (some bs)]):=Blk.new1 w _ _ _;have HB1:Hid (Blk ((w.alloc (.cells #[.map (some be),.map (some bs)] 235)).alloc (mC m a1 c1 a2 c2 a3 c3 a4 c4)) (w.heap.size+1) [.string m.name,.slice a1 m.uses.length c1,.slice a2 m.decls.length c2,.slice a3 m.procs.length c3,.slice a4 m.main.length c4]):=Blk.new2 w _ _ _
 go_enter Tryz.func152,Tryz.ntmps152;go_wp2_with fail
 go_loopw [12] (fun i wr=>∃ j:Nat,j<=m.decls.length/\i = .int .i64 j/\(m.decls.take j).all (fun d:De=>decide (1<=d.kind)&&decide (d.kind<=3))=true/\Below w.heap.size w wr/\Blk wr w.heap.size [.map (some be),.map (some bs)]/\Blk wr (w.heap.size+1) [.string m.name,.slice a1 m.uses.length c1,.slice a2 m.decls.length c2,.slice a3 m.procs.length c3,.slice a4 m.main.length c4]) (fun i _=>m.decls.length - (intOf i).toNat)
 case atStart=>exact ⟨0,vae _,rfl,rfl,al2 _ _ _,HB0.out,HB1.out⟩
 case round=>
  clear HB0 HB1;obtain ⟨j,hj,rfl,hall,hb,hB0,hB1⟩:=hrel;have HA:Hid ((m.decls.take j).all (fun d:De=>decide (1<=d.kind)&&decide (d.kind<=3))=true):=hall;obtain ⟨q0,q1,qz⟩:=hB0.c2;obtain ⟨m0,m1,m2,m3,m4,mz⟩:=hB1.c5;have HB0:Hid (Blk wr w.heap.size [.map (some be),.map (some bs)]):=hB0;have HB1:=hid hB1;clear hall hB0 hB1
  by_cases hlt:j<m.decls.length
  . obtain ⟨b,off,rfl,hx⟩:=(HM.out.decls.later hb).de j hlt
    have hc0:=hx.c0;have hc1:=hx.c1;have hc2:=hx.c2;have hc3:=hx.c3;have hlb:=hx.lt;clear hx
    by_cases hk:1<=m.decls[j].kind/\m.decls[j].kind<=3
    . obtain ⟨hk1,hk3⟩:=hk
      have HT:Hid ((m.decls.take (j+1)).all (fun d:De=>decide (1<=d.kind)&&decide (d.kind<=3))=true):=by
       show _=_
       rw [all_snoc m.decls _ j hlt,HA.out];simp [hk1,hk3]
      go_wp2_with fail;go_roundw
      case rel=>exact ⟨j+1,by omega,by go_num,HT.out,thenB hb (al1 _ _),HB0.out.later (al1 _ _),HB1.out.later (al1 _ _)⟩
      case measure=>simp [intOf];omega
    . have HF:Hid (m.decls.all (fun d:De=>decide (1<=d.kind)&&decide (d.kind<=3))=false):=all_not m.decls _ j hlt (by simp;omega)
      by_cases hk1:m.decls[j].kind<1
      . clear hk
        go_wp2_with fail;go_ret;exact ⟨zaa (by rw [HR.out,HF.out];rfl),thenB hb (al1 _ _)⟩
      . have hk3:3<m.decls[j].kind:=by omega
        clear hk;go_wp2_with fail;go_ret;exact ⟨zaa (by rw [HR.out,HF.out];rfl),thenB hb (al1 _ _)⟩
  . have HT1:Hid (m.decls.all (fun d:De=>decide (1<=d.kind)&&decide (d.kind<=3))=true):=zde HA.out hlt
    go_wp2_with fail;refine (zj2 m _ a1 c1 a2 c2 a3 c3 a4 c4 _ (HM.out.later hb)).mono ?_;rintro e w5 ⟨ba,bc,rfl,hBA,hb5⟩;have HBA:Hid (zro w5 ba m.bodies):=hBA
    have hbn:m.bodies.length<=4000000000000:=by have:=HP.out;simp [Mo.bodies];omega
    have k0:=HB0.out.later hb5;have k1:=HB1.out.later hb5;have hb6:=thenB hb hb5;clear hb5 hBA HB0 HB1;clear q0 q1 qz m0 m1 m2 m3 m4 mz;have HB0:Hid (Blk w5 w.heap.size [.map (some be),.map (some bs)]):=k0;have HB1:=hid k1;have Hb6:Hid (Below w.heap.size w w5):=hb6;clear k0 k1 hb6;go_wp2_with fail
    go_loopw [28] (fun i wr=>∃ j:Nat,j<=m.bodies.length/\i = .int .i64 j/\(m.bodies.take j).all (zay 6)=true/\Below w5.heap.size w5 wr/\Blk wr w.heap.size [.map (some be),.map (some bs)]/\Blk wr (w.heap.size+1) [.string m.name,.slice a1 m.uses.length c1,.slice a2 m.decls.length c2,.slice a3 m.procs.length c3,.slice a4 m.main.length c4]) (fun i _=>m.bodies.length - (intOf i).toNat)
    case atStart=>exact ⟨0,vae _,rfl,rfl,Below.refl _ _,HB0.out,HB1.out⟩
    case round=>
     clear HB0 HB1;obtain ⟨j,hj,rfl,hall,hb7,hB0,hB1⟩:=hrel;have HA:Hid ((m.bodies.take j).all (zay 6)=true):=hall;obtain ⟨q0,q1,qz⟩:=hB0.c2;obtain ⟨m0,m1,m2,m3,m4,mz⟩:=hB1.c5;have HB0:Hid (Blk wr w.heap.size [.map (some be),.map (some bs)]):=hB0;have HB1:=hid hB1;clear hall hB0 hB1
     by_cases hlt:j<m.bodies.length
     . obtain ⟨b,off,aa,cp,rfl,hlb,hc,hx⟩:=(HBA.out.later hb7) j hlt
       have HX:Hid (DAt wr Tt aa m.bodies[j].length (zb0 m.bodies[j])):=hx;clear hx;go_wp2_with fail;refine (zlr be bs Tt 6 (by omega) m.bodies[j] aa cp 1 _ (by omega) HX.out ((HS.out.later Hb6.out).later hb7) ((HU.out.later Hb6.out).later hb7)).mono ?_
       cases h1:zay 6 m.bodies[j] with
       | false=>
         have HF:Hid (m.bodies.all (zay 6)=false):=all_not m.bodies _ j hlt h1;rintro e w8 ⟨rfl,hb8⟩;go_wp2_with fail;go_ret;exact ⟨zaa (by rw [HR.out,HF.out];simp),thenB Hb6.out (thenB hb7 hb8)⟩
       | true=>
         have HT:Hid ((m.bodies.take (j+1)).all (zay 6)=true):=by
          show _=_
          rw [all_snoc m.bodies _ j hlt,HA.out,h1];rfl
         rintro e w8 ⟨rfl,hb8⟩;have k0:=HB0.out.later hb8;have k1:=HB1.out.later hb8;go_wp2_with fail;go_roundw
         case rel=>exact ⟨j+1,by omega,by go_num,HT.out,thenB hb7 hb8,k0,k1⟩
         case measure=>simp [intOf];omega
     . have HT:Hid (m.bodies.all (zay 6)=true):=zde HA.out hlt
       go_wp2_with fail;go_ret;exact ⟨zaa (by rw [HR.out,HT.out];simp [HT1.out]),thenB Hb6.out hb7⟩
theorem znk
 (be bs:Nat) (m:Mo) (v:Value) (a1:OA) (c1:Nat) (a2:OA) (c2:Nat) (a3:OA) (c3:Nat) (a4:OA) (c4:Nat) (w:World) (hM:MoAt w Tt m v a1 c1 a2 c2 a3 c3 a4 c4) (hS:zdn w be 15 zkb) (hT:zdn w bs 7 znh) :
 Calls Tryz.prog 153 #[.agg #[.map (some be),.map (some bs)],v] w fun e w'=>e = .returned (.bool m.many)/\Below w.heap.size w w':=by
 by_cases hu:3<m.uses.length
 . have HT:Hid (m.many=true):=by show _=_;simp [Mo.many,hu]
   obtain rfl:=hM.val;have hn1:=hM.uses.bound;clear hM hS hT;go_enter Tryz.func153,Tryz.ntmps153;go_wp2_with fail;go_ret;exact ⟨zaa HT.out.symm,al2 _ _ _⟩
 by_cases hd:10<m.decls.length
 . have HT:Hid (m.many=true):=by show _=_;simp [Mo.many,hd]
   obtain rfl:=hM.val;have hn1:=hM.uses.bound;have hn2:=hM.decls.bound;clear hM hS hT;go_enter Tryz.func153,Tryz.ntmps153;go_wp2_with fail;go_ret;exact ⟨zaa HT.out.symm,al2 _ _ _⟩
 by_cases hp:6<m.procs.length
 . have HT:Hid (m.many=true):=by show _=_;simp [Mo.many,hp]
   obtain rfl:=hM.val;have hn1:=hM.uses.bound;have hn2:=hM.decls.bound;have hn3:=zgf hM.procs;clear hM hS hT;go_enter Tryz.func153,Tryz.ntmps153;go_wp2_with fail;go_ret;exact ⟨zaa HT.out.symm,al2 _ _ _⟩
 have hR:m.many=(m.procs.any (fun p:Pr=>decide (3<p.params.length)||decide (4<p.locals.length))||m.bodies.any (zan 6)):=by simp [Mo.many,hu,hd,hp]
 have HR:Hid (m.many=(m.procs.any (fun p:Pr=>decide (3<p.params.length)||decide (4<p.locals.length))||m.bodies.any (zan 6))):=hR;clear hR;obtain rfl:=hM.val;have hn1:=hM.uses.bound;have hn2:=hM.decls.bound;have HP:Hid (m.procs.length<=3518437208883):=zgf hM.procs;have hn3:=HP.out;have HM:Hid (MoAt w Tt m (.agg #[.string m.name,.slice a1 m.uses.length c1,.slice a2 m.decls.length c2,.slice a3 m.procs.length c3,.slice a4 m.main.length c4]) a1 c1 a2 c2 a3 c3 a4 c4):=hM;have HS:Hid (zdn w be 15 zkb):=hS;have HU:Hid (zdn w bs 7 znh):=hT;clear hM hS hT;have HB0:Hid (Blk ((w.alloc (.cells #[.map (some be),.map (some bs)] 235)).alloc (mC m a1 c1 a2 c2 a3 c3 a4 c4)) w.heap.size [.map (some be),.map (some bs)]):=Blk.new1 w _ _ _;have HB1:Hid (Blk ((w.alloc (.cells #[.map (some be),.map (some bs)] 235)).alloc (mC m a1 c1 a2 c2 a3 c3 a4 c4)) (w.heap.size+1) [.string m.name,.slice a1 m.uses.length c1,.slice a2 m.decls.length c2,.slice a3 m.procs.length c3,.slice a4 m.main.length c4]):=Blk.new2 w _ _ _
 go_enter Tryz.func153,Tryz.ntmps153;go_wp2_with fail
 go_loopw [28] (fun i wr=>∃ j:Nat,j<=m.procs.length/\i = .int .i64 j/\(m.procs.take j).any (fun p:Pr=>decide (3<p.params.length)||decide (4<p.locals.length))=false/\Below w.heap.size w wr/\Blk wr w.heap.size [.map (some be),.map (some bs)]/\Blk wr (w.heap.size+1) [.string m.name,.slice a1 m.uses.length c1,.slice a2 m.decls.length c2,.slice a3 m.procs.length c3,.slice a4 m.main.length c4]) (fun i _=>m.procs.length - (intOf i).toNat)
 case atStart=>exact ⟨0,vae _,rfl,rfl,al2 _ _ _,HB0.out,HB1.out⟩
 case round=>
  clear HB0 HB1;obtain ⟨j,hj,rfl,hall,hb,hB0,hB1⟩:=hrel;have HA:Hid ((m.procs.take j).any (fun p:Pr=>decide (3<p.params.length)||decide (4<p.locals.length))=false):=hall;obtain ⟨q0,q1,qz⟩:=hB0.c2;obtain ⟨m0,m1,m2,m3,m4,mz⟩:=hB1.c5;have HB0:Hid (Blk wr w.heap.size [.map (some be),.map (some bs)]):=hB0;have HB1:=hid hB1;clear hall hB0 hB1
  by_cases hlt:j<m.procs.length
  . obtain ⟨b,off,b1,d1,b2,d2,b3,d3,rfl,hx⟩:=(HM.out.procs.later hb).pr j hlt
    have hc0:=hx.c0;have hc1:=hx.c1;have hc2:=hx.c2;have hc3:=hx.c3;have hc4:=hx.c4;have hlb:=hx.lt;have e1:=hx.params.bound;have e2:=hx.locals.bound;clear hx
    by_cases hk:m.procs[j].params.length<=3/\m.procs[j].locals.length<=4
    . obtain ⟨hk1,hk3⟩:=hk
      have HT:Hid ((m.procs.take (j+1)).any (fun p:Pr=>decide (3<p.params.length)||decide (4<p.locals.length))=false):=by
       show _=_
       rw [zlg m.procs _ j hlt,HA.out];simp;omega
      go_wp2_with fail;go_roundw
      case rel=>exact ⟨j+1,by omega,by go_num,HT.out,thenB hb (al1 _ _),HB0.out.later (al1 _ _),HB1.out.later (al1 _ _)⟩
      case measure=>simp [intOf];omega
    . have HF:Hid (m.procs.any (fun p:Pr=>decide (3<p.params.length)||decide (4<p.locals.length))=true):=zwi m.procs _ j hlt (by simp;omega)
      by_cases hk1:3<m.procs[j].params.length
      . clear hk
        go_wp2_with fail;go_ret;exact ⟨zaa (by rw [HR.out,HF.out];rfl),thenB hb (al1 _ _)⟩
      . have hk3:4<m.procs[j].locals.length:=by omega
        clear hk;go_wp2_with fail;go_ret;exact ⟨zaa (by rw [HR.out,HF.out];rfl),thenB hb (al1 _ _)⟩
  . have HT1:Hid (m.procs.any (fun p:Pr=>decide (3<p.params.length)||decide (4<p.locals.length))=false):=zqw HA.out hlt
    go_wp2_with fail;refine (zj2 m _ a1 c1 a2 c2 a3 c3 a4 c4 _ (HM.out.later hb)).mono ?_;rintro e w5 ⟨ba,bc,rfl,hBA,hb5⟩;have HBA:Hid (zro w5 ba m.bodies):=hBA
    have hbn:m.bodies.length<=4000000000000:=by have:=HP.out;simp [Mo.bodies];omega
    have k0:=HB0.out.later hb5;have k1:=HB1.out.later hb5;have hb6:=thenB hb hb5;clear hb5 hBA HB0 HB1;clear q0 q1 qz m0 m1 m2 m3 m4 mz;have HB0:Hid (Blk w5 w.heap.size [.map (some be),.map (some bs)]):=k0;have HB1:=hid k1;have Hb6:Hid (Below w.heap.size w w5):=hb6;clear k0 k1 hb6;go_wp2_with fail
    go_loopw [46] (fun i wr=>∃ j:Nat,j<=m.bodies.length/\i = .int .i64 j/\(m.bodies.take j).any (zan 6)=false/\Below w5.heap.size w5 wr/\Blk wr w.heap.size [.map (some be),.map (some bs)]/\Blk wr (w.heap.size+1) [.string m.name,.slice a1 m.uses.length c1,.slice a2 m.decls.length c2,.slice a3 m.procs.length c3,.slice a4 m.main.length c4]) (fun i _=>m.bodies.length - (intOf i).toNat)
    case atStart=>exact ⟨0,vae _,rfl,rfl,Below.refl _ _,HB0.out,HB1.out⟩
    case round=>
     clear HB0 HB1;obtain ⟨j,hj,rfl,hall,hb7,hB0,hB1⟩:=hrel;have HA:Hid ((m.bodies.take j).any (zan 6)=false):=hall;obtain ⟨q0,q1,qz⟩:=hB0.c2;obtain ⟨m0,m1,m2,m3,m4,mz⟩:=hB1.c5;have HB0:Hid (Blk wr w.heap.size [.map (some be),.map (some bs)]):=hB0;have HB1:=hid hB1;clear hall hB0 hB1
     by_cases hlt:j<m.bodies.length
     . obtain ⟨b,off,aa,cp,rfl,hlb,hc,hx⟩:=(HBA.out.later hb7) j hlt
       have HX:Hid (DAt wr Tt aa m.bodies[j].length (zb0 m.bodies[j])):=hx;clear hx;go_wp2_with fail;refine (zod be bs Tt 6 (by omega) m.bodies[j] aa cp 1 _ (by omega) HX.out ((HS.out.later Hb6.out).later hb7) ((HU.out.later Hb6.out).later hb7)).mono ?_
       cases h1:zan 6 m.bodies[j] with
       | true=>
         have HF:Hid (m.bodies.any (zan 6)=true):=zwi m.bodies _ j hlt h1;rintro e w8 ⟨rfl,hb8⟩;go_wp2_with fail;go_ret;exact ⟨zaa (by rw [HR.out,HF.out];simp),thenB Hb6.out (thenB hb7 hb8)⟩
       | false=>
         have HT:Hid ((m.bodies.take (j+1)).any (zan 6)=false):=by
          show _=_
          rw [zlg m.bodies _ j hlt,HA.out,h1];rfl
         rintro e w8 ⟨rfl,hb8⟩;have k0:=HB0.out.later hb8;have k1:=HB1.out.later hb8;go_wp2_with fail;go_roundw
         case rel=>exact ⟨j+1,by omega,by go_num,HT.out,thenB hb7 hb8,k0,k1⟩
         case measure=>simp [intOf];omega
     . have HT:Hid (m.bodies.any (zan 6)=false):=zqw HA.out hlt
       go_wp2_with fail;go_ret;exact ⟨zaa (by rw [HR.out,HT.out];simp [HT1.out]),thenB Hb6.out hb7⟩
theorem ztj
 (be bs:Nat) (m:Mo) (v:Value) (a1:OA) (c1:Nat) (a2:OA) (c2:Nat) (a3:OA) (c3:Nat) (a4:OA) (c4:Nat) (w:World) (hM:MoAt w Tt m v a1 c1 a2 c2 a3 c3 a4 c4) (hS:zdn w be 15 zkb) (hT:zdn w bs 7 znh) (hY:m.many=false) :
 Calls Tryz.prog 154 #[.agg #[.map (some be),.map (some bs)],v] w fun e w'=>e = .returned (.bool m.form)/\Below w.heap.size w w':=by
 have HY:Hid (∀ j (h:j<m.bodies.length),zan 6 m.bodies[j]=false):=fun j h=>by
  simp only [Mo.many,vay,vcj] at hY;simpa using hY.2.2.2.2 m.bodies[j] (vap h)
 clear hY;have HR:Hid (m.form=(nameOk m.name&&(m.uses.all nameOk&&(m.decls.all (fun d:De=>nameOk d.name&&ze3 d)&&(m.procs.all (fun p:Pr=>nameOk p.name&&(p.params.all nameOk&&p.locals.all nameOk))&&m.bodies.all (zaz 6)))))):=rfl;obtain rfl:=hM.val;have hn1:=hM.uses.bound;have hn2:=hM.decls.bound;have HP:Hid (m.procs.length<=3518437208883):=zgf hM.procs;have hn3:=HP.out;have HM:Hid (MoAt w Tt m (.agg #[.string m.name,.slice a1 m.uses.length c1,.slice a2 m.decls.length c2,.slice a3 m.procs.length c3,.slice a4 m.main.length c4]) a1 c1 a2 c2 a3 c3 a4 c4):=hM;have HS:Hid (zdn w be 15 zkb):=hS;have HU:Hid (zdn w bs 7 znh):=hT;clear hM hS hT;have HB0:Hid (Blk ((w.alloc (.cells #[.map (some be),.map (some bs)] 235)).alloc (mC m a1 c1 a2 c2 a3 c3 a4 c4)) w.heap.size [.map (some be),.map (some bs)]):=Blk.new1 w _ _ _
 have HB1:Hid (Blk ((w.alloc (.cells #[.map (some be),.map (some bs)] 235)).alloc (mC m a1 c1 a2 c2 a3 c3 a4 c4)) (w.heap.size+1) [.string m.name,.slice a1 m.uses.length c1,.slice a2 m.decls.length c2,.slice a3 m.procs.length c3,.slice a4 m.main.length c4]):=Blk.new2 w _ _ _;go_enter Tryz.func154,Tryz.ntmps154;go_wp2_with fail;refine (zeq m.name _ HM.out.wna).mono ?_
 cases hnm:nameOk m.name with
 | false=>
   rintro e w1 ⟨rfl,g1⟩;go_wp2_with fail;go_ret;exact ⟨zaa (by rw [HR.out,hnm];rfl),thenB (al2 _ _ _) g1⟩
 | true=>
 rintro e w1 ⟨rfl,g1⟩;have k0:=HB0.out.later g1;have k1:=HB1.out.later g1;have g2:Below w.heap.size w w1:=thenB (al2 _ _ _) g1;clear HB0 HB1 g1;obtain ⟨m0,m1,m2,m3,m4,mz⟩:=k1.c5;have HB0:Hid (Blk w1 w.heap.size [.map (some be),.map (some bs)]):=k0;have HB1:=hid k1;clear k0 k1;go_wp2_with fail;refine (zgv m.uses a1 c1 _ (HM.out.uses.later g2)).mono ?_
 cases hus:m.uses.all nameOk with
 | false=>
   rintro e w2 ⟨rfl,g1⟩;go_wp2_with fail;go_ret;exact ⟨zaa (by rw [HR.out,hnm,hus];rfl),thenB g2 g1⟩
 | true=>
 rintro e w2 ⟨rfl,g1⟩;have k0:=HB0.out.later g1;have k1:=HB1.out.later g1;have g3:=thenB g2 g1;clear HB0 HB1 g1 g2 m0 m1 m2 m3 m4 mz;obtain ⟨m0,m1,m2,m3,m4,mz⟩:=k1.c5;have HB0:Hid (Blk w2 w.heap.size [.map (some be),.map (some bs)]):=k0;have HB1:=hid k1;clear k0 k1;go_wp2_with fail;clear m0 m1 m2 m3 m4 mz
 go_loopw [24] (fun i wr=>∃ j:Nat,j<=m.decls.length/\i = .int .i64 j/\(m.decls.take j).all (fun d:De=>nameOk d.name&&ze3 d)=true/\Below w.heap.size w wr/\Blk wr w.heap.size [.map (some be),.map (some bs)]/\Blk wr (w.heap.size+1) [.string m.name,.slice a1 m.uses.length c1,.slice a2 m.decls.length c2,.slice a3 m.procs.length c3,.slice a4 m.main.length c4]) (fun i _=>m.decls.length - (intOf i).toNat)
 case atStart=>exact ⟨0,vae _,rfl,rfl,g3,HB0.out,HB1.out⟩
 case round =>
  clear g3;clear HB0 HB1;obtain ⟨j,hj,rfl,hall,hb,hB0,hB1⟩:=hrel;have HA:Hid ((m.decls.take j).all (fun d:De=>nameOk d.name&&ze3 d)=true):=hall;obtain ⟨q0,q1,qz⟩:=hB0.c2;obtain ⟨m0,m1,m2,m3,m4,mz⟩:=hB1.c5;have HB0:Hid (Blk wr w.heap.size [.map (some be),.map (some bs)]):=hB0;have HB1:=hid hB1;clear hall hB0 hB1
  by_cases hlt:j<m.decls.length
  . obtain ⟨b,off,rfl,hx⟩:=(HM.out.decls.later hb).de j hlt
    have hc0:=hx.c0;have hc1:=hx.c1;have hc2:=hx.c2;have hc3:=hx.c3;have hlb:=hx.lt
    have HF:Hid ((nameOk m.decls[j].name&&ze3 m.decls[j])=false->m.form=false):=fun h=>by rw [HR.out,all_not m.decls (fun d:De=>nameOk d.name&&ze3 d) j hlt h];simp
    have hna:=hx.wna;clear hx;go_wp2_with fail;refine (zeq m.decls[j].name _ hna).mono ?_
    cases h1:nameOk m.decls[j].name with
    | false=>
      rintro e w3 ⟨rfl,g1⟩;go_wp2_with fail;go_ret;exact ⟨zaa (HF.out (by simp [h1])).symm,z5v hb g1⟩
    | true=>
      rintro e w3 ⟨rfl,g1⟩;have kd:=(Blk.new wr #[.int .i64 m.decls[j].kind,.string m.decls[j].name,.bool m.decls[j].pub,.int .i64 m.decls[j].n] 170).later g1;have z0:=kd.cell 0 _ rfl;have z1:=kd.cell 1 _ rfl;have z2:=kd.cell 2 _ rfl;have z3:=kd.cell 3 _ rfl;have zl:=kd.lt;have k0:=(HB0.out.later (al1 _ _)).later g1;have k1:=(HB1.out.later (al1 _ _)).later g1;have g2:=z5v hb g1;clear g1 kd HB0 HB1 q0 q1 qz m0 m1 m2 m3 m4 mz;have HB0:Hid (Blk w3 w.heap.size [.map (some be),.map (some bs)]):=k0;have HB1:=hid k1;clear k0 k1;go_wp2_with fail;refine (zqx m.decls[j] _).mono ?_
      cases h2:ze3 m.decls[j] with
      | false=>
        rintro e w4 ⟨rfl,g1⟩;go_wp2_with fail;go_ret;exact ⟨zaa (HF.out (by simp [h2])).symm,thenB g2 g1⟩
      | true=>
        have HT:Hid ((m.decls.take (j+1)).all (fun d:De=>nameOk d.name&&ze3 d)=true):=by
         show _=_
         rw [all_snoc m.decls _ j hlt,HA.out];simp [h1,h2]
        rintro e w4 ⟨rfl,g1⟩;have k0:=HB0.out.later g1;have k1:=HB1.out.later g1;have g3:=thenB g2 g1;clear g1 g2;go_wp2_with fail;go_roundw
        case rel=>exact ⟨j+1,by omega,by go_num,HT.out,g3,k0,k1⟩
        case measure=>simp [intOf];omega
  . have HT1 : Hid (m.decls.all (fun d:De=>nameOk d.name&&ze3 d)=true):=zde HA.out hlt
    go_wp2_with fail;clear hlt hj HA;clear q0 q1 qz m0 m1 m2 m3 m4 mz
    go_loopw [41] (fun i wr=>∃ j:Nat,j<=m.procs.length/\i = .int .i64 j/\(m.procs.take j).all (fun p:Pr=>nameOk p.name&&(p.params.all nameOk&&p.locals.all nameOk))=true/\Below w.heap.size w wr/\Blk wr w.heap.size [.map (some be),.map (some bs)]/\Blk wr (w.heap.size+1) [.string m.name,.slice a1 m.uses.length c1,.slice a2 m.decls.length c2,.slice a3 m.procs.length c3,.slice a4 m.main.length c4]) (fun i _=>m.procs.length - (intOf i).toNat)
    case atStart=>exact ⟨0,vae _,rfl,rfl,hb,HB0.out,HB1.out⟩
    case round=>
     clear hb;clear HB0 HB1;obtain ⟨j,hj,rfl,hall,hb,hB0,hB1⟩:=hrel;have HA:Hid ((m.procs.take j).all (fun p:Pr=>nameOk p.name&&(p.params.all nameOk&&p.locals.all nameOk))=true):=hall;obtain ⟨q0,q1,qz⟩:=hB0.c2;obtain ⟨m0,m1,m2,m3,m4,mz⟩:=hB1.c5;have HB0:Hid (Blk wr w.heap.size [.map (some be),.map (some bs)]):=hB0;have HB1:=hid hB1;clear hall hB0 hB1
     by_cases hlt:j<m.procs.length
     . obtain ⟨b,off,b1,d1,b2,d2,b3,d3,rfl,hx⟩:=(HM.out.procs.later hb).pr j hlt
       have hc0:=hx.c0;have hc1:=hx.c1;have hc2:=hx.c2;have hc3:=hx.c3;have hc4:=hx.c4;have hlb:=hx.lt;have HX:Hid (PrAt wr Tt b (off+j*5) m.procs[j] b1 d1 b2 d2 b3 d3):=hx
       have HF:Hid ((nameOk m.procs[j].name&&(m.procs[j].params.all nameOk&&m.procs[j].locals.all nameOk))=false->m.form=false):=fun h=>by rw [HR.out,all_not m.procs (fun p:Pr=>nameOk p.name&&(p.params.all nameOk&&p.locals.all nameOk)) j hlt h];simp
       clear hx;go_wp2_with fail;refine (zeq m.procs[j].name _ HX.out.wna).mono ?_
       cases h1:nameOk m.procs[j].name with
       | false=>
         rintro e w3 ⟨rfl,g1⟩;go_wp2_with fail;go_ret;exact ⟨zaa (HF.out (by simp [h1])).symm,z5v hb g1⟩
       | true =>
         rintro e w3 ⟨rfl,g1⟩;have kd:=(Blk.new wr #[.string m.procs[j].name,.bool m.procs[j].pub,.slice b1 m.procs[j].params.length d1,.slice b2 m.procs[j].locals.length d2,.slice b3 m.procs[j].body.length d3] 118).later g1;obtain ⟨z0,z1,z2,z3,z4,zl⟩:=kd.c5;have HK:Hid (Blk w3 wr.heap.size [.string m.procs[j].name,.bool m.procs[j].pub,.slice b1 m.procs[j].params.length d1,.slice b2 m.procs[j].locals.length d2,.slice b3 m.procs[j].body.length d3]):=kd;have k0:=(HB0.out.later (al1 _ _)).later g1;have k1:=(HB1.out.later (al1 _ _)).later g1;have g2:=thenB (al1 _ _) g1;clear g1 kd HB0 HB1 q0 q1 qz m0 m1 m2 m3 m4 mz;have HB0:Hid (Blk w3 w.heap.size [.map (some be),.map (some bs)]):=k0;have HB1:=hid k1;clear k0 k1;go_wp2_with fail;refine (zgv m.procs[j].params b1 d1 _ (HX.out.params.later g2)).mono ?_
         cases h2:m.procs[j].params.all nameOk with
         | false=>
           rintro e w4 ⟨rfl,g1⟩;go_wp2_with fail;go_ret;exact ⟨zaa (HF.out (by simp [h2])).symm,thenB hb (thenB g2 g1)⟩
         | true=>
           rintro e w4 ⟨rfl,g1⟩;have kd:=HK.out.later g1;clear z0 z1 z2 z3 z4 zl HK;obtain ⟨z0,z1,z2,z3,z4,zl⟩:=kd.c5;have k0:=HB0.out.later g1;have k1:=HB1.out.later g1;have g3:=thenB g2 g1;clear g1 g2 kd HB0 HB1;have HB0:Hid (Blk w4 w.heap.size [.map (some be),.map (some bs)]):=k0;have HB1:=hid k1;clear k0 k1;go_wp2_with fail;refine (zgv m.procs[j].locals b2 d2 _ (HX.out.locals.later g3)).mono ?_
           cases h3:m.procs[j].locals.all nameOk with
           | false=>
             rintro e w5 ⟨rfl,g1⟩;go_wp2_with fail;go_ret;exact ⟨zaa (HF.out (by simp [h3])).symm,thenB hb (thenB g3 g1)⟩
           | true=>
             have HT:Hid ((m.procs.take (j+1)).all (fun p:Pr=>nameOk p.name&&(p.params.all nameOk&&p.locals.all nameOk))=true):=by
              show _=_
              rw [all_snoc m.procs _ j hlt,HA.out];simp only [h1,h2,h3];rfl
             rintro e w5 ⟨rfl,g1⟩;have k0:=HB0.out.later g1;have k1:=HB1.out.later g1;have g4:=thenB hb (thenB g3 g1);clear g1 g3;go_wp2_with fail;go_roundw
             case rel=>exact ⟨j+1,by omega,by go_num,HT.out,g4,k0,k1⟩
             case measure=>simp [intOf];omega
     . have HT2:Hid (m.procs.all (fun p:Pr=>nameOk p.name&&(p.params.all nameOk&&p.locals.all nameOk))=true):=zde HA.out hlt
       go_wp2_with fail;refine (zj2 m _ a1 c1 a2 c2 a3 c3 a4 c4 _ (HM.out.later hb)).mono ?_;rintro e w5 ⟨ba,bc,rfl,hBA,hb5⟩;have HBA:Hid (zro w5 ba m.bodies):=hBA
       have hbn:m.bodies.length<=4000000000000:=by have:=HP.out;simp [Mo.bodies];omega
       have k0:=HB0.out.later hb5;have k1:=HB1.out.later hb5;have hb6:=thenB hb hb5;clear hb5 hBA HB0 HB1;clear q0 q1 qz m0 m1 m2 m3 m4 mz;have HB0:Hid (Blk w5 w.heap.size [.map (some be),.map (some bs)]):=k0;have HB1:=hid k1;have Hb6:Hid (Below w.heap.size w w5):=hb6;clear k0 k1 hb6;go_wp2_with fail
       go_loopw [65] (fun i wr=>∃ j:Nat,j<=m.bodies.length/\i = .int .i64 j/\(m.bodies.take j).all (zaz 6)=true/\Below w5.heap.size w5 wr/\Blk wr w.heap.size [.map (some be),.map (some bs)]/\Blk wr (w.heap.size+1) [.string m.name,.slice a1 m.uses.length c1,.slice a2 m.decls.length c2,.slice a3 m.procs.length c3,.slice a4 m.main.length c4]) (fun i _=>m.bodies.length - (intOf i).toNat)
       case atStart=>exact ⟨0,vae _,rfl,rfl,Below.refl _ _,HB0.out,HB1.out⟩
       case round=>
        clear HB0 HB1;obtain ⟨j,hj,rfl,hall,hb7,hB0,hB1⟩:=hrel;have HA:Hid ((m.bodies.take j).all (zaz 6)=true):=hall;obtain ⟨q0,q1,qz⟩:=hB0.c2;obtain ⟨m0,m1,m2,m3,m4,mz⟩:=hB1.c5;have HB0:Hid (Blk wr w.heap.size [.map (some be),.map (some bs)]):=hB0;have HB1:=hid hB1;clear hall hB0 hB1
        by_cases hlt:j<m.bodies.length
        . obtain ⟨b,off,aa,cp,rfl,hlb,hc,hx⟩:=(HBA.out.later hb7) j hlt
          have HX:Hid (DAt wr Tt aa m.bodies[j].length (zb0 m.bodies[j])):=hx;clear hx;go_wp2_with fail;refine (zw8 be bs Tt 6 m.bodies[j] aa cp _ HX.out ((HS.out.later Hb6.out).later hb7) ((HU.out.later Hb6.out).later hb7) (Or.inr (HY.out j hlt))).mono ?_
          cases h1:zaz 6 m.bodies[j] with
          | false=>
            have HF:Hid (m.bodies.all (zaz 6)=false):=all_not m.bodies _ j hlt h1;rintro e w8 ⟨rfl,hb8⟩;go_wp2_with fail;go_ret;exact ⟨zaa (by rw [HR.out,HF.out];simp),thenB Hb6.out (thenB hb7 hb8)⟩
          | true=>
            have HT:Hid ((m.bodies.take (j+1)).all (zaz 6)=true):=by
             show _=_
             rw [all_snoc m.bodies _ j hlt,HA.out,h1];rfl
            rintro e w8 ⟨rfl,hb8⟩;have k0:=HB0.out.later hb8;have k1:=HB1.out.later hb8;go_wp2_with fail;go_roundw
            case rel=>exact ⟨j+1,by omega,by go_num,HT.out,thenB hb7 hb8,k0,k1⟩
            case measure=>simp [intOf];omega
        . have HT:Hid (m.bodies.all (zaz 6)=true):=zde HA.out hlt
          go_wp2_with fail;go_ret;exact ⟨zaa (by rw [HR.out,HT.out];simp [hnm,hus,HT1.out,HT2.out]),thenB Hb6.out hb7⟩
theorem z2l {m:Mo} (h:m.kinds=false):m.err=4:=by unfold Mo.err;rw [h];rfl
theorem z2m {m:Mo} (h:m.kinds=true) (h1:m.many=true):m.err=2:=by unfold Mo.err;rw [h,h1];rfl
theorem z2n {m:Mo} (h:m.kinds=true) (h1:m.many=false) (h2:m.form=false):m.err=1:=by unfold Mo.err;rw [h,h1,h2];rfl
theorem z7y {m:Mo} (h:m.kinds=true) (h1:m.many=false) (h2:m.form=true):m.err=0:=by unfold Mo.err;rw [h,h1,h2];rfl
theorem zoe (m:Mo) (v:Value) (a1:OA) (c1:Nat) (a2:OA) (c2:Nat) (a3:OA) (c3:Nat) (a4:OA) (c4:Nat) (w:World) (hM:MoAt w Tt m v a1 c1 a2 c2 a3 c3 a4 c4) :
 Calls Tryz.prog 112 #[v] w fun e w'=>e = .returned (.int .i64 m.err)/\Below w.heap.size w w':=by
 obtain rfl:=hM.val;have HM:Hid (MoAt w Tt m (.agg #[.string m.name,.slice a1 m.uses.length c1,.slice a2 m.decls.length c2,.slice a3 m.procs.length c3,.slice a4 m.main.length c4]) a1 c1 a2 c2 a3 c3 a4 c4):=hM;clear hM;have HB:Hid (Blk (w.alloc (mC m a1 c1 a2 c2 a3 c3 a4 c4)) w.heap.size [.string m.name,.slice a1 m.uses.length c1,.slice a2 m.decls.length c2,.slice a3 m.procs.length c3,.slice a4 m.main.length c4]):=Blk.new w _ _;go_enter Tryz.func112,Tryz.ntmps112;go_wp2_with fail;refine (znz _).mono ?_;rintro e w1 ⟨be,rfl,hS,hb1⟩;have HS:=hid hS;have k:=HB.out.later hb1;have g1:=thenB (al1 _ _) hb1;clear HB hb1 hS;have HB:=hid k;obtain ⟨m0,m1,m2,m3,m4,mz⟩:=k.c5;clear k;go_wp2_with fail;refine (zny _).mono ?_;rintro e w2 ⟨bs,rfl,hT,hb2⟩;have HS2:=hid ((HS.out.later hb2).later (al1 _ (.cells #[.map (some be),.map (some bs)] 235)))
 have HT:=hid (hT.later (al1 _ (.cells #[.map (some be),.map (some bs)] 235)));have k:=(HB.out.later hb2).later (al1 _ (.cells #[.map (some be),.map (some bs)] 235));have k0:=Blk.new w2 #[.map (some be),.map (some bs)] 235;have g2:=thenB g1 hb2;have g3:=thenB g2 (al1 _ (.cells #[.map (some be),.map (some bs)] 235))
 have hm2:=(HB.out.later hb2)
 clear HB hb2 hT HS g1 m0 m1 m2 m3 m4 mz;obtain ⟨m0,m1,m2,m3,m4,mz⟩:=hm2.c5;have HB:=hid k;have HB0:=hid k0;clear k k0 hm2;go_wp2_with fail;refine (zrp be bs m _ a1 c1 a2 c2 a3 c3 a4 c4 _ (HM.out.later g3) HS2.out HT.out).mono ?_
 cases h1:m.kinds with
 | false=>
   rintro e w3 ⟨rfl,hb3⟩;go_wp2_with fail;go_ret;exact ⟨zbi (z2l h1).symm,thenB g3 hb3⟩
 | true=>
 rintro e w3 ⟨rfl,hb3⟩;have k:=HB.out.later hb3;have k0:=HB0.out.later hb3;have s1:=HS2.out.later hb3;have s2:=HT.out.later hb3;have g4:=thenB g3 hb3;clear HB HB0 HS2 HT g2 g3 hb3 m0 m1 m2 m3 m4 mz;obtain ⟨m0,m1,m2,m3,m4,mz⟩:=k.c5;obtain ⟨q0,q1,qz⟩:=k0.c2;have HB:=hid k;have HB0:=hid k0;have HS2:=hid s1;have HT:=hid s2;clear k k0 s1 s2;go_wp2_with fail;refine (znk be bs m _ a1 c1 a2 c2 a3 c3 a4 c4 _ (HM.out.later g4) HS2.out HT.out).mono ?_
 cases h2:m.many with
 | true=>
   rintro e w4 ⟨rfl,hb4⟩;go_wp2_with fail;go_ret;exact ⟨zbi (z2m h1 h2).symm,thenB g4 hb4⟩
 | false=>
 rintro e w4 ⟨rfl,hb4⟩;have k:=HB.out.later hb4;have k0:=HB0.out.later hb4;have s1:=HS2.out.later hb4;have s2:=HT.out.later hb4;have g5:=thenB g4 hb4;clear HB HB0 HS2 HT g4 hb4 m0 m1 m2 m3 m4 mz q0 q1 qz;obtain ⟨m0,m1,m2,m3,m4,mz⟩:=k.c5;obtain ⟨q0,q1,qz⟩:=k0.c2;have HS2:=hid s1;have HT:=hid s2;clear k k0 s1 s2;go_wp2_with fail;refine (ztj be bs m _ a1 c1 a2 c2 a3 c3 a4 c4 _ (HM.out.later g5) HS2.out HT.out h2).mono ?_
 cases h3:m.form with
 | false=>
   rintro e w5 ⟨rfl,hb5⟩;go_wp2_with fail;go_ret;exact ⟨zbi (z2n h1 h2 h3).symm,thenB g5 hb5⟩
 | true=>
 rintro e w5 ⟨rfl,hb5⟩;go_wp2_with fail;go_ret;exact ⟨zbi (z7y h1 h2 h3).symm,thenB g5 hb5⟩
end Go.Proofs.YtndkhgakfodldaaGreatDoor

namespace Go.Proofs.YtndkhgakfodldaaGreatDoor
open Go.RowKit
abbrev zpr:ByteArray:=⟨#[109,111,100,117,108,101]⟩
abbrev zvj:ByteArray:=⟨#[117,115,101]⟩
abbrev zdh:ByteArray:=⟨#[112,117,98]⟩
abbrev zrq:ByteArray:=⟨#[99,111,110,115,116]⟩
abbrev z7z:ByteArray:=⟨#[118,97,114]⟩
abbrev zrr:ByteArray:=⟨#[97,114,114,97,121]⟩
abbrev z5w:ByteArray:=⟨#[112,114,111,99]⟩
abbrev ze1:ByteArray:=⟨#[108,111,99,97,108]⟩
abbrev ztk:ByteArray:=⟨#[109,97,105,110]⟩
abbrev tIf:ByteArray:=⟨#[105,102]⟩
abbrev ztl:ByteArray:=⟨#[101,108,115,101]⟩
abbrev zh4:ByteArray:=⟨#[119,104,105,108,101]⟩
abbrev zgg:ByteArray:=⟨#[114,101,116,117,114,110]⟩
abbrev z47:ByteArray:=⟨#[111,117,116]⟩
abbrev tIn:ByteArray:=⟨#[105,110]⟩
abbrev tLb:ByteArray:=⟨#[123]⟩
abbrev tRb:ByteArray:=⟨#[125]⟩
abbrev tLp:ByteArray:=⟨#[40]⟩
abbrev tRp:ByteArray:=⟨#[41]⟩
abbrev tLs:ByteArray:=⟨#[91]⟩
abbrev tRs:ByteArray:=⟨#[93]⟩
abbrev z2o:ByteArray:=⟨#[44]⟩
abbrev zis:ByteArray:=⟨#[59]⟩
abbrev tEq:ByteArray:=⟨#[61]⟩
abbrev z5x:ByteArray:=⟨#[46]⟩
abbrev z70:ByteArray:=⟨#[33]⟩
def z5y:List (L8):=[[109,111,100,117,108,101],[117,115,101],[112,117,98],[99,111,110,115,116],[118,97,114],[97,114,114,97,121],[112,114,111,99],[108,111,99,97,108],[109,97,105,110],[105,102],[101,108,115,101],[119,104,105,108,101],[114,101,116,117,114,110],[111,117,116],[105,110]]
def opTexts:List ByteArray:=[⟨#[38]⟩,⟨#[124]⟩,⟨#[43]⟩,⟨#[45]⟩,⟨#[42]⟩,⟨#[47]⟩,⟨#[37]⟩,⟨#[61]⟩,⟨#[60]⟩]
def zps (s:ByteArray):Bool:=z5y.any (fun k=>s.toList == k)
def noTk:Tk:=⟨0,0,⟨#[]⟩⟩
def hd (l:List Tk):Tk:=l.getD 0 noTk
def skB (l:List Tk) (t:ByteArray):Bool:=(hd l).text.toList == t.toList
def zkv (l:List Tk) (ts:List ByteArray):Option ByteArray:=ts.find? (fun t=>skB l t)
def zd2 (l:List Tk):Option (ByteArray × List Tk):=if ((hd l).kind == 1 && !zps (hd l).text)=true then some ((hd l).text,l.tail) else none
def pNum (l:List Tk):Option (Int × List Tk):=if (hd l).kind=2 then some ((hd l).n,l.tail) else none
def zyh (l:List Tk):Option ((ByteArray × ByteArray) × List Tk):=
 match zd2 l with
 | none=>none
 | some (a,l1)=>if skB l1 z5x then (match zd2 l1.tail with | none=>none | some (b,l2)=>some ((a,b),l2)) else some ((⟨#[]⟩,a),l1)
def zyv (l:List Tk):Option Nat:=opTexts.findIdx? (fun t=>skB l t)
mutual
def zbw:Nat->List Tk->Option (Ex × List Tk)
 | 0,_=>none
 | f+1,l=>
   if (hd l).kind=2 then some (.mk 1 (hd l).n ⟨#[]⟩ ⟨#[]⟩ [],l.tail)
   else if skB l tIn then some (.mk 2 0 ⟨#[]⟩ ⟨#[]⟩ [],l.tail)
   else if skB l z70 then (match zbw f l.tail with | none=>none | some (x,l1)=>some (.mk 6 0 ⟨#[]⟩ ⟨#[]⟩ [x],l1))
   else if skB l tLp then zgw f l.tail
   else match zyh l with
    | none=>none
    | some ((m,n),l1)=>
      if skB l1 tLs then (match zbw f l1.tail with | none=>none | some (x,l2)=>if skB l2 tRs then some (.mk 4 0 m n [x],l2.tail) else none)
      else if skB l1 tLp then (match zff f l1.tail with | none=>none | some (xs,l2)=>some (.mk 5 0 m n xs,l2))
      else some (.mk 3 0 m n [],l1)
def zgw:Nat->List Tk->Option (Ex × List Tk)
 | 0,_=>none
 | f + 1,l=>
   match zbw f l with
   | none=>none
   | some (a,l1)=>match zyv l1 with
     | none=>none
     | some k=>match zbw f l1.tail with
       | none=>none
       | some (b,l2)=>if skB l2 tRp then some (.mk (7+k) 0 ⟨#[]⟩ ⟨#[]⟩ [a,b],l2.tail) else none
def zff:Nat->List Tk->Option (List Ex × List Tk)
 | 0,_=>none
 | f+1,l=>
   if skB l tRp then some ([],l.tail)
   else match zbw f l with
    | none=>none
    | some (x,l1)=>zhw f [x] l1
def zhw:Nat->List Ex->List Tk->Option (List Ex × List Tk)
 | 0,_,_=>none
 | f+1,acc,l=>
   if skB l z2o then (match zbw f l.tail with | none=>none | some (x,l1)=>zhw f (acc++[x]) l1)
   else if skB l tRp then some (acc,l.tail) else none
end
theorem zyw {l:List Tk} {t:ByteArray} (ht:0<t.size) (h:skB l t=true):l≠[]:=by
 rintro rfl;unfold skB at h
 have e:(hd ([]:List Tk)).text.toList=[]:=by rw [vba];rfl
 rw [e,vba] at h;have h1:t.data.toList=[]:=(beq_iff_eq.1 h).symm;have h2:=Lx.zat t;rw [h1] at h2;simp at h2;omega
theorem zj3 {l:List Tk} (h:l≠[]):l.tail.length<l.length:=by cases l with | nil=>exact absurd rfl h | cons x r=>simp
theorem zar {l:List Tk} {t:ByteArray} (ht:0<t.size) (h:skB l t=true):l.tail.length<l.length:=zj3 (zyw ht h)
theorem zls {l:List Tk} (h:(hd l).kind≠0):l≠[]:=by rintro rfl;exact h rfl
theorem zbt {l l':List Tk} {a:ByteArray} (h:zd2 l=some (a,l')):l'.length<l.length:=by
 unfold zd2 at h
 split at h
 . rename_i hk
   have hk':(hd l).kind=1:=by
    simp only [vad,beq_iff_eq] at hk;exact hk.1
   obtain ⟨_,rfl⟩:=vak (vac h);exact zj3 (zls (by rw [hk'];decide))
 . cases h
theorem zyx {l l':List Tk} {a:Int} (h:pNum l=some (a,l')):l'.length<l.length:=by
 unfold pNum at h
 split at h
 . rename_i hk
   obtain ⟨_,rfl⟩:=vak (vac h);exact zj3 (zls (by rw [hk];decide))
 . cases h
theorem ztm {l l':List Tk} {a:ByteArray × ByteArray} (h:zyh l=some (a,l')):l'.length<l.length:=by
 unfold zyh at h
 split at h
 . cases h
 . rename_i a1 l1 h1
   have:=zbt h1
   split at h
   . rename_i hs
     have:=zar (by decide) hs
     split at h
     . cases h
     . rename_i b l2 h2
       have:=zbt h2;obtain ⟨_,rfl⟩:=vak (vac h);omega
   . obtain ⟨_,rfl⟩:=vak (vac h)
     omega
theorem zyy {l:List Tk} {k:Nat} (h:zyv l=some k):l≠[]:=by
 unfold zyv at h;obtain ⟨hk,h2,_⟩:=vbz.1 h
 have:0<(opTexts[k]).size:=by
  have:∀ x ∈ opTexts,0<x.size:=by decide
  exact this _ (vap hk)
 exact zyw this h2
mutual
theorem zc0:∀ (f:Nat) (l l':List Tk) (x:Ex),zbw f l=some (x,l')->l'.length<l.length
 | 0,_,_,_,h=>by simp [zbw] at h
 | f + 1,l,l',x,h=>by
   unfold zbw at h
   split at h
   . rename_i hk
     obtain ⟨_,rfl⟩:=vak (vac h);exact zj3 (zls (by rw [hk];decide))
   split at h
   . rename_i hs
     obtain ⟨_,rfl⟩:=vak (vac h);exact zar (by decide) hs
   split at h
   . rename_i hs
     have:=zar (by decide) hs
     split at h
     . cases h
     . rename_i y l1 h1
       have:=zc0 f _ _ _ h1;obtain ⟨_,rfl⟩:=vak (vac h);omega
   split at h
   . rename_i hs
     have:=zar (by decide) hs;have:=z2p f _ _ _ h;omega
   split at h
   . cases h
   . rename_i m n l1 h1
     have:=ztm h1
     split at h
     . rename_i hs
       have:=zar (by decide) hs
       split at h
       . cases h
       . rename_i y l2 h2
         have:=zc0 f _ _ _ h2
         split at h
         . rename_i hs2
           have:=zar (by decide) hs2;obtain ⟨_,rfl⟩:=vak (vac h);omega
         . cases h
     split at h
     . rename_i hs
       have:=zar (by decide) hs
       split at h
       . cases h
       . rename_i y l2 h2
         have:=zvk f _ _ _ h2;obtain ⟨_,rfl⟩:=vak (vac h);omega
     . obtain ⟨_,rfl⟩:=vak (vac h)
       omega
theorem z2p:∀ (f:Nat) (l l':List Tk) (x:Ex),zgw f l=some (x,l')->l'.length<l.length
 | 0,_,_,_,h=>by simp [zgw] at h
 | f + 1,l,l',x,h=>by
   unfold zgw at h
   split at h
   . cases h
   . rename_i a l1 h1
     have:=zc0 f _ _ _ h1
     split at h
     . cases h
     . rename_i k hk
       have:=zj3 (zyy hk)
       split at h
       . cases h
       . rename_i b l2 h2
         have:=zc0 f _ _ _ h2
         split at h
         . rename_i hs2
           have:=zar (by decide) hs2;obtain ⟨_,rfl⟩:=vak (vac h);omega
         . cases h
theorem zvk:∀ (f:Nat) (l l':List Tk) (x:List Ex),zff f l=some (x,l')->l'.length<l.length
 | 0,_,_,_,h=>by simp [zff] at h
 | f + 1,l,l',x,h=>by
   unfold zff at h
   split at h
   . rename_i hs
     obtain ⟨_,rfl⟩:=vak (vac h);exact zar (by decide) hs
   split at h
   . cases h
   . rename_i y l1 h1
     have:=zc0 f _ _ _ h1;have:=zvl f _ _ _ _ h;omega
theorem zvl:∀ (f:Nat) (acc:List Ex) (l l':List Tk) (x:List Ex),zhw f acc l=some (x,l')->l'.length<l.length
 | 0,_,_,_,_,h=>by simp [zhw] at h
 | f + 1,acc,l,l',x,h=>by
   unfold zhw at h
   split at h
   . rename_i hs
     have:=zar (by decide) hs
     split at h
     . cases h
     . rename_i y l1 h1
       have:=zc0 f _ _ _ h1;have:=zvl f _ _ _ _ h;omega
   split at h
   . rename_i hs
     obtain ⟨_,rfl⟩:=vak (vac h);exact zar (by decide) hs
   . cases h
end
def pX (l:List Tk):Option (Ex × List Tk):=zbw (3*l.length+8) l
def pAs (l:List Tk):Option (List Ex × List Tk):=zff (3*l.length+8) l
theorem zpt {l l':List Tk} {x:Ex} (h:pX l=some (x,l')):l'.length<l.length:=zc0 _ _ _ _ h
theorem z71 {l l':List Tk} {x:List Ex} (h:pAs l=some (x,l')):l'.length<l.length:=zvk _ _ _ _ h
def zb2 (l:List Tk):Option (St × List Tk):=
 match zyh l with
 | none=>none
 | some ((m,n),l1)=>
   if skB l1 tEq then (match pX l1.tail with | none=>none | some (x,l2)=>some (.mk 1 m n [x] [] [],l2))
   else if skB l1 tLs then (match pX l1.tail with
    | none=>none
    | some (x,l2)=>if skB l2 tRs then (if skB l2.tail tEq then (match pX l2.tail.tail with | none=>none | some (y,l3)=>some (.mk 2 m n [x,y] [] [],l3)) else none) else none)
   else if skB l1 tLp then (match pAs l1.tail with | none=>none | some (xs,l2)=>some (.mk 3 m n xs [] [],l2))
   else none
def zem (r:Option (St × List Tk)):Option (St × List Tk):=match r with | none=>none | some (s,l)=>if skB l zis then some (s,l.tail) else none
mutual
def zcw:Nat->List Tk->Option (St × List Tk)
 | 0,_=>none
 | f+1,l=>
   if skB l tIf then (match pX l.tail with
    | none=>none
    | some (x,l1)=>match zb5 f l1 with
      | none=>none
      | some (b,l2)=>if skB l2 ztl then (match zb5 f l2.tail with | none=>none | some (o,l3)=>if o.length=0 then none else some (.mk 4 ⟨#[]⟩ ⟨#[]⟩ [x] b o,l3))
        else some (.mk 4 ⟨#[]⟩ ⟨#[]⟩ [x] b [],l2))
   else if skB l zh4 then (match pX l.tail with
    | none=>none
    | some (x,l1)=>match zb5 f l1 with | none=>none | some (b,l2)=>some (.mk 5 ⟨#[]⟩ ⟨#[]⟩ [x] b [],l2))
   else if skB l zgg then zem (match pX l.tail with | none=>none | some (x,l1)=>some (.mk 6 ⟨#[]⟩ ⟨#[]⟩ [x] [] [],l1))
   else if skB l z47 then zem (match pX l.tail with | none=>none | some (x,l1)=>some (.mk 7 ⟨#[]⟩ ⟨#[]⟩ [x] [] [],l1))
   else zem (zb2 l)
def zb5:Nat->List Tk->Option (List St × List Tk)
 | 0,_=>none
 | f+1,l=>if skB l tLb then zfg f [] l.tail else none
def zfg:Nat->List St->List Tk->Option (List St × List Tk)
 | 0,_,_=>none
 | f+1,acc,l=>
   if skB l tRb then some (acc,l.tail)
   else match zcw f l with | none=>none | some (s,l1)=>zfg f (acc++[s]) l1
end
end Go.Proofs.YtndkhgakfodldaaGreatDoor
