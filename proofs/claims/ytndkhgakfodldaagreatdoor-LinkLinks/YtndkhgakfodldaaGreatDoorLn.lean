import Derived.Test.YtndkhgakfodldaaGreatDoorLe
import Derived.Test.YtndkhgakfodldaaGreatDoorXe
namespace Go.Proofs.YtndkhgakfodldaaGreatDoor
set_option maxRecDepth 100000
set_option maxHeartbeats 12800000
open Go.RowKit Go.Maps Go.Sort Go.WideMaps
set_option linter.unusedSimpArgs false
set_option linter.unusedVariables false
def COk:Prop:=∀ (o:Ob) (x1:OA) (y1:Nat) (x3:OA) (y3:Nat) (x4:OA) (y4:Nat) (x5:OA) (y5:Nat) (w:World),OvAt w o x1 x3 x4 x5->
    qc 34 #[.agg #[.string o.name,.slice x1 o.uses.length y1,qi o.data,.slice x3 o.code.length y3,.slice x4 o.fixes.length y4,.slice x5 o.entries.length y5,qi o.main]] w fun e w'=>e = .returned (qi (oChk o))/\qb w w'
theorem z5r:∀ L:List (L8),Fx.zfk L = !decide L.Nodup:=by
 apply Fx.zdx
 . rfl
 . intro l a ih
   rw [Fx.zhc,ih]
   by_cases h1:l.Nodup
   . by_cases h2:a ∈ l
     . have:¬ (l++[a]).Nodup:=fun h=>by
        have:=(vdh.1 h).2.2 a h2 a (by simp);exact this rfl
       simp [h1,h2,this]
     . have:(l++[a]).Nodup:=vdh.2 ⟨h1,by simp,fun x hx y hy=>by
        have:y=a:=by simpa using hy
        subst this;intro e;subst e
        exact h2 hx⟩
       simp [h1,h2,this]
   . have:¬ (l++[a]).Nodup:=fun h=>h1 (vdh.1 h).1
     simp [h1,this]
def nmL (l:List Ob):List ByteArray:=l.map Ob.name
theorem zws (l:List Ob):Fx.zbf (nmL l)=nmO l:=by unfold Fx.zbf nmL nmO;rw [List.map_map];rfl
theorem zz2 (l:List Ob) {j:Nat} (h:j<l.length):nmL (l.take (j+1))=nmL (l.take j)++[l[j].name]:=by
 unfold nmL;rw [vaf h,vbw]
 rfl
theorem z5s {w:World} {base:Nat} {a:OA} {cap:Nat} {xs:List ByteArray} (h:z36 w base (.slice a xs.length cap) xs):Fx.zd4 w a xs:=by
 by_cases h0:xs.length=0
 . exact Or.inl (vam h0)
 . obtain ⟨a',cap',e,hc⟩:=h.cell
   injection e with e1 _ _
   subst e1;obtain ⟨b,ha,hb,_⟩:=hc 0 (by omega);refine Or.inr ⟨b,0,ha,hb,fun i hi=>?_⟩;obtain ⟨b',Cd,_,hcell⟩:=hc i hi;rw [ha] at Cd
   injection Cd with Cd
   injection Cd with Cd
   subst Cd;rw [vax];exact hcell
theorem str_one (s:ByteArray):∀ u ∈ (#[Value.string s]:Array Value).toList,u.oneCell'=true:=fun u hu=>by
 have:u = .string s:=by simpa using hu
 subst this
 rfl
theorem zfg (FE:COk) (l:List Ob) (ev:Nat->Value) (a:OA) (cap:Nat) (w:World) (hO:OsAt w a l ev) (AG:l.length<=cap) :
 qc 44 #[.slice a l.length cap] w fun e w'=>e = .returned (qi (lnChk l))/\qb w w':=by
 have Bt:=hO.bound;have HO:=hid hO;have Si:=hid FE;clear hO FE
 obtain ⟨r,hr⟩:∃ r,r=lnChk l:=⟨_,rfl⟩
 rw [← hr];unfold lnChk at hr;have HR:=hid hr;clear hr;go_enter Tryz.func44,Tryz.ntmps44
 by_cases FD:l.length<1\/4<l.length
 . have HV:Hid (r=2):=HR.out.trans (if_pos FD)
   have hw:(decide (1<=(l.length:Int))&&decide ((l.length:Int)<=4))=false:=by
    rcases FD with h | h
    . rw [decide_eq_false (by omega:¬ (1<=(l.length:Int)))];rfl
    . rw [decide_eq_false (by omega:¬ ((l.length:Int)<=4)),Bool.and_false]
   go_wp2_with (go_at_call 63;refine (zc5 _ _ _ _).mono ?_;rintro e w' ⟨rfl,rfl⟩;rw [hw])
   go_ret;exact ⟨by rw [HV.out];rfl,Below.refl _ _⟩
 have Am:=hid (HR.out.trans (if_neg FD))
 have JC:1<=l.length/\l.length<=4:=by omega
 have hw:(decide (1<=(l.length:Int))&&decide ((l.length:Int)<=4))=true:=by
  rw [decide_eq_true (by omega:1<=(l.length:Int)),decide_eq_true (by omega:(l.length:Int)<=4)];rfl
 clear FD HR
 go_wp2_with (go_at_call 63;refine (zc5 _ _ _ _).mono ?_;rintro e w' ⟨rfl,he⟩;rw [hw,he];clear he)
 clear hw
 go_loopw [3,4,5] (fun v i _ wr=>∃ j:Nat,j<=l.length/\i=qi j/\(∀ k (h:k<l.length),k<j->oChk l[k]=0)/\z36 wr w.heap.size v (nmL (l.take j))/\qb w wr) (fun _ i _ _=>l.length - (intOf i).toNat)
 case atStart=>exact ⟨0,vae _,rfl,fun k _ h=>absurd h (vbe _),ver _ _ _ _,Below.refl _ _⟩
 case round =>
  obtain ⟨j,hj,rfl,A6,Ab,hb⟩:=hrel;have HA:=hid A6;have HB:=hid hb;have BU:=hb.size
  have F0:(nmL (l.take j)).length=j:=by unfold nmL;rw [vcq,vbg];omega
  unfold z36 at Ab;rw [F0] at Ab;have Dl:=hid Ab;obtain ⟨va,vc,rfl, -, -⟩:=zag Ab;clear A6 Ab
  by_cases A0:j<l.length
  . obtain ⟨b,off,x1,y1,x3,y3,x4,y4,x5,y5,rfl,B9,c0,c1,c2,c3,c4,c5,c6,ho, -, -⟩:=(HO.out.later hb).get j A0
    have HC:=hid (Si.out l[j] x1 y1 x3 y3 x4 y4 x5 y5 wr ho);have MS:=hid (zz2 l A0);clear ho hb;go_wp2_with fail;refine HC.out.mono ?_;rintro e w2 ⟨rfl,Aa⟩;have Ad:=hid (thenB HB.out Aa);have TJ:=(Aa.cell (p:=⟨b,off+j*7,none⟩) B9).trans c0;have MV:=hid (ownsRow_later Dl.out Aa);have AA:=Aa.size
    have ED:b<w2.heap.size:=by omega
    clear Aa HC c0 c1 c2 c3 c4 c5 c6
    by_cases hz:oChk l[j]=0
    . have Kw:Hid (∀ k (h:k<l.length),k<j+1->oChk l[k]=0):=fun k h hk=>by
       by_cases he:k=j
       . subst he;exact hz
       . exact HA.out k h (by omega)
      rw [hz];clear hz;generalize l[j].name=nm at *
      go_wp2_with (at_builtin;refine zeg rfl (.tmp 29) (.tmp 35) 22 rfl w.heap.size 9 _ 1 16 Tryz.underlying22 Tryz.infoStr rfl (by decide) w2 (.slice va j vc) j ((nmL (l.take j)).map .string) rfl MV.out #[.string nm] _ rfl rfl rfl (str_one nm) (by omega) (by decide) (by omega) _ rfl ?_;intro g cp w3 ho3;have Gc:=hid ho3;have BO:=ho3.size;clear ho3)
      go_wp2_with fail;go_roundw
      case rel=>exact ⟨j+1,by omega,by go_num,Kw.out,by unfold z36;rw [MS.out,vak,vbw,F0];exact Gc.out.own,Ad.out.trans Gc.out.below⟩
      case measure=>simp [intOf];omega
    . have HV:Hid (r=oChk l[j]):=by
       have he:=zjq l j A0 (fun k hk=>HA.out k (by omega) hk) hz;show r=_;rw [Am.out,if_pos (by rw [he];exact hz),he]
      generalize oChk l[j]=z at *;go_wp2_with fail;go_ret;exact ⟨by rw [HV.out];rfl,Ad.out⟩
  . obtain rfl : j=l.length:=by omega
    rw [vat] at *
    have hE:∀ o ∈ l,oChk o=0:=fun o ho=>by
     obtain ⟨i,hi,rfl⟩:=vay ho;exact HA.out i hi hi
    have HE:=hid hE;have Av:=hid (Am.out.trans (if_neg (by rw [zgq l (fun i h=>HA.out i h h)];exact fun e=>e rfl)));have JP:=hid (Fx.zqf va vc (nmL l) wr (z5s (by unfold z36;rw [F0];exact Dl.out)) (by rw [F0];omega));rw [zws,z5r,F0] at JP;have Aw:=hid hb;clear hE Am HA Dl hb;go_wp2_with fail;refine JP.out.mono ?_;rintro e w2 ⟨rfl,Aa⟩;have Ad:=hid (thenB Aw.out Aa);clear Aa JP Aw
    by_cases hn:(nmO l).Nodup
    rotate_left
    . have HV:Hid (r=6):=Av.out.trans (if_pos hn)
      rw [decide_eq_false hn];go_wp2_with fail;go_ret;exact ⟨by rw [HV.out];rfl,Ad.out⟩
    have AP:=hid (Av.out.trans (if_neg (fun h=>h hn)));have HN:=hid hn;rw [decide_eq_true hn];clear hn Av;go_wp2_with fail
    go_loopw [6,7] (fun i _ wr=>∃ j:Nat,j<=l.length/\i=qi j/\(∀ k,k<j->zeb l k=true)/\qb w2 wr) (fun i _ _=>l.length - (intOf i).toNat)
    case atStart=>exact ⟨0,vae _,rfl,fun k h=>absurd h (vbe _),Below.refl _ _⟩
    case round =>
     obtain ⟨j,hj,rfl,A6,hb⟩:=hrel;have HA:=hid A6;have HB:=hid hb;clear A6
     by_cases A0:j<l.length
     . obtain ⟨b,off,x1,y1,x3,y3,x4,y4,x5,y5,rfl,B9, -,c1, -, -, -, -, -,ho, -, -⟩:=(HO.out.later (thenB Ad.out hb)).get j A0
       have CC:=hid ho.uses;have EV:=ho.uses.bound
       have Er:Hid (zeb l j=l[j].uses.all (zea l j)):=by show zeb l j=_;unfold zeb;rw [vac A0]
       have Qt:(j:Int)<=cap:=by omega
       have GH:(j:Int)<l.length:=by omega
       have DM:=hid (HO.out.later (thenB Ad.out hb));clear ho hb;generalize l[j]=x at *;go_wp2_with fail
       go_loopw [7] (fun k AQ=>∃ q d:Nat,q<=x.uses.length/\k=qi q/\(∀ p (h:p<x.uses.length),p<q->zea l j x.uses[p]=true)/\AQ=wr.drewN d) (fun k _=>x.uses.length - (intOf k).toNat)
       case atStart=>exact ⟨0,0,vae _,rfl,fun p _ h=>absurd h (vbe _),rfl⟩
       case round=>
        obtain ⟨AQ,rfl⟩:∃ x,x=wr:=⟨_,rfl⟩
        obtain ⟨q,d,hq,rfl,hallq,hd⟩:=hrel;have HQ:=hid hallq
        have E2:qb wr AQ:=by rw [hd];exact bdJ _ _
        have HD:=hid hd;have NC:=hid E2;have c1':=(E2.cell (p:=⟨b,off+j*7+1,none⟩) B9).trans c1;have AA:=E2.size
        have ED:b<AQ.heap.size:=by omega
        clear hallq hd
        by_cases Cy:q<x.uses.length
        . obtain ⟨ub,uo,rfl,J0,huc, -⟩:=(CC.out.later E2).str q Cy
          have RP:=hid ((zo3 HN.out hj x.uses[q]).1);have HC:=hid (fun s=>zii l ev (some (qa b off)) j cap x.uses[q] (AQ.drewN s) (DM.out.later (thenB NC.out (bdJ _ _))) hj);have IL:Hid (zea l j x.uses[q]=decide (0<=nmJ l j x.uses[q])):=RP.out
          have FS:Hid (∀ p (h:p<x.uses.length),p<q+1->p≠q->zea l j x.uses[p]=true):=fun p h h1 h2=>HQ.out p h (by omega)
          have SM:(q:Int)<x.uses.length:=by omega
          clear E2
          by_cases hv:nmJ l j x.uses[q]<0
          . have HV:Hid (r=9):=AP.out.trans (if_pos (za1 (i:=j) A0 (by rw [Er.out,vcp];exact ⟨x.uses[q],vag _,by rw [IL.out];simp;omega⟩)))
            generalize nmJ l j x.uses[q]=z at *;generalize x.uses[q]=u at *;go_wp2_with fail
            go_quiet ((go_at_call 108;exact Calls.quiet_of (HC.out _)))
            go_wp2_with fail;go_ret;exact ⟨by rw [HV.out];rfl,thenB (thenB Ad.out HB.out) (thenB NC.out (bdJ _ _))⟩
          . have HT:Hid (∀ p (h:p<x.uses.length),p<q+1->zea l j x.uses[p]=true):=fun p h h1=>by
             by_cases he:p=q
             . subst he;rw [IL.out];exact decide_eq_true (by omega)
             . exact FS.out p h h1 he
            generalize nmJ l j x.uses[q]=z at *;generalize x.uses[q]=u at *;go_wp2_with fail
            go_quiet ((go_at_call 108;exact Calls.quiet_of (HC.out _)))
            go_wp2_with fail;go_roundw
            case rel=>exact ⟨q+1,_,by omega,by go_num,HT.out,by rw [HD.out,vey]⟩
            case measure=>simp [intOf];omega
        . obtain rfl:q=x.uses.length:=by omega
          have HT:Hid (zeb l j=true):=by
           show zeb l j=true;rw [Er.out,var];intro u hu;obtain ⟨p,hp,rfl⟩:=vay hu;exact HQ.out p hp hp
          clear E2;go_wp2_with fail;go_roundw
          case rel=>exact ⟨j+1,by omega,by go_num,zbj HA.out HT.out,thenB HB.out NC.out⟩
          case measure=>simp [intOf];omega
     . obtain rfl:j=l.length:=by omega
       have Fb:Hid (zgj l=true):=zak.2 HA.out;have Bl:=hid (AP.out.trans (if_neg (by rw [Fb.out];decide)));have Af:=hid (thenB Ad.out hb);clear AP HA hb;go_wp2_with fail
       obtain ⟨w5,rfl⟩:∃ x,x=wr:=⟨_,rfl⟩
       go_loopw [8,9,10] (fun i _ _ wr=>∃ j:Nat,j<=l.length/\i=qi j/\(∀ k,k<j->zdn l k=true)/\qb w wr) (fun i _ _ _=>l.length - (intOf i).toNat)
       case atStart=>exact ⟨0,vae _,rfl,fun k h=>absurd h (vbe _),Af.out⟩
       case round=>
        obtain ⟨j,hj,rfl,A6,hb⟩:=hrel;have HA:=hid A6;have HB:=hid hb;clear A6
        by_cases A0:j<l.length
        . obtain ⟨b,off,x1,y1,x3,y3,x4,y4,x5,y5,rfl,B9, -, -, -,c3,c4, -, -,ho, -, -⟩:=(HO.out.later hb).get j A0
          have Er:Hid (zdn l j=ze1 l[j].fixes.length (zcr l l[j])):=by show zdn l j=_;unfold zdn;rw [vac A0]
          have CC:=hid ho;have Mj:=ho.fixes.bound;have Ea:=hid (fun (q:Nat) (hq:q<l[j].fixes.length)=>zfo (HE.out l[j] (vag A0)) hq);have Ep:=hid (fun (m:Int) (h0:0<=m) (h1:m<=l[j].uses.length)=>(zja (zjb HN.out Fb.out) A0 h0 h1).2);have Lg:=hid (fun (m:Int) (h0:0<=m) (h1:m<=l[j].uses.length) (W:World) (hW:OsAt W (some (qa b off)) l ev)=>zij l ev (some (qa b off)) cap W hW AG HN.out Fb.out j A0 m h0 h1);have DM:=hid (HO.out.later hb)
          have GH:(j:Int)<l.length:=by omega
          clear hb ho;generalize l[j]=x at *;go_wp2_with fail
          go_loopw [9,10] (fun k _ AQ=>∃ q:Nat,q<=x.fixes.length/\k=qi q/\(∀ p,p<q->zcr l x p=true)/\qb wr AQ) (fun k _ _=>x.fixes.length - (intOf k).toNat)
          case atStart=>exact ⟨0,vae _,rfl,fun k h=>absurd h (vbe _),Below.refl _ _⟩
          case round=>
           obtain ⟨AQ,rfl⟩:∃ x,x=wr:=⟨_,rfl⟩
           obtain ⟨q,hq,rfl,hallq,Aa⟩:=hrel;have HQ:=hid hallq;have Ad:=hid Aa;have Bp:=hid (thenB HB.out Aa);have c3':=(Aa.cell (p:=⟨b,off+j*7+3,none⟩) B9).trans c3;have Rm:=(Aa.cell (p:=⟨b,off+j*7+4,none⟩) B9).trans c4;have AA:=Aa.size
           have ED:b<AQ.heap.size:=by omega
           clear hallq
           by_cases Cy:q<x.fixes.length
           . obtain ⟨fb,fo,rfl,hfx⟩:=((CC.out.later Aa).fixes).gf q Cy
             obtain ⟨G6,fr2,fr3,fr4,fr5,fr6,fr7⟩:=Ea.out q Cy;have Bi:=Ep.out x.fixes[q].m fr6 fr7
             have FS:Hid (zcr l x q=zgp l x x.fixes[q]):=by show zcr l x q=_;unfold zcr;rw [vac Cy]
             obtain ⟨Eg,g0,g1,g2, -, -, -⟩:=hfx;have BN:=hid (fun W hW=>Lg.out x.fixes[q].m fr6 fr7 W hW);generalize x.fixes[q]=f at *
             obtain ⟨p,hp⟩:∃ p:Nat,f.at_=p:=⟨f.at_.toNat,by omega⟩
             have CG:p<x.code.length:=by omega
             obtain ⟨cb,co,rfl,DZ⟩:=((CC.out.later Aa).code).gi p CG;obtain ⟨GQ, -,i1, -, -, -, -⟩:=DZ
             have Fd:Hid (aAt x f.at_=x.code[p].a):=by show aAt x f.at_=_;rw [hp];exact zsx CG
             have LK:(p:Int)<x.code.length:=by omega
             have DY:=CC.out.code.bound;rw [hp] at g0;generalize x.code[p].a=A at *;obtain ⟨b',BG,_,_,_,_,_,_,xk,yk,Ch,hlb3, -, -, -, -, -,d5, -,C0, -, -⟩:=(DM.out.later Aa).get (modO l x f.m) Bi
             injection Ch with Ch
             injection Ch with e1 e2 _
             subst e1 e2;have D7:=C0.entries.bound;have ID:Hid (entsO l (modO l x f.m)=l[modO l x f.m].entries):=ze2 Bi
             obtain ⟨X,hX⟩:∃ X,X=AQ.alloc (.cells #[qi p,qi f.kind,qi f.m] 67):=⟨_,rfl⟩
             have Bu:qb AQ X:=by rw [hX];exact al1 _ _
             have HX:=hid hX
             have BH:X.heap[AQ.heap.size]? = some (.cells #[qi p,qi f.kind,qi f.m] 67):=by rw [hX];exact heap_newP _ _
             have IU:X.heap.size=AQ.heap.size+1:=by rw [hX];simp
             obtain ⟨q0,q1,q2⟩:=zjl BH;have Ky:=(Bu.cell (p:=⟨b,off+j*7+3,none⟩) ED).trans c3';have SB:=(Bu.cell (p:=⟨cb,co+p*3+1,none⟩) GQ).trans i1;have TG:=(Bu.cell (p:=⟨b,off+modO l x f.m*7+5,none⟩) ED).trans d5;have CF:=hid (Aa.trans (Bu.mono Aa.size));have P8:=hid (fun s=>BN.out (X.drewN s) (DM.out.later (thenB CF.out (bdJ X s))))
             have Au:b<X.heap.size:=by omega
             have QF:cb<X.heap.size:=by omega
             have LP:((modO l x f.m:Nat):Int)<l.length:=by omega
             clear Aa Bu hX BH c3' i1 d5 c3 c4 C0;generalize J7:l[modO l x f.m].entries.length=nk at *
             have II:Hid (zgp l x f = !(decide (f.kind=2)&&decide ((nk:Int)<=A))):=by show zgp l x f=_;unfold zgp;rw [Fd.out,ID.out,J7]
             clear Ea Ep Lg BN ID Fd CC DM J7 hp G6 fr2 fr3 fr4 fr5 fr6 fr7 Bi;generalize modO l x f.m=mo at *;go_upto_region 28 with fail;rw [← HX.out]
             by_cases k2:f.kind=2
             . have IQ:(f.kind == 2)=true:=by simp [k2]
               by_cases hA:(nk:Int)<=A
               . have HV:Hid (r=5):=Bl.out.trans (if_pos (za1 (i:=j) A0 (Er.out.trans (za1 (i:=q) Cy (FS.out.trans (II.out.trans (by simp [k2,hA])))))))
                 have R5:decide ((nk:Int)<=A)=true:=decide_eq_true hA;clear k2
                 go_quiet ((go_at_call 105;exact Calls.quiet_of (P8.out _)))
                 go_wp2_with fail;go_ret;exact ⟨by rw [HV.out];rfl,thenB HB.out (thenB CF.out (bdJ _ _))⟩
               . have HV:Hid (zcr l x q=true):=FS.out.trans (II.out.trans (by simp [hA]))
                 have R5:decide ((nk:Int)<=A)=false:=decide_eq_false hA;clear k2
                 go_quiet ((go_at_call 105;exact Calls.quiet_of (P8.out _)))
                 go_wp2_with fail;go_roundw
                 case rel=>exact ⟨q+1,by omega,by go_num,zbj HQ.out HV.out,thenB CF.out (bdJ _ _)⟩
                 case measure=>simp [intOf];omega
             . have HV:Hid (zcr l x q=true):=FS.out.trans (II.out.trans (by simp [k2]))
               have IQ:(f.kind == 2)=false:=by simp [k2]
               clear k2
               go_quiet (fail)
               go_wp2_with fail;go_roundw
               case rel=>exact ⟨q+1,by omega,by go_num,zbj HQ.out HV.out,thenB CF.out (bdJ _ _)⟩
               case measure=>simp [intOf];omega
           . obtain rfl:q=x.fixes.length:=by omega
             have HT:Hid (zdn l j=true):=Er.out.trans (zak.2 HQ.out);clear Aa;go_wp2_with fail;go_roundw
             case rel=>exact ⟨j+1,by omega,by go_num,zbj HA.out HT.out,Bp.out⟩
             case measure=>simp [intOf];omega
        . obtain rfl:j=l.length:=by omega
          have HV:Hid (r=0):=Bl.out.trans (if_neg (by rw [show zih l=true from zak.2 HA.out];decide));have Fa:=hid hb;clear hb;go_wp2_with fail;go_ret;exact ⟨by rw [HV.out];rfl,Fa.out⟩
def z3j (l:List Ob) (j:Nat):List Int:=(List.range j).map fun k=>(l.length:Int)+1+cdL (l.take k)
def z3k (l:List Ob) (j:Nat):List Int:=(List.range j).map fun k=>dtL (l.take k)
theorem zwt (l:List Ob) (j:Nat):intV (z3j l (j+1))=intV (z3j l j)++[qi ((l.length:Int)+1+cdL (l.take j))]:=by
 unfold z3j intV;rw [vdc];simp
theorem zwu (l:List Ob) (j:Nat):intV (z3k l (j+1))=intV (z3k l j)++[qi (dtL (l.take j))]:=by
 unfold z3k intV;rw [vdc];simp
theorem zwv {w:World} {B g n cap:Nat} (f:Nat->Int) (h:w.ownsRow B 3 1 (.slice (some (qa g 0)) n cap) n (intV ((List.range n).map f))):g<w.heap.size/\∀ k,k<n->w.cell? (qa g k)=some (qi (f k)):=by
 refine ⟨(h.lt g rfl).2,fun k hk=>?_⟩;have:=h.cells (g:=g) rfl k (qi (f k)) (by simp [intV,hk]);rwa [zjn,vax] at this
theorem int_one (x:Int):∀ u ∈ (#[Value.int .i64 x]:Array Value).toList,u.oneCell'=true:=fun u hu=>by
 have:u=qi x:=by simpa using hu
 subst this
 rfl
theorem zs3 {w:World} {B:Nat} {e:TypeId} {sz:Nat} {v:Value} {n:Nat} {xs:List Value} {k:Nat} (h:w.ownsRow B e sz v n xs) (hk:v.ownBlock=some k):∃ x,w.heap[k]? = some x:=⟨_,vbq (h.lt k hk).2⟩
theorem Onto.keep {w w':World} {B:Nat} {e:TypeId} {size:Nat} {v:Value} {n g cap:Nat} {xs:List Value} (h:Onto w w' B e size v n g cap xs) {B':Nat} {e':TypeId} {sz:Nat} {u:Value} {m:Nat} {ys:List Value} (hr:w.ownsRow B' e' sz u m ys) (hn:∀ k,u.ownBlock=some k->v.ownBlock≠some k):w'.ownsRow B' e' sz u m ys:=
 zaf hr fun k hk=>by
  obtain ⟨x,hx⟩:=zs3 hr hk;rw [h.old k x hx (hn k hk),hx]
theorem zpg {w:World} {B:Nat} {e:TypeId} {sz:Nat} {d c:Value} {n g m cp:Nat} {xs:List Value} (hr:w.ownsRow B e sz d n xs) (hn:∀ k,d.ownBlock=some k->c.ownBlock≠some k) (ha:c.ownBlock=some g\/w.heap.size<g):∀ k,d.ownBlock=some k->(Value.slice (some (qa g 0)) m cp).ownBlock≠some k:=fun k hk e'=>by
 have h1:g=k:=vai e';have h2:=(hr.lt k hk).2
 rcases ha with h | h
 . exact hn k hk (by rw [h,h1])
 . omega
structure Lk (w:World) (B:Nat) (l:List Ob) (c d:Value) (M:Nat) (v:Value) (cs:List Gi):Prop where
 cr:w.ownsRow B 3 1 c l.length (intV (z3j l l.length))
 dr:w.ownsRow B 3 1 d l.length (intV (z3k l l.length))
 mr:w.heap[M]? = some (.cells #[v,qi (dtL l)] 81 (0,0))
 vr:w.ownsRow B 69 3 v cs.length (zdl cs)
 nc:c.ownBlock≠some M
 nd:d.ownBlock≠some M
 nv:v.ownBlock≠some M
 vc:∀ k,c.ownBlock=some k->v.ownBlock≠some k
 vd:∀ k,d.ownBlock=some k->v.ownBlock≠some k
theorem Lk.later {w w':World} {B:Nat} {l:List Ob} {c d:Value} {M:Nat} {v:Value} {cs:List Gi} (h:Lk w B l c d M v cs) (hb:qb w w'):Lk w' B l c d M v cs:=
 ⟨ownsRow_later h.cr hb,ownsRow_later h.dr hb,(hb.block _ (lt_of_heap h.mr)).trans h.mr,ownsRow_later h.vr hb,h.nc,h.nd,h.nv,h.vc,h.vd⟩
theorem Lk.step {w w':World} {B:Nat} {l:List Ob} {c d:Value} {M:Nat} {v v':Value} {cs cs':List Gi} (h:Lk w B l c d M v cs) (Fk:∀ (b:Nat) (x:Obj),w.heap[b]? = some x->v.ownBlock≠some b->w'.heap[b]? = some x) (Ab:w'.ownsRow B 69 3 v' cs'.length (zdl cs')) (AF:v'.ownBlock=v.ownBlock\/∃ k,v'.ownBlock=some k/\w.heap.size<=k):Lk (w'.setCell (qa M 0) v') B l c d M v' cs':=by
 have hM:=lt_of_heap h.mr
 have Aj:v'.ownBlock≠some M:=fun e=>by
  rcases AF with e' | ⟨k,e',hk⟩
  . exact h.nv (e'.symm.trans e)
  . rw [e'] at e;have:=vai e;omega
 have hk:∀ {e:TypeId} {u:Value} {n:Nat} {ys:List Value},w.ownsRow B e 1 u n ys->u.ownBlock≠some M->(∀ k,u.ownBlock=some k->v.ownBlock≠some k)->(w'.setCell (qa M 0) v').ownsRow B e 1 u n ys/\∀ k,u.ownBlock=some k->v'.ownBlock≠some k:=fun hr h1 h2=>by
  refine ⟨zaf hr fun k hk=>?_,fun k hk e=>?_⟩
  . obtain ⟨x,hx⟩:=zs3 hr hk
    rw [heap_set_ne (p:=(qa M 0)) (by show k≠M;intro e;exact h1 (by rw [hk,e])),Fk k x hx (h2 k hk),hx]
  . rcases AF with e' | ⟨j,e',hj⟩
    . exact h2 k hk (e'.symm.trans e)
    . have:=(hr.lt k hk).2
      rw [e'] at e;have:=vai e;omega
 obtain ⟨c1,c2⟩:=hk h.cr h.nc h.vc;obtain ⟨d1,d2⟩:=hk h.dr h.nd h.vd;exact ⟨c1,d1,heap_set (Fk M _ h.mr h.nv) _,zaf Ab (fun k hk=>heap_set_ne (p:=(qa M 0)) (by show k≠M;intro e;exact Aj (by rw [hk,e])) _),h.nc,h.nd,Aj,c2,d2⟩
theorem Lk.start {w:World} {B:Nat} {l:List Ob} {c d:Value} (hB:B<=w.heap.size) (hc:w.ownsRow B 3 1 c l.length (intV (z3j l l.length))) (hd:w.ownsRow B 3 1 d l.length (intV (z3k l l.length))) :
 Lk (w.alloc (.cells #[qs,qi (dtL l)] 81)) B l c d w.heap.size (qs) []:=
 ⟨ownsRow_later hc (al1 _ _),ownsRow_later hd (al1 _ _),heap_newP _ _,ver _ _ _ _,fun e=>by have:=(hc.lt _ e).2;omega,fun e=>by have:=(hd.lt _ e).2;omega,fun e=>(by cases e),fun k _ e=>(by cases e),fun k _ e=>(by cases e)⟩
theorem zuj {w:World} {base g:Nat} (h:w.heap[g]? = some (.cells #[] 69)) (hb:base<=g):w.ownsRow base 69 3 (.slice (some (qa g 0)) 0 0) 0 []:=
 ⟨rfl,Or.inr ⟨g,0,#[],rfl,hb,h,vaa _,vae _,rfl,rfl⟩⟩
theorem Lk.putC {w w':World} {B:Nat} {l:List Ob} {c d:Value} {M:Nat} {v:Value} {cs:List Gi} (h:Lk w B l c d M v cs) {n:Nat} (hn:cs.length=n) {i:Gi} {g cap:Nat} (ho:Onto w w' B 69 3 v n g cap (zdl cs++giV i)) :
 w'.cell? (qa M 0)=some v/\w'.frozen? (qa M 0)=false/\M<w'.heap.size/\Lk (w'.setCell (qa M 0) (.slice (some (qa g 0)) (n+1) cap)) B l c d M (.slice (some (qa g 0)) (n+1) cap) (cs++[i]):=by
 subst hn;have hb:=ho.old M _ h.mr h.nv;refine ⟨by rw [vep hb];rfl,veq hb 0,lt_of_heap hb,?_⟩;refine h.step ho.old ?_ (ho.at_.imp (fun e=>e.symm) (fun e=>⟨g,rfl,by omega⟩));rw [zhr,vak];exact ho.own
theorem zz3 {o:Ob} (h:oChk o=0) {j:Nat} (hj:j<o.fixes.length) (k1:o.fixes[j].kind=1):o.fixes[j].m=0:=by
 obtain ⟨_,_,_,hf⟩:=zhx h;have:=zak.1 hf j hj;unfold zf3 at this;rw [vac hj] at this;simp only [vab] at this;obtain ⟨_,_,hb⟩:=this;unfold zv0 at hb;rw [if_pos k1] at hb;unfold okF at hb;simp only [vab,decide_eq_true_eq] at hb;omega
theorem zww (l:List Ob) (o:Ob) (f:Gf) (j:Nat) (A:Int) (hA:aAt o f.at_=A) (h1:f.kind=1->modO l o f.m=j) :
 (f.kind=1->zzm l o f=(l.length:Int)+1+cdL (l.take j)+A)/\(f.kind=2->zzm l o f=(l.length:Int)+1+cdL (l.take (modO l o f.m))+(entsO l (modO l o f.m)).getD A.toNat 0)/\(f.kind=3->zzm l o f=dtL (l.take (modO l o f.m))+A):=by
 unfold zzm fixV;rw [hA];refine ⟨fun k=>?_,fun k=>?_,fun k=>?_⟩
 . rw [if_neg (by omega),if_neg (by omega),h1 k]
 . rw [if_pos k]
 . rw [if_neg (by omega),if_pos k]
theorem zuk (FE:COk) (l:List Ob) (ev:Nat->Value) (a:OA) (cap:Nat) (w:World) (hO:OsAt w a l ev) (AG:l.length<=cap) :
 qc 41 #[.slice a l.length cap] w fun e w'=>znf w.heap.size (zq3 l) e w'/\qb w w':=by
 have Bt:=hO.bound;have HO:=hid hO;have HC:=hid (zfg FE l ev a cap (w.alloc (.cells #[qs,qi 0] 81)) (hO.later (al1 _ _)) AG);clear hO FE
 obtain ⟨r,hr⟩:∃ r,r=zq3 l:=⟨_,rfl⟩
 rw [← hr];unfold zq3 at hr;have HR:=hid hr;clear hr;go_enter Tryz.func41,Tryz.ntmps41;go_wp2_with fail;refine HC.out.mono ?_;rintro e w1 ⟨rfl,A5⟩;have A8:=hid (thenB (al1 w _) A5);have P0:=hid ((A5.block w.heap.size (by simp)).trans (heap_newP w (.cells #[qs,qi 0] 81)));have Ao:=A5.size;simp at Ao;obtain ⟨r0,r1,rf⟩:=zbp P0.out;have CY:=lt_of_heap P0.out;clear A5 HC
 by_cases he:lnChk l=0
 rotate_left
 . have HV:Hid (r = .error (lnChk l)):=HR.out.trans (if_pos he)
   generalize lnChk l=z at *;have FL:=hid he;go_wp2_with fail;refine bodyPost_ret (v:=.tuple #[.agg #[qs,qi 0],qi z]) (by simp [results,Tryz.results41,go_sem,r0,r1,CY]) rfl ⟨by rw [HV.out];exact ⟨rfl,FL.out⟩,?_⟩;exact (A8.out.setCell (p:=(qa w.heap.size 0)) (vaa _) _).setCell (p:=(qa w.heap.size 1)) (vaa _) _
 obtain ⟨k1,k2,k3,k4,k5,k6⟩:=zsz he;have Am:=hid (HR.out.trans (if_neg (fun h=>h he)));have HE:=hid k3;have HN:=hid (zq2 k2 k3);have Ix:=hid k4
 have IA:Hid (MainsB l):=⟨fun o ho=>by have:=zwi (k3 o ho);have:=zq1 (k3 o ho);omega,k4⟩
 have Fb:=hid k5;have Eq:=hid k6;rw [he];clear HR k3 k4 k5 k6 he r0 r1 rf;go_wp2_with fail
 go_loopw [5,6,7,8,9] (fun c d p q i wr=>∃ j:Nat,j<=l.length/\i=qi j/\p=qi ((l.length:Int)+1+cdL (l.take j))/\q=qi (dtL (l.take j))/\wr.ownsRow w1.heap.size 3 1 c j (intV (z3j l j))/\wr.ownsRow w1.heap.size 3 1 d j (intV (z3k l j))/\(∀ k,d.ownBlock=some k->c.ownBlock≠some k)/\qb w1 wr) (fun _ _ _ _ i _=>l.length - (intOf i).toNat)
 case atStart=>exact ⟨0,vae _,rfl,by simp [cdL],by simp [dtL],ver _ _ _ _,ver _ _ _ _,fun k hk=>(by cases hk),Below.refl _ _⟩
 case round =>
  obtain ⟨j,hj,rfl,rfl,rfl,hc,hd,hn,hb⟩:=hrel;obtain ⟨ca,cx,rfl, -, -⟩:=zag hc;obtain ⟨da,dx,rfl, -, -⟩:=zag hd;have IG:=hid hc;have Ks:=hid hd;have N9:=hid hn;have HB:=hid hb;have BU:=hb.size;have Bo:=zek HN.out j hj;clear hn hc hd
  by_cases A0:j<l.length
  . obtain ⟨b,off,x1,y1,x3,y3,x4,y4,x5,y5,rfl,B9, -, -,c2,c3, -, -, -, -, -, -⟩:=HO.out.get j A0
    have HX:=hid (fun W (hW:qb w W)=>(⟨vah B9 hW.size,(hW.cell (p:=⟨b,off+j*7+2,none⟩) B9).trans c2,(hW.cell (p:=⟨b,off+j*7+3,none⟩) B9).trans c3⟩:b<W.heap.size/\W.cell? ⟨b,off+j*7+2,none⟩=some (qi l[j].data)/\W.cell? ⟨b,off+j*7+3,none⟩=some (.slice x3 l[j].code.length y3)));obtain ⟨Fz,Fy,GP,GO⟩:=HN.out.2 l[j] (vag A0);have Sd:=hid (zi6 A0);have Ko:=hid (zi7 A0);have Se:=hid (zwt l j);have Lq:=hid (zwu l j);clear c2 c3 hb;generalize l[j].code.length=nc at *;generalize l[j].data=nd at *;generalize cdL (l.take j)=cd at *;generalize dtL (l.take j)=dd at *
    go_wp2_with (at_builtin;first
     | (refine zeg rfl (.tmp 33) (.tmp 35) 49 rfl w1.heap.size 3 _ 1 8 Tryz.underlying49 Tryz.infoInt rfl (by decide) wr (.slice ca j cx) j (intV (z3j l j)) rfl IG.out #[qi ((l.length:Int)+1+cd)] _ rfl rfl rfl (int_one _) (by omega) (by decide) (by omega) _ rfl ?_;intro g cp w2 ho;have Bh:=hid ho.own;have Hz:=hid (ho.keep Ks.out N9.out);have Ad:=hid (HB.out.trans ho.below);have Gh:Hid (∀ k,(Value.slice da j dx).ownBlock=some k->(Value.slice (some (qa g 0)) (j+1) cp).ownBlock≠some k):=zpg Ks.out N9.out ho.at_;have AA:=ho.size;clear ho)
     | (refine zeg rfl (.tmp 37) (.tmp 39) 49 rfl w1.heap.size 3 _ 1 8 Tryz.underlying49 Tryz.infoInt rfl (by decide) w2 (.slice da j dx) j (intV (z3k l j)) rfl Hz.out #[.int .i64 dd] _ rfl rfl rfl (int_one _) (by omega) (by decide) (by omega) _ rfl ?_;intro g5 c5 w3 ho;have Kt:=hid ho;have BF:=hid (ho.keep Bh.out (fun k hk e=>Gh.out k e hk));have Af:=hid (Ad.out.trans ho.below);have K7:Hid (∀ k,(Value.slice (some ⟨g5,0,none⟩) (j+1) c5).ownBlock=some k->(Value.slice (some ⟨g,0,none⟩) (j+1) cp).ownBlock≠some k):=fun k hk e=>zpg Bh.out (fun k h e=>Gh.out k e h) ho.at_ k e hk;have BO:=ho.size;obtain ⟨Au,c2,c3⟩:=HX.out w3 (thenB A8.out Af.out);clear ho))
    go_wp2_with fail;go_roundw
    case rel=>exact ⟨j+1,by omega,by go_num,by rw [Sd.out];congr 1;omega,by rw [Ko.out],by rw [Se.out];exact BF.out,by rw [Lq.out];exact Kt.out.own,K7.out,Af.out⟩
    case measure=>simp [intOf];omega
  . obtain rfl : j=l.length:=by omega
    rw [vat] at *;have F2:=zg1 l l.length (vaa _);rw [vat] at F2;have Fa:=hid (thenB A8.out hb);have P1:=hid ((hb.block _ CY).trans P0.out);obtain ⟨r0,r1,rf⟩:=zbp P1.out;have CY:=lt_of_heap P1.out
    obtain ⟨w4,rfl⟩:∃ x,x=wr:=⟨_,rfl⟩
    clear hb;generalize CX:(codeL l l.length).length=nn at *;have DN:=hid CX;clear CX
    by_cases g1:2048<nn
    . have HV:Hid (r = .error 2):=Am.out.trans (if_pos (Or.inl g1))
      have KZ:(2048:Int)<(l.length:Int)+1+cdL l:=by omega
      generalize cdL l=cd at *;generalize dtL l=dd at *;go_wp2_with fail;refine bodyPost_ret (v:=.tuple #[.agg #[qs,qi 0],qi 2]) (by simp [results,Tryz.results41,go_sem,r0,r1,CY]) rfl ⟨by rw [HV.out];exact ⟨rfl,by decide⟩,?_⟩;exact (Fa.out.setCell (p:=(qa w.heap.size 0)) (vaa _) _).setCell (p:=(qa w.heap.size 1)) (vaa _) _
    by_cases g2:512<dtL l
    . have HV:Hid (r = .error 2):=Am.out.trans (if_pos (Or.inr g2))
      have KZ:¬ ((2048:Int)<(l.length:Int)+1+cdL l):=by omega
      generalize cdL l=cd at *;generalize dtL l=dd at *;go_wp2_with fail;refine bodyPost_ret (v:=.tuple #[.agg #[qs,qi 0],qi 2]) (by simp [results,Tryz.results41,go_sem,r0,r1,CY]) rfl ⟨by rw [HV.out];exact ⟨rfl,by decide⟩,?_⟩;exact (Fa.out.setCell (p:=(qa w.heap.size 0)) (vaa _) _).setCell (p:=(qa w.heap.size 1)) (vaa _) _
    have HV:Hid (r = .ok (codeL l l.length,dtL l)):=Am.out.trans (if_neg (by omega))
    have KZ:¬ ((2048:Int)<(l.length:Int)+1+cdL l):=by omega
    obtain ⟨gc,cx1,ec, -, -⟩:=zd1 IG.out (by omega:0<l.length);obtain ⟨gd,dx1,ed, -, -⟩:=zd1 Ks.out (by omega:0<l.length)
    injection ec with e1 e2 e3
    subst e1 e3
    injection ed with e1 e2 e3
    subst e1 e3
    obtain ⟨M,hM⟩:∃ M,M=w4.heap.size:=⟨_,rfl⟩
    obtain ⟨X,hX⟩:∃ X,X=w4.alloc (.cells #[qs,qi (dtL l)] 81):=⟨_,rfl⟩
    have OU:=hid hX
    have Lj:Hid (Lk X w1.heap.size l (.slice (some (qa gc 0)) l.length cx) (.slice (some (qa gd 0)) l.length dx) M (qs) []):=by rw [hX,hM];exact Lk.start BU IG.out Ks.out
    have An:Hid (qb w1 X):=by rw [hX];exact HB.out.trans ((al1 w4 _).mono BU)
    have KT:w1.heap.size<=M:=by omega
    have BN:=hid hM;clear hX hM r0 r1 rf F2 DN IG Ks N9;go_upto_region 16 with fail;rw [← OU.out,← BN.out];clear OU BN;go_wp2_with fail
    go_loopw [11] (fun i wr=>∃ (j:Nat) (v:Value),j<=l.length/\i=qi j/\Lk wr w1.heap.size l (.slice (some (qa gc 0)) l.length cx) (.slice (some (qa gd 0)) l.length dx) M v (zd0 l j)/\qb w1 wr) (fun i _=>l.length - (intOf i).toNat)
    case atStart=>exact ⟨0,_,vae _,rfl,Lj.out,An.out⟩
    case round =>
     obtain ⟨j,v,hj,rfl,hk,hb⟩:=hrel;have hv:=hk.vr;rw [zeq] at hv;obtain ⟨va,vc,rfl, -, -⟩:=zag hv;obtain ⟨m0, -, -⟩:=zbp hk.mr;have Fp:=lt_of_heap hk.mr;have Ar:=hid hb;have IR:=hb.size
     by_cases A0:j<l.length
     . obtain ⟨b,off,x1,y1,x3,y3,x4,y4,x5,y5,rfl,B9, -, -, -, -, -, -,c6, -, -, -⟩:=(HO.out.later (thenB A8.out hb)).get j A0
       have HK:=hid (hk.later (zi9 wr));have L7:=hid (ownsRow_later hv (zi9 wr));obtain ⟨G1,hgc⟩:=zwv _ hk.cr;have Rk:=hgc j A0;have Bo:=zek HN.out j hj;obtain ⟨FY,Dy⟩:=IA.out.main l[j] (vag A0);have Iz:=hid (z2g A0);have Ja:=HN.out.1;clear hk hb hv hgc;generalize l[j].main=mn at *;generalize cdL (l.take j)=cd at *;generalize dtL (l.take j)=dt at *;have Cm:IntKind.i64.wrap ((l.length:Int)+1+cd+mn)=(l.length:Int)+1+cd+mn:=zzl (by omega) (by omega);go_upto_region 19 with fail
       go_region_law (first | (refine zfd rfl (.tmp 72) (.tmp 84) 59 rfl w1.heap.size 69 _ 3 24 Tryz.underlying59 Tryz.infoInstr rfl (by decide) wr.drew (.slice va j vc) j (zdl (zd0 l j)) rfl L7.out #[qi 13,qi ((l.length:Int)+1+cd+mn),qi 0] _ (by simp) rfl rfl (zk2 ⟨13,_,0⟩) (by omega) (by decide) IR _ rfl ?_;intro g5 c5 w5 ho;obtain ⟨d0,d1,d2,hk5⟩:=HK.out.putC (zeq l j) (i:=⟨13,_,0⟩) ho;have Ax:=hid hk5;have Cb:=hid ((Ar.out.drew.trans ho.below).setCell (p:=(qa M 0)) KT (.slice (some (qa g5 0)) (j+1) c5));clear ho hk5))
       all_goals
        go_wp2_with fail;go_roundw
        case rel=>exact ⟨j+1,_,by omega,by go_num,by rw [zjm,Iz.out];exact Ax.out,Cb.out⟩
        case measure=>simp [intOf];omega
     . obtain rfl:j=l.length:=by omega
       have HK:=hid hk;have L7:=hid hv;have Ja:=HN.out.1
       obtain ⟨w6,rfl⟩:∃ x,x=wr:=⟨_,rfl⟩
       clear hk hb hv
       go_wp2_with (at_builtin;refine zeg rfl (.tmp 88) (.tmp 90) 59 rfl w1.heap.size 69 _ 3 24 Tryz.underlying59 Tryz.infoInstr rfl (by decide) w6 (.slice va l.length vc) l.length (zdl (zd0 l l.length)) rfl L7.out #[qi 20,qi 0,qi 0] _ rfl rfl rfl (zk2 ⟨20,0,0⟩) (by omega) (by decide) IR _ rfl ?_;intro g6 c6 w7 ho;obtain ⟨d0,d1,d2,hk7⟩:=HK.out.putC (zeq l _) (i:=⟨20,0,0⟩) ho;have CE:=hid hk7;have Bw:=hid ((Ar.out.trans ho.below).setCell (p:=(qa M 0)) KT (.slice (some (qa g6 0)) (l.length+1) c6));clear ho hk7)
       go_upto_region 21 with fail;generalize w7.setCell (qa M 0) (.slice (some (qa g6 0)) (l.length+1) c6)=w8 at *
       have Sj:Hid (codeL l 0=zd0 l l.length++[⟨20,0,0⟩]):=by show codeL l 0=_;simp [codeL]
       clear d0 d1 d2 m0 Fp L7 HK Ar IR;go_wp2_with fail
       go_loopw [12,13,14,15,16,17] (fun i _ _ _ _ _ wr=>∃ (j:Nat) (v:Value),j<=l.length/\i=qi j/\Lk wr w1.heap.size l (.slice (some (qa gc 0)) l.length cx) (.slice (some (qa gd 0)) l.length dx) M v (codeL l j)/\qb w1 wr) (fun i _ _ _ _ _ _=>l.length - (intOf i).toNat)
       case atStart=>exact ⟨0,_,vae _,rfl,by rw [Sj.out];exact CE.out,Bw.out⟩
       case round=>
        obtain ⟨j,v,hj,rfl,hk,hb⟩:=hrel;have hv:=hk.vr;obtain ⟨va,vc,rfl, -, -⟩:=zag hv;have HK:=hid hk;have B6:=hid hb;have IR:=hb.size
        by_cases A0:j<l.length
        . obtain ⟨b,off,x1,y1,x3,y3,x4,y4,x5,y5,rfl,B9, -, -, -,c3,c4, -, -,ho, -, -⟩:=(HO.out.later (thenB A8.out hb)).get j A0
          obtain ⟨Fz,Fy,GP,GO⟩:=HN.out.2 l[j] (vag A0);have F6:=HE.out l[j] (vag A0);have Mj:=ho.fixes.bound;have F2:=zg1 l j hj;have Tb:=zek HN.out j hj;have CC:=hid ho;have Kl:=hid (zjb Ix.out Fb.out);have Ea:=hid (fun (q:Nat) (hq:q<l[j].fixes.length)=>zfo F6 hq);have MZ:=hid (fun (q:Nat) (hq:q<l[j].fixes.length)=>zjp F6 hq);have RC:=hid (fun (q:Nat) (hq:q<l[j].fixes.length)=>zz3 F6 hq);have Ll:=hid (fun (q p:Nat) (h1:q<=l[j].fixes.length) (h2:lastAt l[j] q<p)=>zne l F6 q p h1 h2);have Ep:=hid (fun (m:Int) (h0:0<=m) (h1:m<=l[j].uses.length)=>(zja Kl.out A0 h0 h1).2);have I0:=hid (fun (q:Nat) (hq:q<l[j].fixes.length)=>zsy Eq.out A0 hq);have Lg:=hid (fun (m:Int) (h0:0<=m) (h1:m<=l[j].uses.length) (W:World) (hW:OsAt W (some (qa b off)) l ev)=>zij l ev (some (qa b off)) cap W hW AG Ix.out Fb.out j A0 m h0 h1)
          have RE:=hid (zo4 Ix.out A0);have DM:=hid (HO.out.later (thenB A8.out hb));have F8:=hid (zhy l A0);have Ja:=HN.out.1;have KS:=al1 wr (.cells #[] 69);generalize l[j]=x at *
          obtain ⟨v1,w9,DV,Ag,Ij,hat1⟩:=zes (wr.alloc (.cells #[] 69)) wr.heap.size 59 (.slice (some (qa wr.heap.size 0)) 0 0) [] (zuj (heap_newP _ _) (vaa _)) x3 y3 x.code (fun hn=>by
           obtain ⟨cb,co,rfl,_⟩:=(CC.out.later KS).code.gi 0 (by omega);refine ⟨cb,co,rfl,fun i hi=>?_⟩;obtain ⟨Rl,co',e,hl,i0,i1,i2,_⟩:=(CC.out.later KS).code.gi i hi
           cases e
           exact ⟨i0,i1,i2⟩) (by simp;omega) (by simp)
          rw [veg,vco,vax] at Ag;obtain ⟨g,cc,rfl,hgB,G1⟩:=zd1 Ag (by omega);have BE:qb wr w9:=KS.grown Ij (by simp) (fun k hk=>by have h:wr.heap.size=k:=vai hk;omega);have AV:=hid DV;have Bd:=hid Ag;have BT:=hid BE;have Gs:=BE.size;clear DV Ag Ij hat1 BE KS hb hk hv ho
          go_wp2_with (at_builtin;refine Lib.wpList_append_run _ rfl _ _ _ _ rfl _ _ rfl rfl _ w9 AV.out ?_)
          go_loopw [14,15,16,17] (fun k _ _ _ AQ=>∃ q:Nat,q<=x.fixes.length/\k=qi q/\AQ.ownsRow wr.heap.size 69 3 (.slice (some (qa g 0)) x.code.length cc) x.code.length (zdl (fxL l x q))/\qb wr AQ) (fun k _ _ _ _=>x.fixes.length - (intOf k).toNat)
          case atStart=>exact ⟨0,vae _,rfl,Bd.out,BT.out⟩
          case round=>
           obtain ⟨AQ,rfl⟩:∃ x,x=wr:=⟨_,rfl⟩
           obtain ⟨q,hq,rfl,Ab,Aa⟩:=hrel;have Dl:=hid Ab;have Ad:=hid Aa;have AA:=Aa.size;have Rm:=(Aa.cell (p:=⟨b,off+j*7+4,none⟩) B9).trans c4
           have ED:b<AQ.heap.size:=by omega
           have M9:=(Ab.lt g rfl).2;have Ma:=(Ab.lt g rfl).1
           by_cases Cy:q<x.fixes.length
           . obtain ⟨fb,fo,rfl,hfx⟩:=((CC.out.later Aa).fixes).gf q Cy
             obtain ⟨G6,fr2,fr3,fr4,fr5,fr6,fr7⟩:=Ea.out q Cy;have Bi:=Ep.out x.fixes[q].m fr6 fr7;obtain ⟨Eg,g0,g1,g2, -, -, -⟩:=hfx;have BN:=hid (fun W hW=>Lg.out x.fixes[q].m fr6 fr7 W hW);have MT:=hid (znd l x Cy);have II:=hid (I0.out q Cy);have Fi:=MZ.out q Cy;have RB:=hid (fun k1=>RC.out q Cy k1);generalize x.fixes[q]=f at *
             obtain ⟨p,hp⟩:∃ p:Nat,f.at_=p:=⟨f.at_.toNat,by omega⟩
             have CG:p<x.code.length:=by omega
             have J3:p<(fxL l x q).length:=by rw [zb7];exact CG
             have Cs:=Ll.out q p (by omega) (by omega)
             have KW:aAt x f.at_=(fxL l x q)[p].a:=by
              have:(fxL l x q)[p]=x.code[p]:=by
               rw [vac J3,vac CG] at Cs;exact vai Cs
              show aAt x f.at_=_;rw [this,hp];exact zsx CG
             have At:=hid (zww l x f j _ KW (fun k1=>by rw [RB.out k1];exact RE.out))
             have Bv:Hid (f.kind=2->(fxL l x q)[p].a<(entsO l (modO l x f.m)).length):=fun k2=>by
              have h1:zgp l x f=true:=II.out;unfold zgp at h1;rw [KW] at h1;simp [k2] at h1;exact h1
             have LK:(p:Int)<x.code.length:=by omega
             rw [KW] at fr4 fr5;rw [hp] at g0
             obtain ⟨X,hX⟩:∃ X,X=AQ.alloc (.cells #[qi p,qi f.kind,qi f.m] 67):=⟨_,rfl⟩
             have Bu:qb AQ X:=by rw [hX];exact al1 _ _
             have HX:=hid hX
             have IU:X.heap.size=AQ.heap.size+1:=by rw [hX];simp
             have BH:X.heap[AQ.heap.size]? = some (.cells #[qi p,qi f.kind,qi f.m] 67):=by rw [hX];exact heap_newP _ _
             have CF:=hid (Aa.trans (Bu.mono Aa.size));have E9:=hid (BN.out X (DM.out.later CF.out));have HF:=hid (fun Y (hY:qb X Y)=>zjl ((hY.block _ (lt_of_heap BH)).trans BH));have Pd:=hid (fun Y (hY:qb X Y)=>HK.out.later (thenB CF.out hY));have El:=hid (fun Y (hY:qb X Y)=>zwh (ownsRow_later (ownsRow_later Ab Bu) hY) p J3 (zb7 l x q))
             have Nt:Hid (∀ y ∈ entsO l (modO l x f.m),0<=y/\y<=2048):=by
              rw [ze2 Bi];exact zl3 (HE.out _ (vag Bi))
             have OH:entsO l (modO l x f.m)=l[modO l x f.m].entries:=ze2 Bi
             have Lf:=hid (fun Y (hY:qb X Y)=>(by
              obtain ⟨b',BG,_,_,_,_,_,_,xk,yk,Ch, -, -, -, -, -, -,d5, -,C0, -, -⟩:=(DM.out.later (thenB CF.out hY)).get (modO l x f.m) Bi
              injection Ch with Ch
              injection Ch with e1 e2 _
              subst e1 e2;have Il:=C0.entries;rw [← OH] at d5 Il
              exact ⟨xk,yk,d5,Il⟩:∃ xk yk,Y.cell? ⟨b,off+modO l x f.m*7+5,none⟩=some (.slice xk (entsO l (modO l x f.m)).length yk)/\DAt Y Tt xk (entsO l (modO l x f.m)).length (zfm (entsO l (modO l x f.m)))))
             have Bo:=zek HN.out (modO l x f.m) (by omega);obtain ⟨q0,q1,q2⟩:=zjl BH;have QB:=lt_of_heap BH
             have LP:((modO l x f.m:Nat):Int)<l.length:=by omega
             clear Bu hX Cs Fi Ll I0 Aa Ab G6 fr2 fr6 fr7 BN II KW;clear OH;generalize (fxL l x q)[p].a=A at *;generalize entsO l (modO l x f.m)=es at *;generalize modO l x f.m=mo at *;go_upto_region 29 with fail;rw [← HX.out];clear HX
             have SX:b<X.heap.size:=by omega
             go_wp2_with fail;refine E9.out.mono ?_;rintro e Y ⟨rfl,hY⟩
             have G3:qb X Y:=by obtain ⟨kk,rfl⟩:=hY;exact bdJ _ _
             obtain ⟨f0,f1,f2⟩:=HF.out Y G3;obtain ⟨r0,r1,r2,r3⟩:=El.out Y G3;have Av:=hid r3;have RH:=hid (fun s=>(El.out (Y.drewN s) (thenB G3 (bdJ Y s))).2.2.2);have Ek:=Pd.out Y G3;obtain ⟨Qy,hcc⟩:=zwv _ Ek.cr;obtain ⟨Qx,Im⟩:=zwv _ Ek.dr;have ND:=hid (CF.out.trans (G3.mono (by omega)));have SF:=G3.size;have Rq:=hid G3
             have SW:b<Y.heap.size:=by omega
             clear hY G3 Ek r3 q0 q1 q2 E9 HF El Pd;obtain ⟨K1,K2,K3⟩:=At.out
             by_cases k1:f.kind=1
             . have HV:=hid (K1 k1)
               have Rk:=hcc j A0
               have NW:(f.kind == 1)=true:=by simp [k1]
               clear K1 K2 K3 At hcc Im Lf Bv k1;generalize cdL (l.take j)=cd at *;generalize cdL (l.take mo)=cm at *;generalize dtL (l.take mo)=dm at *;generalize dtL (l.take j)=dj at *;have Cm:IntKind.i64.wrap ((l.length:Int)+1+cd+A)=(l.length:Int)+1+cd+A:=zzl (by omega) (by omega);go_wp2_with fail;go_roundw
               case rel=>exact ⟨q+1,by omega,by go_num,by rw [MT.out,HV.out,hp];exact Av.out _,ND.out.setCell (p:=⟨g,p*3+1,none⟩) (by show wr.heap.size<=g;omega) _⟩
               case measure=>simp [intOf];omega
             by_cases k2:f.kind=2
             . have R6:=Bv.out k2
               obtain ⟨i,rfl⟩:∃ i:Nat,A=i:=⟨A.toNat,by omega⟩
               have hi:i<es.length:=by omega
               obtain ⟨xk,yk,d5,Il⟩:=Lf.out Y Rq.out;have D7:=Il.bound;obtain ⟨eb,eo,rfl,Ei,Ou⟩:=Il.entI i hi;obtain ⟨TF,ex1⟩:=Nt.out es[i] (vag hi);have HV:Hid (zzm l x f=(l.length:Int)+1+cdL (l.take mo)+es[i]):=(K2 k2).trans (by rw [vbp,vav,vac hi];rfl);have TI:=hcc mo Bi
               have NW:(f.kind == 1)=false:=by simp [k1]
               have IQ:(f.kind == 2)=true:=by simp [k2]
               have T9:(i:Int)<es.length:=by omega
               clear K1 K2 K3 At hcc Im Lf Bv Nt k1 k2 Il;generalize es[i]=ei at *;generalize es.length=nk at *;generalize cdL (l.take j)=cd at *;generalize cdL (l.take mo)=cm at *;generalize dtL (l.take mo)=dm at *;generalize dtL (l.take j)=dj at *;have Cm:IntKind.i64.wrap ((l.length:Int)+1+cm+ei)=(l.length:Int)+1+cm+ei:=zzl (by omega) (by omega);go_wp2_with fail
               go_quiet (fail)
               go_wp2_with fail;go_roundw
               case rel=>exact ⟨q+1,by omega,by go_num,by rw [MT.out,HV.out,hp];exact RH.out _ _,(thenB ND.out (bdJ Y _)).setCell (p:=⟨g,p*3+1,none⟩) (by show wr.heap.size<=g;omega) _⟩
               case measure=>simp [intOf];omega
             . have HV:=hid (K3 (by omega))
               have TH:=Im mo Bi
               have NW:(f.kind == 1)=false:=by simp [k1]
               have IQ:(f.kind == 2)=false:=by simp [k2]
               clear K1 K2 K3 At hcc Im Lf Bv Nt k1 k2;generalize cdL (l.take j)=cd at *;generalize cdL (l.take mo)=cm at *;generalize dtL (l.take mo)=dm at *;generalize dtL (l.take j)=dj at *;have Cm:IntKind.i64.wrap (dm+A)=dm+A:=zzl (by omega) (by omega);go_wp2_with fail;go_roundw
               case rel=>exact ⟨q+1,by omega,by go_num,by rw [MT.out,HV.out,hp];exact Av.out _,ND.out.setCell (p:=⟨g,p*3+1,none⟩) (by show wr.heap.size<=g;omega) _⟩
               case measure=>simp [intOf];omega
           . obtain rfl:q=x.fixes.length:=by omega
             have Ek:=HK.out.later Aa;obtain ⟨m0, -, -⟩:=zbp Ek.mr;have Fp:=lt_of_heap Ek.mr;obtain ⟨v5,w5,hr5,ho5,hg5,hat5⟩:=zes AQ w1.heap.size 59 (.slice va (codeL l j).length vc) (codeL l j) Ek.vr (some (qa g 0)) cc (fxL l x x.fixes.length) (zfq (by rw [zb7];exact Ab)) (by rw [zb7];omega) (by omega);rw [zb7] at hr5;have Cf:=Ek.step (v':=v5) (cs':=codeL l j++fxL l x x.fixes.length) (fun b x hb hn=>(hg5.block b (lt_of_heap hb) (veo hn)).trans hb) (by rw [vak];exact ho5) (hat5.imp id (fun e=>⟨_,e,vaa _⟩));obtain ⟨EK,cc5,rfl, -, -⟩:=zag ho5;have Mw:=(hg5.block M Fp (veo Ek.nv)).trans Ek.mr;obtain ⟨n0, -,nf⟩:=zbp Mw;have F0:=lt_of_heap Mw;have Sz:=nf 0;generalize GW:(codeL l j).length+(fxL l x x.fixes.length).length=n5 at *;have RG:=hid Cf;have Ar:=hid (((B6.out.trans (Aa.mono IR)).grown hg5 (by omega) (fun k hk=>(Ek.vr.lt k hk).1)).setCell (p:=(qa M 0)) KT (.slice EK n5 cc5))
             have Bl:=hid hr5;clear hr5 ho5 hg5 hat5 Mw Cf Ek Aa Ab GW nf F2;generalize (codeL l j).length=nc at *
             go_wp2_with (at_builtin;refine Lib.wpList_append_run _ rfl _ _ _ _ rfl _ _ rfl rfl _ w5 Bl.out ?_;clear m0 Fp)
             go_wp2_with fail;go_roundw
             case rel=>exact ⟨j+1,_,by omega,by go_num,by rw [F8.out];exact RG.out,Ar.out⟩
             case measure=>simp [intOf];omega
        . obtain rfl:j=l.length:=by omega
          have hP:=(hb.block _ (lt_of_heap P0.out)).trans P0.out;obtain ⟨r0,r1,rf⟩:=zbp hP;have FV:=lt_of_heap hP;obtain ⟨m0,m1, -⟩:=zbp hk.mr;have Fp:=lt_of_heap hk.mr;have Fq:=lt_of_heap P0.out;have MU:=hid (zfp hv (by omega:w.heap.size<=w1.heap.size));have JN:=hid (fun k (hk:(Value.slice va (codeL l l.length).length vc).ownBlock=some k)=>(fun e=>by have:=(hv.lt k hk).1;omega:k≠w.heap.size));have Fa:=hid (thenB A8.out hb);clear hk hb hv hP;generalize CX:(codeL l l.length).length=nn at *;have N8:=hid CX;clear CX;generalize dtL l=dd at *;go_wp2_with fail;refine bodyPost_ret (v:=.tuple #[.agg #[.slice va nn vc,qi dd],qi 0]) (by simp [results,Tryz.results41,go_sem,r0,r1,FV]) rfl ⟨?_,?_⟩
          . rw [HV.out]
            refine ⟨_,rfl,?_⟩;rw [N8.out];exact zaf (zaf MU.out (fun k hk=>heap_set_ne (p:=(qa w.heap.size 0)) (JN.out k hk) _)) (fun k hk=>heap_set_ne (p:=(qa w.heap.size 1)) (JN.out k hk) _)
          . exact (Fa.out.setCell (p:=(qa w.heap.size 0)) (vaa _) _).setCell (p:=(qa w.heap.size 1)) (vaa _) _
end Go.Proofs.YtndkhgakfodldaaGreatDoor
