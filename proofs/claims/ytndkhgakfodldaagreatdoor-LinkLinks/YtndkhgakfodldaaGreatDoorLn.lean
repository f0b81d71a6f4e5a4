import Derived.Test.YtndkhgakfodldaaGreatDoorLe
import Derived.Test.YtndkhgakfodldaaGreatDoorXe
namespace Go.Proofs.YtndkhgakfodldaaGreatDoor
set_option maxRecDepth 100000
set_option maxHeartbeats 12800000
open Go.RowKit Go.Maps Go.Sort Go.WideMaps
set_option linter.unusedSimpArgs false
set_option linter.unusedVariables false
def COk:Prop:=∀ (o:Ob) (x1:OA) (y1:Nat) (x3:OA) (y3:Nat) (x4:OA) (y4:Nat) (x5:OA) (y5:Nat) (w:World),OvAt w o x1 x3 x4 x5->
    qc 34 #[.agg #[.string o.name,.slice x1 o.uses.length y1,qi o.data,.slice x3 o.code.length y3,.slice x4 o.fixes.length y4,.slice x5 o.entries.length y5,qi o.main]] w fun e w'=>e = .returned (qi (oChk o))/\qb w w'
theorem z77:∀ L:List (L8),Fx.zgd L = !decide L.Nodup:=by
 apply Fx.zeq
 . rfl
 . intro l a ih
   rw [Fx.zin,ih]
   by_cases h1:l.Nodup
   . by_cases h2:a ∈ l
     . have:¬ (l++[a]).Nodup:=fun h=>by
        have:=(vdj.1 h).2.2 a h2 a aA;exact this rfl
       simp [h1,h2,this]
     . have:(l++[a]).Nodup:=vdj.2 ⟨h1,aA,fun x hx y hy=>by
        have:y=a:=by simpa using hy
        subst this;intro e;subst e
        exact h2 hx⟩
       simp [h1,h2,this]
   . have:¬ (l++[a]).Nodup:=fun h=>h1 (vdj.1 h).1
     simp [h1,this]
def nmL (l:List Ob):List ByteArray:=l.map Ob.name
theorem zy3 (l:List Ob):Fx.zbi (nmL l)=nmO l:=by unfold Fx.zbi nmL nmO;rw [List.map_map];rfl
theorem z2g (l:List Ob) {j:Nat} (h:j<l.length):nmL (l.take (j+1))=nmL (l.take j)++[l[j].name]:=by
 unfold nmL;rw [vag h,vbw]
 rfl
theorem z78 {w:World} {base:Nat} {a:OA} {cap:Nat} {xs:List ByteArray} (h:z6o w base (.slice a xs.length cap) xs):Fx.zez w a xs:=by
 by_cases h0:xs.length=0
 . exact Or.inl (vam h0)
 . obtain ⟨a',cap',e,hc⟩:=h.cell
   injection e with e1 _ _
   subst e1;obtain ⟨b,ha,hb,_⟩:=hc 0 ae;refine Or.inr ⟨b,0,ha,hb,fun i hi=>?_⟩;obtain ⟨b',Cr,_,hcell⟩:=hc i hi;rw [ha] at Cr
   injection Cr with Cr
   injection Cr with Cr
   subst Cr;rw [vaz];exact hcell
theorem str_one (s:ByteArray):∀ u ∈ (#[Value.string s]:Array Value).toList,u.oneCell'=true:=fun u hu=>by
 have:u = .string s:=by simpa using hu
 subst this
 rfl
theorem zga (Gy:COk) (l:List Ob) (ev:Nat->Value) (a:OA) (cap:Nat) (w:World) (hO:OsAt w a l ev) (AJ:l.length<=cap) :
 qc 44 #[.slice a l.length cap] w fun e w'=>e = .returned (qi (lnChk l))/\qb w w':=by
 have Bz:=hO.bound;have HO:=hid hO;have Ty:=hid Gy;clear hO Gy
 obtain ⟨r,hr⟩:∃ r,r=lnChk l:=⟨_,rfl⟩
 rw [← hr];unfold lnChk at hr;have HR:=hid hr;clear hr;go_enter Tryz.func44,Tryz.ntmps44
 by_cases Gx:l.length<1\/4<l.length
 . have HV:Hid (r=2):=HR.out.trans (if_pos Gx)
   have hw:(decide (1<=(l.length:Int))&&decide ((l.length:Int)<=4))=false:=by
    rcases Gx with h | h
    . rw [decide_eq_false (by omega:¬ (1<=(l.length:Int)))];rfl
    . rw [decide_eq_false (by omega:¬ ((l.length:Int)<=4)),Bool.and_false]
   go_wp2_with (go_at_call 63;refine (zdr _ _ _ _).mono ?_;rintro e w' ⟨rfl,rfl⟩;rw [hw])
   exact jS
 have An:=hid (HR.out.trans (if_neg Gx))
 have KD:1<=l.length/\l.length<=4:=ae
 have hw:(decide (1<=(l.length:Int))&&decide ((l.length:Int)<=4))=true:=by
  rw [decide_eq_true (by omega:1<=(l.length:Int)),decide_eq_true (by omega:(l.length:Int)<=4)];rfl
 clear Gx HR
 go_wp2_with (go_at_call 63;refine (zdr _ _ _ _).mono ?_;rintro e w' ⟨rfl,he⟩;rw [hw,he];clear he)
 clear hw
 go_loopw [3,4,5] (fun v i _ wr=>∃ j:Nat,j<=l.length/\i=qi j/\(∀ k (h:k<l.length),k<j->oChk l[k]=0)/\z6o wr w.heap.size v (nmL (l.take j))/\qb w wr) (fun _ i _ _=>l.length - (intOf i).toNat)
 case atStart=>exact ⟨0,vaf _,rfl,fun k _ h=>absurd h (vbe _),ves _ _ _ _,Below.refl _ _⟩
 case round =>
  obtain ⟨j,hj,rfl,A7,Aa,hb⟩:=hrel;have HA:=hid A7;have HB:=hid hb;have C1:=hb.size
  have FS:(nmL (l.take j)).length=j:=by unfold nmL;rw [vct,vbg];omega
  unfold z6o at Aa;rw [FS] at Aa;have DL:=hid Aa;obtain ⟨va,vc,rfl, -, -⟩:=zag Aa;clear A7 Aa
  by_cases A0:j<l.length
  . obtain ⟨b,off,x1,y1,x3,y3,x4,y4,x5,y5,rfl,Bd,c0,c1,c2,c3,c4,c5,c6,ho, -, -⟩:=(HO.out.later hb).get j A0
    have HC:=hid (Ty.out l[j] x1 y1 x3 y3 x4 y4 x5 y5 wr ho);have O5:=hid (z2g l A0);clear ho hb;go_wp2_with fail;refine HC.out.mono ?_;rintro e w2 ⟨rfl,Ab⟩;have Ad:=hid (thenB HB.out Ab);have UL:=(Ab.cell (p:=⟨b,off+j*7,none⟩) Bd).trans c0;have GC:=hid (ownsRow_later DL.out Ab);have Ay:=Ab.size
    have Fh:b<w2.heap.size:=ae
    clear Ab HC c0 c1 c2 c3 c4 c5 c6
    by_cases hz:oChk l[j]=0
    . have LB:Hid (∀ k (h:k<l.length),k<j+1->oChk l[k]=0):=fun k h hk=>by
       exact jn
      rw [hz];clear hz;generalize l[j].name=nm at *
      go_wp2_with (at_builtin;refine ze9 rfl (.tmp 29) (.tmp 35) 22 rfl w.heap.size 9 _ 1 16 Tryz.underlying22 Tryz.infoStr rfl aq w2 (.slice va j vc) j ((nmL (l.take j)).map .string) rfl GC.out #[.string nm] _ rfl rfl rfl (str_one nm) ae aq ae _ rfl ?_;intro g cp w3 ho3;have Hj:=hid ho3;have BB:=ho3.size;clear ho3)
      go_wp2_with fail;go_roundw
      case rel=>exact ⟨j+1,ae,aR,LB.out,by unfold z6o;rw [O5.out,vaj,vbw,FS];exact Hj.out.own,Ad.out.trans Hj.out.below⟩
      case measure=>simp [intOf];omega
    . exact gH
  . obtain rfl : j=l.length:=by omega
    rw [vau] at *
    have hE:∀ o ∈ l,oChk o=0:=fun o ho=>by
     obtain ⟨i,hi,rfl⟩:=vba ho;exact HA.out i hi hi
    have HE:=hid hE;have Aq:=hid (An.out.trans (if_neg (by rw [zhp l (fun i h=>HA.out i h h)];exact fun e=>e rfl)));have KR:=hid (Fx.zr4 va vc (nmL l) wr (z78 (by unfold z6o;rw [FS];exact DL.out)) (by rw [FS];omega));rw [zy3,z77,FS] at KR;have Aw:=hid hb;clear hE An HA DL hb;go_wp2_with fail;refine KR.out.mono ?_;rintro e w2 ⟨rfl,Ab⟩;have Ad:=hid (thenB Aw.out Ab);clear Ab KR Aw
    by_cases hn:(nmO l).Nodup
    rotate_left
    . have HV:Hid (r=6):=Aq.out.trans (if_pos hn)
      rw [decide_eq_false hn];go_wp2_with fail;go_ret;exact ⟨bw,Ad.out⟩
    have AU:=hid (Aq.out.trans (if_neg (fun h=>h hn)));have HN:=hid hn;rw [decide_eq_true hn];clear hn Aq;go_wp2_with fail
    go_loopw [6,7] (fun i _ wr=>∃ j:Nat,j<=l.length/\i=qi j/\(∀ k,k<j->ze3 l k=true)/\qb w2 wr) (fun i _ _=>l.length - (intOf i).toNat)
    case atStart=>exact ⟨0,vaf _,rfl,fun k h=>absurd h (vbe _),Below.refl _ _⟩
    case round =>
     obtain ⟨j,hj,rfl,A7,hb⟩:=hrel;have HA:=hid A7;have HB:=hid hb;clear A7
     by_cases A0:j<l.length
     . obtain ⟨b,off,x1,y1,x3,y3,x4,y4,x5,y5,rfl,Bd, -,c1, -, -, -, -, -,ho, -, -⟩:=(HO.out.later (thenB Ad.out hb)).get j A0
       have CM:=hid ho.uses;have FO:=ho.uses.bound
       have F4:Hid (ze3 l j=l[j].uses.all (ze2 l j)):=by show ze3 l j=_;unfold ze3;rw [vad A0]
       have RK:(j:Int)<=cap:=ae
       have Ic:(j:Int)<l.length:=ae
       have El:=hid (HO.out.later (thenB Ad.out hb));clear ho hb;generalize l[j]=x at *;go_wp2_with fail
       go_loopw [7] (fun k AV=>∃ q d:Nat,q<=x.uses.length/\k=qi q/\(∀ p (h:p<x.uses.length),p<q->ze2 l j x.uses[p]=true)/\AV=wr.drewN d) (fun k _=>x.uses.length - (intOf k).toNat)
       case atStart=>exact ⟨0,0,vaf _,rfl,fun p _ h=>absurd h (vbe _),rfl⟩
       case round=>
        obtain ⟨AV,rfl⟩:∃ x,x=wr:=⟨_,rfl⟩
        obtain ⟨q,d,hq,rfl,hallq,hd⟩:=hrel;have HQ:=hid hallq
        have EB:qb wr AV:=by rw [hd];exact bdJ _ _
        have HD:=hid hd;have OP:=hid EB;have c1':=(EB.cell (p:=⟨b,off+j*7+1,none⟩) Bd).trans c1;have Ay:=EB.size
        have Fh:b<AV.heap.size:=ae
        clear hallq hd
        by_cases CI:q<x.uses.length
        . obtain ⟨ub,uo,rfl,JS,huc, -⟩:=(CM.out.later EB).str q CI
          have T7:=hid ((zqp HN.out hj x.uses[q]).1);have HC:=hid (fun s=>zjt l ev (some (qa b off)) j cap x.uses[q] (AV.drewN s) (El.out.later (thenB OP.out (bdJ _ _))) hj);have JG:Hid (ze2 l j x.uses[q]=decide (0<=nmJ l j x.uses[q])):=T7.out
          have GR:Hid (∀ p (h:p<x.uses.length),p<q+1->p≠q->ze2 l j x.uses[p]=true):=fun p h h1 h2=>HQ.out p h ae
          have TW:(q:Int)<x.uses.length:=ae
          clear EB
          by_cases hv:nmJ l j x.uses[q]<0
          . have HV:Hid (r=9):=AU.out.trans (if_pos (za5 (i:=j) A0 (by rw [F4.out,vcs];exact ⟨x.uses[q],vah _,by rw [JG.out];simp;omega⟩)))
            generalize nmJ l j x.uses[q]=z at *;generalize x.uses[q]=u at *;go_wp2_with fail
            go_quiet ((go_at_call 108;exact Calls.quiet_of (HC.out _)))
            go_wp2_with fail;go_ret;exact ⟨bw,thenB (thenB Ad.out HB.out) (thenB OP.out (bdJ _ _))⟩
          . have HT:Hid (∀ p (h:p<x.uses.length),p<q+1->ze2 l j x.uses[p]=true):=fun p h h1=>by
             by_cases he:p=q
             . subst he;rw [JG.out];exact decide_eq_true ae
             . exact GR.out p h h1 he
            generalize nmJ l j x.uses[q]=z at *;generalize x.uses[q]=u at *;go_wp2_with fail
            go_quiet ((go_at_call 108;exact Calls.quiet_of (HC.out _)))
            go_wp2_with fail;go_roundw
            case rel=>exact ⟨q+1,_,ae,aR,HT.out,by rw [HD.out,vey]⟩
            case measure=>simp [intOf];omega
        . obtain rfl:q=x.uses.length:=by omega
          have HT:Hid (ze3 l j=true):=by
           show ze3 l j=true;rw [F4.out,vas];intro u hu;obtain ⟨p,hp,rfl⟩:=vba hu;exact HQ.out p hp hp
          clear EB;go_wp2_with fail;go_roundw
          case rel=>exact ⟨j+1,ae,aR,zbq HA.out HT.out,thenB HB.out OP.out⟩
          case measure=>simp [intOf];omega
     . obtain rfl:j=l.length:=by omega
       have G4:Hid (zhi l=true):=zan.2 HA.out;have Bp:=hid (AU.out.trans (if_neg (by rw [G4.out];decide)));have Af:=hid (thenB Ad.out hb);clear AU HA hb;go_wp2_with fail
       obtain ⟨w5,rfl⟩:∃ x,x=wr:=⟨_,rfl⟩
       go_loopw [8,9,10] (fun i _ _ wr=>∃ j:Nat,j<=l.length/\i=qi j/\(∀ k,k<j->zed l k=true)/\qb w wr) (fun i _ _ _=>l.length - (intOf i).toNat)
       case atStart=>exact ⟨0,vaf _,rfl,fun k h=>absurd h (vbe _),Af.out⟩
       case round=>
        obtain ⟨j,hj,rfl,A7,hb⟩:=hrel;have HA:=hid A7;have HB:=hid hb;clear A7
        by_cases A0:j<l.length
        . obtain ⟨b,off,x1,y1,x3,y3,x4,y4,x5,y5,rfl,Bd, -, -, -,c3,c4, -, -,ho, -, -⟩:=(HO.out.later hb).get j A0
          have F4:Hid (zed l j=zfv l[j].fixes.length (zc8 l l[j])):=by show zed l j=_;unfold zed;rw [vad A0]
          have CM:=hid ho;have Nv:=ho.fixes.bound;have EK:=hid (fun (q:Nat) (hq:q<l[j].fixes.length)=>zgh (HE.out l[j] (vah A0)) hq);have F2:=hid (fun (m:Int) (h0:0<=m) (h1:m<=l[j].uses.length)=>(zko (zkp HN.out G4.out) A0 h0 h1).2);have Mk:=hid (fun (m:Int) (h0:0<=m) (h1:m<=l[j].uses.length) (W:World) (hW:OsAt W (some (qa b off)) l ev)=>zju l ev (some (qa b off)) cap W hW AJ HN.out G4.out j A0 m h0 h1);have El:=hid (HO.out.later hb)
          have Ic:(j:Int)<l.length:=ae
          clear hb ho;generalize l[j]=x at *;go_wp2_with fail
          go_loopw [9,10] (fun k _ AV=>∃ q:Nat,q<=x.fixes.length/\k=qi q/\(∀ p,p<q->zc8 l x p=true)/\qb wr AV) (fun k _ _=>x.fixes.length - (intOf k).toNat)
          case atStart=>exact ⟨0,vaf _,rfl,fun k h=>absurd h (vbe _),Below.refl _ _⟩
          case round=>
           obtain ⟨AV,rfl⟩:∃ x,x=wr:=⟨_,rfl⟩
           obtain ⟨q,hq,rfl,hallq,Ab⟩:=hrel;have HQ:=hid hallq;have Ad:=hid Ab;have Bv:=hid (thenB HB.out Ab);have c3':=(Ab.cell (p:=⟨b,off+j*7+3,none⟩) Bd).trans c3;have SG:=(Ab.cell (p:=⟨b,off+j*7+4,none⟩) Bd).trans c4;have Ay:=Ab.size
           have Fh:b<AV.heap.size:=ae
           clear hallq
           by_cases CI:q<x.fixes.length
           . obtain ⟨fb,fo,rfl,hfx⟩:=((CM.out.later Ab).fixes).gf q CI
             obtain ⟨Hf,fr2,fr3,fr4,fr5,fr6,fr7⟩:=EK.out q CI;have Bm:=F2.out x.fixes[q].m fr6 fr7
             have GR:Hid (zc8 l x q=zho l x x.fixes[q]):=by show zc8 l x q=_;unfold zc8;rw [vad CI]
             obtain ⟨EU,g0,g1,g2, -, -, -⟩:=hfx;have BV:=hid (fun W hW=>Mk.out x.fixes[q].m fr6 fr7 W hW);generalize x.fixes[q]=f at *
             obtain ⟨p,hp⟩:∃ p:Nat,f.at_=p:=⟨f.at_.toNat,ae⟩
             have CV:p<x.code.length:=ae
             obtain ⟨cb,co,rfl,Ey⟩:=((CM.out.later Ab).code).gi p CV;obtain ⟨Im, -,i1, -, -, -, -⟩:=Ey
             have G5:Hid (aAt x f.at_=x.code[p].a):=by show aAt x f.at_=_;rw [hp];exact zuv CV
             have MS:(p:Int)<x.code.length:=ae
             have Ew:=CM.out.code.bound;rw [hp] at g0;generalize x.code[p].a=A at *;obtain ⟨b',BN,_,_,_,_,_,_,xk,yk,Ct,hlb3, -, -, -, -, -,d5, -,C6, -, -⟩:=(El.out.later Ab).get (modO l x f.m) Bm
             injection Ct with Ct
             injection Ct with e1 e2 _
             subst e1 e2;have Dw:=C6.entries.bound;have JA:Hid (entsO l (modO l x f.m)=l[modO l x f.m].entries):=zfw Bm
             obtain ⟨X,hX⟩:∃ X,X=AV.alloc (.cells #[qi p,qi f.kind,qi f.m] 67):=⟨_,rfl⟩
             have BA:qb AV X:=dq
             have HX:=hid hX
             have BO:X.heap[AV.heap.size]? = some (.cells #[qi p,qi f.kind,qi f.m] 67):=ct
             have JO:X.heap.size=AV.heap.size+1:=by rw [hX];simp
             obtain ⟨q0,q1,q2⟩:=zk0 BO;have LD:=(BA.cell (p:=⟨b,off+j*7+3,none⟩) Fh).trans c3';have TM:=(BA.cell (p:=⟨cb,co+p*3+1,none⟩) Im).trans i1;have UI:=(BA.cell (p:=⟨b,off+modO l x f.m*7+5,none⟩) Fh).trans d5;have CT:=hid (Ab.trans (BA.mono Ab.size));have Qq:=hid (fun s=>BV.out (X.drewN s) (El.out.later (thenB CT.out (bdJ X s))))
             have Av:b<X.heap.size:=ae
             have RW:cb<X.heap.size:=ae
             have MX:((modO l x f.m:Nat):Int)<l.length:=ae
             clear Ab BA hX BO c3' i1 d5 c3 c4 C6;generalize K4:l[modO l x f.m].entries.length=nk at *
             have JD:Hid (zho l x f = !(decide (f.kind=2)&&decide ((nk:Int)<=A))):=by show zho l x f=_;unfold zho;rw [G5.out,JA.out,K4]
             clear EK F2 Mk BV JA G5 CM El K4 hp Hf fr2 fr3 fr4 fr5 fr6 fr7 Bm;generalize modO l x f.m=mo at *;go_upto_region 28 with fail;rw [← HX.out]
             by_cases k2:f.kind=2
             . have JK:(f.kind == 2)=true:=by simp [k2]
               by_cases hA:(nk:Int)<=A
               . have HV:Hid (r=5):=Bp.out.trans (if_pos (za5 (i:=j) A0 (F4.out.trans (za5 (i:=q) CI (GR.out.trans (JD.out.trans (by simp [k2,hA])))))))
                 have Sn:decide ((nk:Int)<=A)=true:=decide_eq_true hA;clear k2
                 go_quiet ((go_at_call 105;exact Calls.quiet_of (Qq.out _)))
                 go_wp2_with fail;go_ret;exact ⟨bw,thenB HB.out (thenB CT.out (bdJ _ _))⟩
               . have HV:Hid (zc8 l x q=true):=GR.out.trans (JD.out.trans (by simp [hA]))
                 have Sn:decide ((nk:Int)<=A)=false:=decide_eq_false hA;clear k2
                 go_quiet ((go_at_call 105;exact Calls.quiet_of (Qq.out _)))
                 exact gR
             . have HV:Hid (zc8 l x q=true):=GR.out.trans (JD.out.trans (by simp [k2]))
               have JK:(f.kind == 2)=false:=by simp [k2]
               clear k2
               go_quiet (fail)
               exact gR
           . obtain rfl:q=x.fixes.length:=by omega
             have HT:Hid (zed l j=true):=F4.out.trans (zan.2 HQ.out);clear Ab;exact gv
        . obtain rfl:j=l.length:=by omega
          have HV:Hid (r=0):=Bp.out.trans (if_neg (by rw [show zjs l=true from zan.2 HA.out];decide));have G3:=hid hb;clear hb;go_wp2_with fail;go_ret;exact ⟨bw,G3.out⟩
def z54 (l:List Ob) (j:Nat):List Int:=(List.range j).map fun k=>(l.length:Int)+1+cdL (l.take k)
def z55 (l:List Ob) (j:Nat):List Int:=(List.range j).map fun k=>dtL (l.take k)
theorem zy4 (l:List Ob) (j:Nat):intV (z54 l (j+1))=intV (z54 l j)++[qi ((l.length:Int)+1+cdL (l.take j))]:=by
 unfold z54 intV;rw [vdc];simp
theorem zy5 (l:List Ob) (j:Nat):intV (z55 l (j+1))=intV (z55 l j)++[qi (dtL (l.take j))]:=by
 unfold z55 intV;rw [vdc];simp
theorem zy6 {w:World} {B g n cap:Nat} (f:Nat->Int) (h:w.ownsRow B 3 1 (.slice (some (qa g 0)) n cap) n (intV ((List.range n).map f))):g<w.heap.size/\∀ k,k<n->w.cell? (qa g k)=some (qi (f k)):=by
 refine ⟨(h.lt g rfl).2,fun k hk=>?_⟩;have:=h.cells (g:=g) rfl k (qi (f k)) (by simp [intV,hk]);rwa [zk2,vaz] at this
theorem int_one (x:Int):∀ u ∈ (#[Value.int .i64 x]:Array Value).toList,u.oneCell'=true:=fun u hu=>by
 have:u=qi x:=by simpa using hu
 subst this
 rfl
theorem zu1 {w:World} {B:Nat} {e:TypeId} {sz:Nat} {v:Value} {n:Nat} {xs:List Value} {k:Nat} (h:w.ownsRow B e sz v n xs) (hk:v.ownBlock=some k):∃ x,w.heap[k]? = some x:=⟨_,vbr (h.lt k hk).2⟩
theorem Onto.keep {w w':World} {B:Nat} {e:TypeId} {size:Nat} {v:Value} {n g cap:Nat} {xs:List Value} (h:Onto w w' B e size v n g cap xs) {B':Nat} {e':TypeId} {sz:Nat} {u:Value} {m:Nat} {ys:List Value} (hr:w.ownsRow B' e' sz u m ys) (hn:∀ k,u.ownBlock=some k->v.ownBlock≠some k):w'.ownsRow B' e' sz u m ys:=
 zaf hr fun k hk=>by
  obtain ⟨x,hx⟩:=zu1 hr hk;rw [h.old k x hx (hn k hk),hx]
theorem zq1 {w:World} {B:Nat} {e:TypeId} {sz:Nat} {d c:Value} {n g m cp:Nat} {xs:List Value} (hr:w.ownsRow B e sz d n xs) (hn:∀ k,d.ownBlock=some k->c.ownBlock≠some k) (ha:c.ownBlock=some g\/w.heap.size<g):∀ k,d.ownBlock=some k->(Value.slice (some (qa g 0)) m cp).ownBlock≠some k:=fun k hk e'=>by
 have h1:g=k:=vab e';have h2:=(hr.lt k hk).2
 rcases ha with h | h
 . exact hn k hk (by rw [h,h1])
 . omega
structure Lk (w:World) (B:Nat) (l:List Ob) (c d:Value) (M:Nat) (v:Value) (cs:List Gi):Prop where
 cr:w.ownsRow B 3 1 c l.length (intV (z54 l l.length))
 dr:w.ownsRow B 3 1 d l.length (intV (z55 l l.length))
 mr:w.heap[M]? = some (.cells #[v,qi (dtL l)] 81 (0,0))
 vr:w.ownsRow B 69 3 v cs.length (zeb cs)
 nc:c.ownBlock≠some M
 nd:d.ownBlock≠some M
 nv:v.ownBlock≠some M
 vc:∀ k,c.ownBlock=some k->v.ownBlock≠some k
 vd:∀ k,d.ownBlock=some k->v.ownBlock≠some k
theorem Lk.later {w w':World} {B:Nat} {l:List Ob} {c d:Value} {M:Nat} {v:Value} {cs:List Gi} (h:Lk w B l c d M v cs) (hb:qb w w'):Lk w' B l c d M v cs:=
 ⟨ownsRow_later h.cr hb,ownsRow_later h.dr hb,(hb.block _ (lt_of_heap h.mr)).trans h.mr,ownsRow_later h.vr hb,h.nc,h.nd,h.nv,h.vc,h.vd⟩
theorem Lk.step {w w':World} {B:Nat} {l:List Ob} {c d:Value} {M:Nat} {v v':Value} {cs cs':List Gi} (h:Lk w B l c d M v cs) (Ge:∀ (b:Nat) (x:Obj),w.heap[b]? = some x->v.ownBlock≠some b->w'.heap[b]? = some x) (Aa:w'.ownsRow B 69 3 v' cs'.length (zeb cs')) (AH:v'.ownBlock=v.ownBlock\/∃ k,v'.ownBlock=some k/\w.heap.size<=k):Lk (w'.setCell (qa M 0) v') B l c d M v' cs':=by
 have hM:=lt_of_heap h.mr
 have Ai:v'.ownBlock≠some M:=fun e=>by
  rcases AH with e' | ⟨k,e',hk⟩
  . exact h.nv (e'.symm.trans e)
  . rw [e'] at e;have:=vab e;omega
 have hk:∀ {e:TypeId} {u:Value} {n:Nat} {ys:List Value},w.ownsRow B e 1 u n ys->u.ownBlock≠some M->(∀ k,u.ownBlock=some k->v.ownBlock≠some k)->(w'.setCell (qa M 0) v').ownsRow B e 1 u n ys/\∀ k,u.ownBlock=some k->v'.ownBlock≠some k:=fun hr h1 h2=>by
  refine ⟨zaf hr fun k hk=>?_,fun k hk e=>?_⟩
  . obtain ⟨x,hx⟩:=zu1 hr hk
    rw [heap_set_ne (p:=(qa M 0)) (by show k≠M;intro e;exact h1 eB),Ge k x hx (h2 k hk),hx]
  . rcases AH with e' | ⟨j,e',hj⟩
    . exact h2 k hk (e'.symm.trans e)
    . have:=(hr.lt k hk).2
      rw [e'] at e;have:=vab e;omega
 obtain ⟨c1,c2⟩:=hk h.cr h.nc h.vc;obtain ⟨d1,d2⟩:=hk h.dr h.nd h.vd;exact ⟨c1,d1,heap_set (Ge M _ h.mr h.nv) _,zaf Aa (fun k hk=>heap_set_ne (p:=(qa M 0)) (by show k≠M;intro e;exact Ai eB) _),h.nc,h.nd,Ai,c2,d2⟩
theorem Lk.start {w:World} {B:Nat} {l:List Ob} {c d:Value} (hB:B<=w.heap.size) (hc:w.ownsRow B 3 1 c l.length (intV (z54 l l.length))) (hd:w.ownsRow B 3 1 d l.length (intV (z55 l l.length))) :
 Lk (w.alloc (.cells #[qs,qi (dtL l)] 81)) B l c d w.heap.size (qs) []:=
 ⟨ownsRow_later hc (al1 _ _),ownsRow_later hd (al1 _ _),heap_newP _ _,ves _ _ _ _,fun e=>by have:=(hc.lt _ e).2;omega,fun e=>by have:=(hd.lt _ e).2;omega,fun e=>(by cases e),fun k _ e=>(by cases e),fun k _ e=>(by cases e)⟩
theorem zwm {w:World} {base g:Nat} (h:w.heap[g]? = some (.cells #[] 69)) (hb:base<=g):w.ownsRow base 69 3 (.slice (some (qa g 0)) 0 0) 0 []:=
 ⟨rfl,Or.inr ⟨g,0,#[],rfl,hb,h,vaa _,vaf _,rfl,rfl⟩⟩
theorem Lk.putC {w w':World} {B:Nat} {l:List Ob} {c d:Value} {M:Nat} {v:Value} {cs:List Gi} (h:Lk w B l c d M v cs) {n:Nat} (hn:cs.length=n) {i:Gi} {g cap:Nat} (ho:Onto w w' B 69 3 v n g cap (zeb cs++giV i)) :
 w'.cell? (qa M 0)=some v/\w'.frozen? (qa M 0)=false/\M<w'.heap.size/\Lk (w'.setCell (qa M 0) (.slice (some (qa g 0)) (n+1) cap)) B l c d M (.slice (some (qa g 0)) (n+1) cap) (cs++[i]):=by
 subst hn;have hb:=ho.old M _ h.mr h.nv;refine ⟨fg,veq hb 0,lt_of_heap hb,?_⟩;refine h.step ho.old ?_ (ho.at_.imp (fun e=>e.symm) (fun e=>⟨g,rfl,ae⟩));rw [zi4,vaj];exact ho.own
theorem z2h {o:Ob} (h:oChk o=0) {j:Nat} (hj:j<o.fixes.length) (k1:o.fixes[j].kind=1):o.fixes[j].m=0:=by
 obtain ⟨_,_,_,hf⟩:=zja h;have:=zan.1 hf j hj;unfold zgz at this;rw [vad hj] at this;simp only [vac] at this;obtain ⟨_,_,hb⟩:=this;unfold zx5 at hb;rw [if_pos k1] at hb;unfold okF at hb;simp only [vac,decide_eq_true_eq] at hb;omega
theorem zy7 (l:List Ob) (o:Ob) (f:Gf) (j:Nat) (A:Int) (hA:aAt o f.at_=A) (h1:f.kind=1->modO l o f.m=j) :
 (f.kind=1->z1x l o f=(l.length:Int)+1+cdL (l.take j)+A)/\(f.kind=2->z1x l o f=(l.length:Int)+1+cdL (l.take (modO l o f.m))+(entsO l (modO l o f.m)).getD A.toNat 0)/\(f.kind=3->z1x l o f=dtL (l.take (modO l o f.m))+A):=by
 unfold z1x fixV;rw [hA];refine ⟨fun k=>?_,fun k=>?_,fun k=>?_⟩
 . rw [if_neg ae,if_neg ae,h1 k]
 . rw [if_pos k]
 . rw [if_neg ae,if_pos k]
theorem zwn (Gy:COk) (l:List Ob) (ev:Nat->Value) (a:OA) (cap:Nat) (w:World) (hO:OsAt w a l ev) (AJ:l.length<=cap) :
 qc 41 #[.slice a l.length cap] w fun e w'=>zoy w.heap.size (zsr l) e w'/\qb w w':=by
 have Bz:=hO.bound;have HO:=hid hO;have HC:=hid (zga Gy l ev a cap (w.alloc (.cells #[qs,qi 0] 81)) (hO.later (al1 _ _)) AJ);clear hO Gy
 obtain ⟨r,hr⟩:∃ r,r=zsr l:=⟨_,rfl⟩
 rw [← hr];unfold zsr at hr;have HR:=hid hr;clear hr;go_enter Tryz.func41,Tryz.ntmps41;go_wp2_with fail;refine HC.out.mono ?_;rintro e w1 ⟨rfl,A6⟩;have A8:=hid (thenB (al1 w _) A6);have P0:=hid ((A6.block w.heap.size aA).trans (heap_newP w (.cells #[qs,qi 0] 81)));have Ao:=A6.size;simp at Ao;obtain ⟨r0,r1,rf⟩:=zbz P0.out;have Dk:=lt_of_heap P0.out;clear A6 HC
 by_cases he:lnChk l=0
 rotate_left
 . have HV:Hid (r = .error (lnChk l)):=HR.out.trans (if_pos he)
   generalize lnChk l=z at *;have GI:=hid he;go_wp2_with fail;refine bodyPost_ret (v:=.tuple #[.agg #[qs,qi 0],qi z]) cR rfl ⟨by rw [HV.out];exact ⟨rfl,GI.out⟩,?_⟩;exact i7
 obtain ⟨k1,k2,k3,k4,k5,k6⟩:=zux he;have An:=hid (HR.out.trans (if_neg (fun h=>h he)));have HE:=hid k3;have HN:=hid (zsq k2 k3);have Ju:=hid k4
 have Jx:Hid (MainsB l):=⟨fun o ho=>by have:=zyn (k3 o ho);have:=zsp (k3 o ho);omega,k4⟩
 have G4:=hid k5;have F3:=hid k6;rw [he];clear HR k3 k4 k5 k6 he r0 r1 rf;go_wp2_with fail
 go_loopw [5,6,7,8,9] (fun c d p q i wr=>∃ j:Nat,j<=l.length/\i=qi j/\p=qi ((l.length:Int)+1+cdL (l.take j))/\q=qi (dtL (l.take j))/\wr.ownsRow w1.heap.size 3 1 c j (intV (z54 l j))/\wr.ownsRow w1.heap.size 3 1 d j (intV (z55 l j))/\(∀ k,d.ownBlock=some k->c.ownBlock≠some k)/\qb w1 wr) (fun _ _ _ _ i _=>l.length - (intOf i).toNat)
 case atStart=>exact ⟨0,vaf _,rfl,by simp [cdL],by simp [dtL],ves _ _ _ _,ves _ _ _ _,fun k hk=>(by cases hk),Below.refl _ _⟩
 case round =>
  obtain ⟨j,hj,rfl,rfl,rfl,hc,hd,hn,hb⟩:=hrel;obtain ⟨ca,cx,rfl, -, -⟩:=zag hc;obtain ⟨da,dx,rfl, -, -⟩:=zag hd;have JC:=hid hc;have Lt:=hid hd;have Oo:=hid hn;have HB:=hid hb;have C1:=hb.size;have Bu:=zfd HN.out j hj;clear hn hc hd
  by_cases A0:j<l.length
  . obtain ⟨b,off,x1,y1,x3,y3,x4,y4,x5,y5,rfl,Bd, -, -,c2,c3, -, -, -, -, -, -⟩:=HO.out.get j A0
    have HX:=hid (fun W (hW:qb w W)=>(⟨vai Bd hW.size,(hW.cell (p:=⟨b,off+j*7+2,none⟩) Bd).trans c2,(hW.cell (p:=⟨b,off+j*7+3,none⟩) Bd).trans c3⟩:b<W.heap.size/\W.cell? ⟨b,off+j*7+2,none⟩=some (qi l[j].data)/\W.cell? ⟨b,off+j*7+3,none⟩=some (.slice x3 l[j].code.length y3)));obtain ⟨Gt,Gs,Il,Ik⟩:=HN.out.2 l[j] (vah A0);have Tv:=hid (zkk A0);have Lr:=hid (zkl A0);have Tw:=hid (zy4 l j);have Mr:=hid (zy5 l j);clear c2 c3 hb;generalize l[j].code.length=nc at *;generalize l[j].data=nd at *;generalize cdL (l.take j)=cd at *;generalize dtL (l.take j)=dd at *
    go_wp2_with (at_builtin;first
     | (refine ze9 rfl (.tmp 33) (.tmp 35) 49 rfl w1.heap.size 3 _ 1 8 Tryz.underlying49 Tryz.infoInt rfl aq wr (.slice ca j cx) j (intV (z54 l j)) rfl JC.out #[qi ((l.length:Int)+1+cd)] _ rfl rfl rfl (int_one _) ae aq ae _ rfl ?_;intro g cp w2 ho;have Bl:=hid ho.own;have J0:=hid (ho.keep Lt.out Oo.out);have Ad:=hid (HB.out.trans ho.below);have Hp:Hid (∀ k,(Value.slice da j dx).ownBlock=some k->(Value.slice (some (qa g 0)) (j+1) cp).ownBlock≠some k):=zq1 Lt.out Oo.out ho.at_;have Ay:=ho.size;clear ho)
     | (refine ze9 rfl (.tmp 37) (.tmp 39) 49 rfl w1.heap.size 3 _ 1 8 Tryz.underlying49 Tryz.infoInt rfl aq w2 (.slice da j dx) j (intV (z55 l j)) rfl J0.out #[.int .i64 dd] _ rfl rfl rfl (int_one _) ae aq ae _ rfl ?_;intro g5 c5 w3 ho;have Lu:=hid ho;have BM:=hid (ho.keep Bl.out (fun k hk e=>Hp.out k e hk));have Af:=hid (Ad.out.trans ho.below);have L3:Hid (∀ k,(Value.slice (some ⟨g5,0,none⟩) (j+1) c5).ownBlock=some k->(Value.slice (some ⟨g,0,none⟩) (j+1) cp).ownBlock≠some k):=fun k hk e=>zq1 Bl.out (fun k h e=>Hp.out k e h) ho.at_ k e hk;have BB:=ho.size;obtain ⟨Av,c2,c3⟩:=HX.out w3 (thenB A8.out Af.out);clear ho))
    go_wp2_with fail;go_roundw
    case rel=>exact ⟨j+1,ae,aR,by rw [Tv.out];congr 1;omega,by rw [Lr.out],by rw [Tw.out];exact BM.out,by rw [Mr.out];exact Lu.out.own,L3.out,Af.out⟩
    case measure=>simp [intOf];omega
  . obtain rfl : j=l.length:=by omega
    rw [vau] at *;have FU:=zh6 l l.length (vaa _);rw [vau] at FU;have G3:=hid (thenB A8.out hb);have P1:=hid ((hb.block _ Dk).trans P0.out);obtain ⟨r0,r1,rf⟩:=zbz P1.out;have Dk:=lt_of_heap P1.out
    obtain ⟨w4,rfl⟩:∃ x,x=wr:=⟨_,rfl⟩
    clear hb;generalize Dj:(codeL l l.length).length=nn at *;have Em:=hid Dj;clear Dj
    by_cases g1:2048<nn
    . have HV:Hid (r = .error 2):=An.out.trans (if_pos (Or.inl g1))
      have M3:(2048:Int)<(l.length:Int)+1+cdL l:=ae
      generalize cdL l=cd at *;generalize dtL l=dd at *;go_wp2_with fail;refine bodyPost_ret (v:=.tuple #[.agg #[qs,qi 0],qi 2]) cR rfl ⟨dg,?_⟩;exact fW
    by_cases g2:512<dtL l
    . have HV:Hid (r = .error 2):=An.out.trans (if_pos (Or.inr g2))
      have M3:¬ ((2048:Int)<(l.length:Int)+1+cdL l):=ae
      generalize cdL l=cd at *;generalize dtL l=dd at *;go_wp2_with fail;refine bodyPost_ret (v:=.tuple #[.agg #[qs,qi 0],qi 2]) cR rfl ⟨dg,?_⟩;exact fW
    have HV:Hid (r = .ok (codeL l l.length,dtL l)):=An.out.trans (if_neg ae)
    have M3:¬ ((2048:Int)<(l.length:Int)+1+cdL l):=ae
    obtain ⟨gc,cx1,ec, -, -⟩:=zev JC.out (by omega:0<l.length);obtain ⟨gd,dx1,ed, -, -⟩:=zev Lt.out (by omega:0<l.length)
    injection ec with e1 e2 e3
    subst e1 e3
    injection ed with e1 e2 e3
    subst e1 e3
    obtain ⟨M,hM⟩:∃ M,M=w4.heap.size:=⟨_,rfl⟩
    obtain ⟨X,hX⟩:∃ X,X=w4.alloc (.cells #[qs,qi (dtL l)] 81):=⟨_,rfl⟩
    have Qf:=hid hX
    have Mn:Hid (Lk X w1.heap.size l (.slice (some (qa gc 0)) l.length cx) (.slice (some (qa gd 0)) l.length dx) M (qs) []):=by rw [hX,hM];exact Lk.start C1 JC.out Lt.out
    have Ap:Hid (qb w1 X):=by rw [hX];exact HB.out.trans ((al1 w4 _).mono C1)
    have LX:w1.heap.size<=M:=ae
    have BV:=hid hM;clear hX hM r0 r1 rf FU Em JC Lt Oo;go_upto_region 16 with fail;rw [← Qf.out,← BV.out];clear Qf BV;go_wp2_with fail
    go_loopw [11] (fun i wr=>∃ (j:Nat) (v:Value),j<=l.length/\i=qi j/\Lk wr w1.heap.size l (.slice (some (qa gc 0)) l.length cx) (.slice (some (qa gd 0)) l.length dx) M v (zeu l j)/\qb w1 wr) (fun i _=>l.length - (intOf i).toNat)
    case atStart=>exact ⟨0,_,vaf _,rfl,Mn.out,Ap.out⟩
    case round =>
     obtain ⟨j,v,hj,rfl,hk,hb⟩:=hrel;have hv:=hk.vr;rw [zfj] at hv;obtain ⟨va,vc,rfl, -, -⟩:=zag hv;obtain ⟨m0, -, -⟩:=zbz hk.mr;have Gj:=lt_of_heap hk.mr;have At:=hid hb;have JN:=hb.size
     by_cases A0:j<l.length
     . obtain ⟨b,off,x1,y1,x3,y3,x4,y4,x5,y5,rfl,Bd, -, -, -, -, -, -,c6, -, -, -⟩:=(HO.out.later (thenB A8.out hb)).get j A0
       have HK:=hid (hk.later (zkn wr));have Mb:=hid (ownsRow_later hv (zkn wr));obtain ⟨H9,hgc⟩:=zy6 _ hk.cr;have SE:=hgc j A0;have Bu:=zfd HN.out j hj;obtain ⟨GY,E7⟩:=Jx.out.main l[j] (vah A0);have Jw:=hid (z4y A0);have K7:=HN.out.1;clear hk hb hv hgc;generalize l[j].main=mn at *;generalize cdL (l.take j)=cd at *;generalize dtL (l.take j)=dt at *;have Cw:IntKind.i64.wrap ((l.length:Int)+1+cd+mn)=(l.length:Int)+1+cd+mn:=z1w ae ae;go_upto_region 19 with fail
       go_region_law (first | (refine zf8 rfl (.tmp 72) (.tmp 84) 59 rfl w1.heap.size 69 _ 3 24 Tryz.underlying59 Tryz.infoInstr rfl aq wr.drew (.slice va j vc) j (zeb (zeu l j)) rfl Mb.out #[qi 13,qi ((l.length:Int)+1+cd+mn),qi 0] _ aA rfl rfl (zmi ⟨13,_,0⟩) ae aq JN _ rfl ?_;intro g5 c5 w5 ho;obtain ⟨d0,d1,d2,hk5⟩:=HK.out.putC (zfj l j) (i:=⟨13,_,0⟩) ho;have Ax:=hid hk5;have Co:=hid ((At.out.drew.trans ho.below).setCell (p:=(qa M 0)) LX (.slice (some (qa g5 0)) (j+1) c5));clear ho hk5))
       all_goals
        go_wp2_with fail;go_roundw
        case rel=>exact ⟨j+1,_,ae,aR,by rw [zk1,Jw.out];exact Ax.out,Co.out⟩
        case measure=>simp [intOf];omega
     . obtain rfl:j=l.length:=by omega
       have HK:=hid hk;have Mb:=hid hv;have K7:=HN.out.1
       obtain ⟨w6,rfl⟩:∃ x,x=wr:=⟨_,rfl⟩
       clear hk hb hv
       go_wp2_with (at_builtin;refine ze9 rfl (.tmp 88) (.tmp 90) 59 rfl w1.heap.size 69 _ 3 24 Tryz.underlying59 Tryz.infoInstr rfl aq w6 (.slice va l.length vc) l.length (zeb (zeu l l.length)) rfl Mb.out #[qi 20,qi 0,qi 0] _ rfl rfl rfl (zmi ⟨20,0,0⟩) ae aq JN _ rfl ?_;intro g6 c6 w7 ho;obtain ⟨d0,d1,d2,hk7⟩:=HK.out.putC (zfj l _) (i:=⟨20,0,0⟩) ho;have CS:=hid hk7;have BF:=hid ((At.out.trans ho.below).setCell (p:=(qa M 0)) LX (.slice (some (qa g6 0)) (l.length+1) c6));clear ho hk7)
       go_upto_region 21 with fail;generalize w7.setCell (qa M 0) (.slice (some (qa g6 0)) (l.length+1) c6)=w8 at *
       have Tz:Hid (codeL l 0=zeu l l.length++[⟨20,0,0⟩]):=by show codeL l 0=_;simp [codeL]
       clear d0 d1 d2 m0 Gj Mb HK At JN;go_wp2_with fail
       go_loopw [12,13,14,15,16,17] (fun i _ _ _ _ _ wr=>∃ (j:Nat) (v:Value),j<=l.length/\i=qi j/\Lk wr w1.heap.size l (.slice (some (qa gc 0)) l.length cx) (.slice (some (qa gd 0)) l.length dx) M v (codeL l j)/\qb w1 wr) (fun i _ _ _ _ _ _=>l.length - (intOf i).toNat)
       case atStart=>exact ⟨0,_,vaf _,rfl,by rw [Tz.out];exact CS.out,BF.out⟩
       case round=>
        obtain ⟨j,v,hj,rfl,hk,hb⟩:=hrel;have hv:=hk.vr;obtain ⟨va,vc,rfl, -, -⟩:=zag hv;have HK:=hid hk;have Bb:=hid hb;have JN:=hb.size
        by_cases A0:j<l.length
        . obtain ⟨b,off,x1,y1,x3,y3,x4,y4,x5,y5,rfl,Bd, -, -, -,c3,c4, -, -,ho, -, -⟩:=(HO.out.later (thenB A8.out hb)).get j A0
          obtain ⟨Gt,Gs,Il,Ik⟩:=HN.out.2 l[j] (vah A0);have FZ:=HE.out l[j] (vah A0);have Nv:=ho.fixes.bound;have FU:=zh6 l j hj;have Ue:=zfd HN.out j hj;have CM:=hid ho;have Lp:=hid (zkp Ju.out G4.out);have EK:=hid (fun (q:Nat) (hq:q<l[j].fixes.length)=>zgh FZ hq);have Od:=hid (fun (q:Nat) (hq:q<l[j].fixes.length)=>zk4 FZ hq);have ST:=hid (fun (q:Nat) (hq:q<l[j].fixes.length)=>z2h FZ hq);have Mp:=hid (fun (q p:Nat) (h1:q<=l[j].fixes.length) (h2:lastAt l[j] q<p)=>zox l FZ q p h1 h2);have F2:=hid (fun (m:Int) (h0:0<=m) (h1:m<=l[j].uses.length)=>(zko Lp.out A0 h0 h1).2);have J1:=hid (fun (q:Nat) (hq:q<l[j].fixes.length)=>zuw F3.out A0 hq);have Mk:=hid (fun (m:Int) (h0:0<=m) (h1:m<=l[j].uses.length) (W:World) (hW:OsAt W (some (qa b off)) l ev)=>zju l ev (some (qa b off)) cap W hW AJ Ju.out G4.out j A0 m h0 h1)
          have SU:=hid (zqq Ju.out A0);have El:=hid (HO.out.later (thenB A8.out hb));have G1:=hid (zjb l A0);have K7:=HN.out.1;have LW:=al1 wr (.cells #[] 69);generalize l[j]=x at *
          obtain ⟨v1,w9,Es,Ag,Jk,hat1⟩:=zfk (wr.alloc (.cells #[] 69)) wr.heap.size 59 (.slice (some (qa wr.heap.size 0)) 0 0) [] (zwm (heap_newP _ _) (vaa _)) x3 y3 x.code (fun hn=>by
           obtain ⟨cb,co,rfl,_⟩:=(CM.out.later LW).code.gi 0 ae;refine ⟨cb,co,rfl,fun i hi=>?_⟩;obtain ⟨SF,co',e,hl,i0,i1,i2,_⟩:=(CM.out.later LW).code.gi i hi
           cases e
           exact ⟨i0,i1,i2⟩) aF aA
          rw [veg,vcr,vaz] at Ag;obtain ⟨g,cc,rfl,hgB,H9⟩:=zev Ag ae;have BL:qb wr w9:=LW.grown Jk aA (fun k hk=>by have h:wr.heap.size=k:=vab hk;omega);have AY:=hid Es;have Bi:=hid Ag;have B7:=hid BL;have EQ:=BL.size;clear Es Ag Jk hat1 BL LW hb hk hv ho
          go_wp2_with (at_builtin;refine Lib.wpList_append_run _ rfl _ _ _ _ rfl _ _ rfl rfl _ w9 AY.out ?_)
          go_loopw [14,15,16,17] (fun k _ _ _ AV=>∃ q:Nat,q<=x.fixes.length/\k=qi q/\AV.ownsRow wr.heap.size 69 3 (.slice (some (qa g 0)) x.code.length cc) x.code.length (zeb (fxL l x q))/\qb wr AV) (fun k _ _ _ _=>x.fixes.length - (intOf k).toNat)
          case atStart=>exact ⟨0,vaf _,rfl,Bi.out,B7.out⟩
          case round=>
           obtain ⟨AV,rfl⟩:∃ x,x=wr:=⟨_,rfl⟩
           obtain ⟨q,hq,rfl,Aa,Ab⟩:=hrel;have DL:=hid Aa;have Ad:=hid Ab;have Ay:=Ab.size;have SG:=(Ab.cell (p:=⟨b,off+j*7+4,none⟩) Bd).trans c4
           have Fh:b<AV.heap.size:=ae
           have Nl:=(Aa.lt g rfl).2;have Nm:=(Aa.lt g rfl).1
           by_cases CI:q<x.fixes.length
           . obtain ⟨fb,fo,rfl,hfx⟩:=((CM.out.later Ab).fixes).gf q CI
             obtain ⟨Hf,fr2,fr3,fr4,fr5,fr6,fr7⟩:=EK.out q CI;have Bm:=F2.out x.fixes[q].m fr6 fr7;obtain ⟨EU,g0,g1,g2, -, -, -⟩:=hfx;have BV:=hid (fun W hW=>Mk.out x.fixes[q].m fr6 fr7 W hW);have O6:=hid (zow l x CI);have JD:=hid (J1.out q CI);have Gb:=Od.out q CI;have SS:=hid (fun k1=>ST.out q CI k1);generalize x.fixes[q]=f at *
             obtain ⟨p,hp⟩:∃ p:Nat,f.at_=p:=⟨f.at_.toNat,ae⟩
             have CV:p<x.code.length:=ae
             have JX:p<(fxL l x q).length:=by rw [zch];exact CV
             have CD:=Mp.out q p ae ae
             have M0:aAt x f.at_=(fxL l x q)[p].a:=by
              have:(fxL l x q)[p]=x.code[p]:=by
               rw [vad JX,vad CV] at CD;exact vab CD
              show aAt x f.at_=_;rw [this,hp];exact zuv CV
             have Ak:=hid (zy7 l x f j _ M0 (fun k1=>by rw [SS.out k1];exact SU.out))
             have BE:Hid (f.kind=2->(fxL l x q)[p].a<(entsO l (modO l x f.m)).length):=fun k2=>by
              have h1:zho l x f=true:=JD.out;unfold zho at h1;rw [M0] at h1;simp [k2] at h1;exact h1
             have MS:(p:Int)<x.code.length:=ae
             rw [M0] at fr4 fr5;rw [hp] at g0
             obtain ⟨X,hX⟩:∃ X,X=AV.alloc (.cells #[qi p,qi f.kind,qi f.m] 67):=⟨_,rfl⟩
             have BA:qb AV X:=dq
             have HX:=hid hX
             have JO:X.heap.size=AV.heap.size+1:=by rw [hX];simp
             have BO:X.heap[AV.heap.size]? = some (.cells #[qi p,qi f.kind,qi f.m] 67):=ct
             have CT:=hid (Ab.trans (BA.mono Ab.size));have EI:=hid (BV.out X (El.out.later CT.out));have HF:=hid (fun Y (hY:qb X Y)=>zk0 ((hY.block _ (lt_of_heap BO)).trans BO));have Qu:=hid (fun Y (hY:qb X Y)=>HK.out.later (thenB CT.out hY));have EZ:=hid (fun Y (hY:qb X Y)=>zym (ownsRow_later (ownsRow_later Aa BA) hY) p JX (zch l x q))
             have OG:Hid (∀ y ∈ entsO l (modO l x f.m),0<=y/\y<=2048):=by
              rw [zfw Bm];exact zng (HE.out _ (vah Bm))
             have PY:entsO l (modO l x f.m)=l[modO l x f.m].entries:=zfw Bm
             have Mj:=hid (fun Y (hY:qb X Y)=>(by
              obtain ⟨b',BN,_,_,_,_,_,_,xk,yk,Ct, -, -, -, -, -, -,d5, -,C6, -, -⟩:=(El.out.later (thenB CT.out hY)).get (modO l x f.m) Bm
              injection Ct with Ct
              injection Ct with e1 e2 _
              subst e1 e2;have Jm:=C6.entries;rw [← PY] at d5 Jm
              exact ⟨xk,yk,d5,Jm⟩:∃ xk yk,Y.cell? ⟨b,off+modO l x f.m*7+5,none⟩=some (.slice xk (entsO l (modO l x f.m)).length yk)/\DAt Y Tt xk (entsO l (modO l x f.m)).length (zgf (entsO l (modO l x f.m)))))
             have Bu:=zfd HN.out (modO l x f.m) ae;obtain ⟨q0,q1,q2⟩:=zk0 BO;have RS:=lt_of_heap BO
             have MX:((modO l x f.m:Nat):Int)<l.length:=ae
             clear BA hX CD Gb Mp J1 Ab Aa Hf fr2 fr6 fr7 BV JD M0;clear PY;generalize (fxL l x q)[p].a=A at *;generalize entsO l (modO l x f.m)=es at *;generalize modO l x f.m=mo at *;go_upto_region 29 with fail;rw [← HX.out];clear HX
             have U5:b<X.heap.size:=ae
             go_wp2_with fail;refine EI.out.mono ?_;rintro e Y ⟨rfl,hY⟩
             have Hd:qb X Y:=by obtain ⟨kk,rfl⟩:=hY;exact bdJ _ _
             obtain ⟨f0,f1,f2⟩:=HF.out Y Hd;obtain ⟨r0,r1,r2,r3⟩:=EZ.out Y Hd;have Aq:=hid r3;have SX:=hid (fun s=>(EZ.out (Y.drewN s) (thenB Hd (bdJ Y s))).2.2.2);have EY:=Qu.out Y Hd;obtain ⟨RP,hcc⟩:=zy6 _ EY.cr;obtain ⟨RO,Gq⟩:=zy6 _ EY.dr;have OQ:=hid (CT.out.trans (Hd.mono ae));have TQ:=Hd.size;have SJ:=hid Hd
             have U4:b<Y.heap.size:=ae
             clear hY Hd EY r3 q0 q1 q2 EI HF EZ Qu;obtain ⟨K1,K2,K3⟩:=Ak.out
             by_cases k1:f.kind=1
             . have HV:=hid (K1 k1)
               have SE:=hcc j A0
               have Pe:(f.kind == 1)=true:=by simp [k1]
               clear K1 K2 K3 Ak hcc Gq Mj BE k1;generalize cdL (l.take j)=cd at *;generalize cdL (l.take mo)=cm at *;generalize dtL (l.take mo)=dm at *;generalize dtL (l.take j)=dj at *;have Cw:IntKind.i64.wrap ((l.length:Int)+1+cd+A)=(l.length:Int)+1+cd+A:=z1w ae ae;exact gB
             by_cases k2:f.kind=2
             . have So:=BE.out k2
               obtain ⟨i,rfl⟩:∃ i:Nat,A=i:=⟨A.toNat,ae⟩
               have hi:i<es.length:=ae
               obtain ⟨xk,yk,d5,Jm⟩:=Mj.out Y SJ.out;have Dw:=Jm.bound;obtain ⟨eb,eo,rfl,EW,PN⟩:=Jm.entI i hi;obtain ⟨UH,ex1⟩:=OG.out es[i] (vah hi);have HV:Hid (z1x l x f=(l.length:Int)+1+cdL (l.take mo)+es[i]):=(K2 k2).trans (by rw [vbq,vax,vad hi];rfl);have UK:=hcc mo Bm
               have Pe:(f.kind == 1)=false:=by simp [k1]
               have JK:(f.kind == 2)=true:=by simp [k2]
               have Uc:(i:Int)<es.length:=ae
               clear K1 K2 K3 Ak hcc Gq Mj BE OG k1 k2 Jm;generalize es[i]=ei at *;generalize es.length=nk at *;generalize cdL (l.take j)=cd at *;generalize cdL (l.take mo)=cm at *;generalize dtL (l.take mo)=dm at *;generalize dtL (l.take j)=dj at *;have Cw:IntKind.i64.wrap ((l.length:Int)+1+cm+ei)=(l.length:Int)+1+cm+ei:=z1w ae ae;go_wp2_with fail
               go_quiet (fail)
               go_wp2_with fail;go_roundw
               case rel=>exact ⟨q+1,ae,aR,by rw [O6.out,HV.out,hp];exact SX.out _ _,(thenB OQ.out (bdJ Y _)).setCell (p:=⟨g,p*3+1,none⟩) (by show wr.heap.size<=g;omega) _⟩
               case measure=>simp [intOf];omega
             . have HV:=hid (K3 ae)
               have UJ:=Gq mo Bm
               have Pe:(f.kind == 1)=false:=by simp [k1]
               have JK:(f.kind == 2)=false:=by simp [k2]
               clear K1 K2 K3 Ak hcc Gq Mj BE OG k1 k2;generalize cdL (l.take j)=cd at *;generalize cdL (l.take mo)=cm at *;generalize dtL (l.take mo)=dm at *;generalize dtL (l.take j)=dj at *;have Cw:IntKind.i64.wrap (dm+A)=dm+A:=z1w ae ae;exact gB
           . obtain rfl:q=x.fixes.length:=by omega
             have EY:=HK.out.later Ab;obtain ⟨m0, -, -⟩:=zbz EY.mr;have Gj:=lt_of_heap EY.mr;obtain ⟨v5,w5,hr5,ho5,hg5,hat5⟩:=zfk AV w1.heap.size 59 (.slice va (codeL l j).length vc) (codeL l j) EY.vr (some (qa g 0)) cc (fxL l x x.fixes.length) (zgj (by rw [zch];exact Aa)) (by rw [zch];omega) ae;rw [zch] at hr5;have Cs:=EY.step (v':=v5) (cs':=codeL l j++fxL l x x.fixes.length) (fun b x hb hn=>(hg5.block b (lt_of_heap hb) (veo hn)).trans hb) (by rw [vaj];exact ho5) (hat5.imp id (fun e=>⟨_,e,vaa _⟩));obtain ⟨Fq,cc5,rfl, -, -⟩:=zag ho5;have NH:=(hg5.block M Gj (veo EY.nv)).trans EY.mr;obtain ⟨n0, -,nf⟩:=zbz NH;have FS:=lt_of_heap NH;have TK:=nf 0;generalize Iu:(codeL l j).length+(fxL l x x.fixes.length).length=n5 at *;have SW:=hid Cs;have At:=hid (((Bb.out.trans (Ab.mono JN)).grown hg5 ae (fun k hk=>(EY.vr.lt k hk).1)).setCell (p:=(qa M 0)) LX (.slice Fq n5 cc5))
             have Bp:=hid hr5;clear hr5 ho5 hg5 hat5 NH Cs EY Ab Aa Iu nf FU;generalize (codeL l j).length=nc at *
             go_wp2_with (at_builtin;refine Lib.wpList_append_run _ rfl _ _ _ _ rfl _ _ rfl rfl _ w5 Bp.out ?_;clear m0 Gj)
             go_wp2_with fail;go_roundw
             case rel=>exact ⟨j+1,_,ae,aR,by rw [G1.out];exact SW.out,At.out⟩
             case measure=>simp [intOf];omega
        . obtain rfl:j=l.length:=by omega
          have hP:=(hb.block _ (lt_of_heap P0.out)).trans P0.out;obtain ⟨r0,r1,rf⟩:=zbz hP;have GV:=lt_of_heap hP;obtain ⟨m0,m1, -⟩:=zbz hk.mr;have Gj:=lt_of_heap hk.mr;have Fg:=lt_of_heap P0.out;have O7:=hid (zgi hv (by omega:w.heap.size<=w1.heap.size));have KP:=hid (fun k (hk:(Value.slice va (codeL l l.length).length vc).ownBlock=some k)=>(fun e=>by have:=(hv.lt k hk).1;omega:k≠w.heap.size));have G3:=hid (thenB A8.out hb);clear hk hb hv hP;generalize Dj:(codeL l l.length).length=nn at *;have On:=hid Dj;clear Dj;generalize dtL l=dd at *;go_wp2_with fail;refine bodyPost_ret (v:=.tuple #[.agg #[.slice va nn vc,qi dd],qi 0]) (by simp [results,Tryz.results41,go_sem,r0,r1,GV]) rfl ⟨?_,?_⟩
          . rw [HV.out]
            refine ⟨_,rfl,?_⟩;rw [On.out];exact iu
          . exact fW
end Go.Proofs.YtndkhgakfodldaaGreatDoor
