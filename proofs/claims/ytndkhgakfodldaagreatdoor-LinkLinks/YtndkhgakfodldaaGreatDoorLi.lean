import Derived.Test.YtndkhgakfodldaaGreatDoorId
import Derived.Test.YtndkhgakfodldaaGreatDoorMxStp
import Derived.Test.YtndkhgakfodldaaGreatDoorLn
namespace Go.Proofs.YtndkhgakfodldaaGreatDoor
set_option maxRecDepth 100000
open Go.RowKit Go.Maps Go.Sort Go.WideMaps
set_option linter.unusedSimpArgs false
set_option linter.unusedVariables false
theorem z5v {w:World} {a:OA} {l:List Ob} (h:zmc w a l):∃ ev,OsAt w a l ev:=by
 have hq:∀ i:Nat,∃ v:Value,∀ hi:i<l.length,∃ b off x1 y1 x3 y3 x4 y4 x5 y5,a=some (qa b off)/\b<w.heap.size/\w.cell? ⟨b,off+i*7,none⟩=some (.string l[i].name)/\w.cell? ⟨b,off+i*7+1,none⟩=some (.slice x1 l[i].uses.length y1)/\w.cell? ⟨b,off+i*7+2,none⟩=some (qi l[i].data)/\w.cell? ⟨b,off+i*7+3,none⟩=some (.slice x3 l[i].code.length y3)/\w.cell? ⟨b,off+i*7+4,none⟩=some (.slice x4 l[i].fixes.length y4)/\w.cell? ⟨b,off+i*7+5,none⟩=some (.slice x5 l[i].entries.length y5)/\w.cell? ⟨b,off+i*7+6,none⟩=some (qi l[i].main)/\OvAt w l[i] x1 x3 x4 x5/\l[i].uses.length<=y1/\v = .slice x5 l[i].entries.length y5:=fun i=>by
  by_cases hi:i<l.length
  . obtain ⟨b,off,x1,y1,x3,y3,x4,y4,x5,y5,ha,hO,hc⟩:=h.ob i hi
    exact ⟨.slice x5 l[i].entries.length y5,fun _=>⟨b,off,x1,y1,x3,y3,x4,y4,x5,y5,ha,hO.lt,hO.c0,hO.c1,hO.c2,hO.c3,hO.c4,hO.c5,hO.c6,hO.ov,hc,rfl⟩⟩
  . exact ⟨.bool false,fun h=>absurd h hi⟩
 obtain ⟨ev,Ih⟩:=Classical.axiomOfChoice hq;exact ⟨ev,h.1.bound,fun i hi=>Ih i hi⟩
def insM (i:Gi):Mx.Mc.Ins:=⟨i.op,i.a,i.b⟩
def zee:List Gi:=match zsr [zrz,zp2] with | .ok (c,_)=>c | .error _=>[]
theorem z5w:zsr [zrz,zp2] = .ok (zee,5):=ah
theorem z5x:lnChk [zrz,zp2]=0:=ah
theorem z5y:zsr [zp2] = .error 9:=ah
theorem z9x:zee[0]? = some ⟨13,22,0⟩:=ah
theorem z9y:(zee[2]?).map Gi.op=some 20:=ah
theorem z5z:zee.length<=2048/\3<=zee.length:=⟨Nat.le_of_ble_eq_true ah,Nat.le_of_ble_eq_true ah⟩
theorem z50:Mx.ansR (zee.map insM) 5 [1] 9 999=⟨0,[6,7],[6,0,6,0,0],6,(Mx.ansR (zee.map insM) 5 [1] 9 999).steps,0⟩:=ah
theorem z52:zee.all (fun g=>(decide (-1000000000<=g.a)&&decide (g.a<=1099511627775))&&(decide (-1000000000<=g.b)&&decide (g.b<=1099511627775)))=true:=ah
set_option maxHeartbeats 12800000
theorem z1y {w w':World} {b:Nat} {x:Obj} (h:w.heap[b]? = some x) (hb:qb w w'):w'.heap[b]? = some x:=(hb.block b (lt_of_heap h)).trans h
theorem zy2 {w:World} {b:Nat} {l:List Int} (h:w.heap[b]? = some (.cells (l.map (Value.int .i64)).toArray 3)):zj7 w (some (qa b 0)) l:=Or.inr ⟨b,0,rfl,lt_of_heap h,fun i hi=>by
 rw [vep h,vaz]
 simp [hi]⟩
theorem z73 {w:World} {B:Nat} {a:OA} {cap:Nat} {c:List Gi} (h:w.ownsRow B 69 3 (.slice a c.length cap) c.length (zeb c)):Mx.ImgAt w a (c.map insM):=by
 by_cases hn:c.length=0
 . exact Or.inl (by rw [vam hn];rfl)
 . obtain ⟨g,cap',e,_,hg⟩:=zev h ae
   obtain ⟨b,off,ha,hc⟩:=zgj h hn
   injection e with e1 _ _
   rw [e1] at ha
   injection ha with ha
   injection ha with hb ho _
   refine Or.inr ⟨g,0,e1,hg,fun i hi=>?_⟩
   have Dl:i<c.length:=dI
   obtain ⟨q0,q1,q2⟩:=hc i Dl;subst hb ho;simp only [ved];exact ⟨q0,q1,q2⟩
theorem z74 {w:World} {o:Ob} {x1:OA} {y1:Nat} {x3:OA} {y3:Nat} {x4:OA} {y4:Nat} {x5:OA} {y5:Nat} (h:OvAt w o x1 x3 x4 x5) (hc:o.uses.length<=y1) :
 OsAt (w.alloc (obC o x1 y1 x3 y3 x4 y4 x5 y5)) (some (qa w.heap.size 0)) [o] (fun _=>.slice x5 o.entries.length y5):=by
 have hb:=heap_newP w (obC o x1 y1 x3 y3 x4 y4 x5 y5);obtain ⟨c0,c1,c2,c3,c4,c5,c6,_⟩:=zam hb;refine ⟨aA,fun i hi=>?_⟩
 obtain rfl:i=0:=dI
 exact ⟨w.heap.size,0,x1,y1,x3,y3,x4,y4,x5,y5,rfl,lt_of_heap hb,c0,c1,c2,c3,c4,c5,c6,h.later (al1 _ _),hc,rfl⟩
structure TwoOk (o1 o2:Ob) (code:List Gi) (steps:Int):Prop where
 lk:zsr [o1,o2] = .ok (code,5)
 ck:lnChk [o1,o2]=0
 top:zsr [o2] = .error 9
 c0:code[0]? = some ⟨13,22,0⟩
 c2:∃ x y,code[2]? = some ⟨20,x,y⟩
 few:code.length<=2048
 run:Mx.ansR (code.map insM) 5 [1] 9 999=⟨0,[6,7],[6,0,6,0,0],6,steps,0⟩
 fit:∀ i ∈ code.map insM,Mx.InsFit i
theorem zo3 (o1 o2:Ob) (code:List Gi) (steps:Int) (hT:TwoOk o1 o2 code steps)
 (hP:∀ w,qc 85 #[] w fun e w'=>∃ a,e = .returned (.slice (some a) 2 2)/\zmc w' (some a) [o1,o2]/\qb w w') (w:World) :
 qc 42 #[] w fun e w'=>e = .returned (.bool true)/\qb w w':=by
 have HT:=hid hT;have HP:=hid hP;clear hT hP;go_enter Tryz.func42,Tryz.ntmps42;go_wp2_with fail;refine (HP.out _).mono ?_;rintro e w1 ⟨pa,rfl,hobs,A6⟩;have A8:=hid A6;obtain ⟨Sv,hos1⟩:=z5v hobs;have HL:=hid (zoz [o1,o2] Sv (some pa) 2 w1 hos1:qc 40 #[.slice (some pa) 2 2] w1 _);clear hobs hos1 A6;go_wp2_with fail;refine HL.out.mono ?_;rintro e w2 ⟨Am,Ab⟩;rw [HT.out.lk] at Am;obtain ⟨v,rfl,Aa⟩:∃ v,e = .returned (.tuple #[.agg #[v,qi 5],qi 0])/\w2.ownsRow w1.heap.size 69 3 v code.length (zeb code):=Am;obtain ⟨ca,cc,rfl, -, -⟩:=zag Aa;have QA:=hid (z73 Aa);have Ad:=hid (thenB A8.out Ab)
 have Bt:0<code.length:=by have:=HT.out.c0;exact (vcg.1 this).1
 have Do:=hid (heap_newP w2 (.cells #[.slice ca code.length cc,qi 5] 81));have TC:=hid (thenB Ad.out (al1 w2 (.cells #[.slice ca code.length cc,qi 5] 81)))
 have Ah:(code.map insM).length=code.length:=aA
 clear Aa Ab HL;go_wp2_with fail;refine (HP.out _).mono ?_;rintro e w3 ⟨pb,rfl,hobs,A9⟩;have Af:=hid (thenB TC.out A9);have CX:=hid (z1y Do.out A9);have QF:=hid (QA.out.later (thenB (al1 w2 _) A9));obtain ⟨b,off,x1,y1,x3,y3,x4,y4,x5,y5,FQ,hO,Ed⟩:=hobs.ob 1 aA;have FQ:pb=(qa b off):=vab FQ;subst FQ;have Av:=hO.lt;obtain ⟨-,z0,z1,z2,z3,z4,z5,z6,LJ⟩:=hO;have Ed:o2.uses.length<=y1:=Ed;have LJ:OvAt w3 o2 x1 x3 x4 x5:=LJ
 replace z0:w3.cell? ⟨b,off+7,none⟩=some (.string o2.name):=by simpa using z0
 replace z1:w3.cell? ⟨b,off+7+1,none⟩=some (.slice x1 o2.uses.length y1):=by simpa using z1
 replace z2:w3.cell? ⟨b,off+7+2,none⟩=some (qi o2.data):=by simpa using z2
 replace z3:w3.cell? ⟨b,off+7+3,none⟩=some (.slice x3 o2.code.length y3):=by simpa using z3
 replace z4:w3.cell? ⟨b,off+7+4,none⟩=some (.slice x4 o2.fixes.length y4):=by simpa using z4
 replace z5:w3.cell? ⟨b,off+7+5,none⟩=some (.slice x5 o2.entries.length y5):=by simpa using z5
 replace z6:w3.cell? ⟨b,off+7+6,none⟩=some (qi o2.main):=by simpa using z6
 have HL:=hid (zoz [o2] _ (some (qa w3.heap.size 0)) 1 _ (z74 (y3:=y3) (y4:=y4) (y5:=y5) LJ Ed):qc 40 #[.slice (some (qa w3.heap.size 0)) 1 1] (w3.alloc (obC o2 x1 y1 x3 y3 x4 y4 x5 y5)) _);clear hobs A9 LJ Do QA;go_wp2_with fail;refine HL.out.mono ?_;rintro e w4 ⟨Am,Aj⟩;rw [HT.out.top] at Am;obtain ⟨rfl, -⟩:e = .returned (.tuple #[.agg #[qs,qi 0],qi 9])/\(9:Int)≠0:=Am;have As:=thenB (thenB (al1 w3 _) Aj) (al1 w4 (.cells #[qs,qi 0] 81));have At:=hid (thenB Af.out As);have CW:=hid (z1y CX.out As);have Mq:=hid (QF.out.later As)
 obtain ⟨W5,hW5⟩:∃ W5,W5=w4.alloc (.cells #[qs,qi 0] 81):=⟨_,rfl⟩
 rw [← hW5] at At CW Mq;have Jq:=hid hW5
 have CF:=hid (Mx.Run_any ca (some (qa W5.heap.size 0)) cc 1 (code.map insM) 5 [1] 9 999 (W5.alloc (.cells #[qi 1] 3)) (Mq.out.later (al1 _ _)) (by rw [Ah];have:=HT.out.few;omega) HT.out.fit
  (Or.inr ⟨W5.heap.size,0,rfl,aA,fun i hi=>by obtain rfl:i=0:=dI;rw [vep (heap_newP W5 (.cells #[qi 1] 3))];rfl⟩) aq aq aq)
 rw [Ah,HT.out.run] at CF;obtain ⟨q0,q1,qf⟩:=zbz CW.out;have TV:=lt_of_heap CW.out;clear Aj As HL z0 z1 z2 z3 z4 z5 z6 Av Ed CX QF hW5;go_upto_region 3 with fail;rw [← Jq.out];clear Jq;go_wp2_with fail;refine CF.out.mono ?_;rintro e w6 ⟨oa,oc,da,dc,rfl,E5,E4,AK, -, -, -⟩;have E5:zj7 w6 oa [6,7]:=E5.at;have E4:zj7 w6 da [6,0,6,0,0]:=E4.at;have AR:=thenB (thenB (al1 W5 _) AK) (al1 w6 (.cells #[qi 0,.slice oa 2 oc,.slice da 5 dc,qi 6] 51));have BF:=hid (thenB At.out AR);have Qh:=hid (z1y CW.out AR);have QE:=hid (Mq.out.later AR);have Qe:=hid (heap_newP w6 (.cells #[qi 0,.slice oa 2 oc,.slice da 5 dc,qi 6] 51));have Ou:=hid (And.intro (E5.later (al1 w6 (.cells #[qi 0,.slice oa 2 oc,.slice da 5 dc,qi 6] 51))) (E4.later (al1 w6 (.cells #[qi 0,.slice oa 2 oc,.slice da 5 dc,qi 6] 51))));clear E5 E4 AK AR CF q0 q1 qf CW Mq
 go_wp2_with fail;refine (HP.out _).mono ?_;rintro e w8 ⟨pc,rfl,hobs,AW⟩;obtain ⟨Su,hos8⟩:=z5v hobs;have Bb:=hid (thenB BF.out AW);have Qg:=hid (z1y Qh.out AW);have QD:=hid (QE.out.later AW);have Qd:=hid (z1y Qe.out AW);have Ot:=hid (And.intro (Ou.out.1.later AW) (Ou.out.2.later AW));have HC:=hid (zhq [o1,o2] Su (some pc) 2 w8 hos8:qc 43 #[.slice (some pc) 2 2] w8 _);rw [HT.out.ck] at HC;clear hobs hos8 AW Qh QE Qe Ou;go_wp2_with fail;refine HC.out.mono ?_;rintro e w9 ⟨rfl,BL⟩;have B7:=hid (thenB Bb.out BL);have O2:=hid (z1y Qg.out BL);have QC:=hid (QD.out.later BL);have IB:=hid (z1y Qd.out BL);have Jv:=hid (And.intro (Ot.out.1.later BL) (Ot.out.2.later BL));clear BL HC Qg QD Qd Ot;obtain ⟨q0,q1,qf⟩:=zbz O2.out;obtain ⟨p0,p1,p2,p3,pf⟩:=zyj IB.out;have Ri:=lt_of_heap O2.out
 have Rn:=lt_of_heap IB.out;obtain ⟨x,y,AG⟩:=HT.out.c2;have Ch:2<code.length:=(vcg.1 AG).1;have PO:code[0]=⟨13,22,0⟩:=(vcg.1 HT.out.c0).2;have Fl:code[2]=⟨20,x,y⟩:=(vcg.1 AG).2
 rcases QC.out with MU | ⟨cb,co,rfl,Ew,B5⟩
 . have:code.length=0:=by rw [← Ah,MU];rfl
   omega
 have PI:=B5 0 (by rw [Ah];omega);have Nj:=B5 2 (by rw [Ah];omega);simp only [ved,PO,Fl,insM] at PI Nj;obtain ⟨MG,MF,ME⟩:=PI;obtain ⟨MD, -, -⟩:=Nj
 replace MG:w9.cell? (qa cb co)=some (qi 13):=by simpa using MG
 replace MF:w9.cell? ⟨cb,co+1,none⟩=some (qi 22):=by simpa using MF
 replace ME:w9.cell? ⟨cb,co+2,none⟩=some (qi 0):=by simpa using ME
 replace MD:w9.cell? ⟨cb,co+6,none⟩=some (qi 20):=by simpa using MD
 have Rz:((0:Nat):Int)<(code.length:Int):=ae
 have Ry:((2:Nat):Int)<(code.length:Int):=ae
 have OO:=hid (thenB (al1 w9 (.cells #[qi 6,qi 7] 3)) (al1 _ (.cells #[qi 6,qi 0,qi 6,qi 0,qi 0] 3)));have DC:zj7 ((w9.alloc (.cells #[qi 6,qi 7] 3)).alloc (.cells #[qi 6,qi 0,qi 6,qi 0,qi 0] 3)) (some (qa w9.heap.size 0)) [6,7]:=(zy2 (l:=[6,7]) (heap_newP w9 (.cells #[qi 6,qi 7] 3))).later (al1 _ _)
 have Et:zj7 ((w9.alloc (.cells #[qi 6,qi 7] 3)).alloc (.cells #[qi 6,qi 0,qi 6,qi 0,qi 0] 3)) (some ⟨w9.heap.size+1,0,none⟩) [6,0,6,0,0]:=zy2 (l:=[6,0,6,0,0]) (by
  have:=heap_newP (w9.alloc (.cells #[qi 6,qi 7] 3)) (.cells #[qi 6,qi 0,qi 6,qi 0,qi 0] 3);rw [vcn] at this
  exact this)
 have SR:=hid (zj8 0 6 oa (some (qa w9.heap.size 0)) da (some ⟨w9.heap.size+1,0,none⟩) oc 2 dc 5 [6,7] [6,0,6,0,0] _ (Jv.out.1.later OO.out) DC (Jv.out.2.later OO.out) Et aq aq);clear DC Et B5 AG PO Fl O2 QC IB Jv;go_wp2_with fail;refine SR.out.mono ?_;rintro e Dz ⟨rfl,hb10⟩;have FM:=hid (thenB B7.out (thenB OO.out hb10));clear hb10 p0 p1 p2 p3 pf q0 q1 qf MG MF ME MD;go_wp2_with fail
 go_returns
 exact ⟨rfl,FM.out⟩
theorem z75:TwoOk zrz zp2 zee (Mx.ansR (zee.map insM) 5 [1] 9 999).steps where
 lk:=z5w
 ck:=z5x
 top:=z5y
 c0:=z9x
 c2 :=by
  have h:=z9y
  cases e:zee[2]? with
  | none=>rw [e] at h;cases h
  | some i=>
    rw [e] at h;obtain ⟨op,x,y⟩:=i;have:op=20:=vab h;exact ⟨x,y,by rw [this]⟩
 few:=z5z.1
 run:=z50
 fit:=fun i hi=>by
  obtain ⟨g,hg,rfl⟩:=vcy.1 hi;have:=vas.1 z52 g hg;simp only [vac,decide_eq_true_eq] at this;exact ⟨(⟨ae,ae⟩:Mx.fit64 g.a),(⟨ae,ae⟩:Mx.fit64 g.b)⟩
theorem zo4 (w:World):qc 42 #[] w fun e w'=>e = .returned (.bool true)/\qb w w':=
 zo3 zrz zp2 zee _ z75 zt9 w
set_option maxHeartbeats 6400000
structure CsAt (w:World) (a:OA) (l:List Gi):Prop where
 bound:l.length<=1000000
 get:∀ k (h:k<l.length),∃ b off,a=some (qa b off)/\b<w.heap.size/\w.cell? ⟨b,off+k*3,none⟩=some (qi l[k].op)/\w.cell? ⟨b,off+k*3+1,none⟩=some (qi l[k].a)/\w.cell? ⟨b,off+k*3+2,none⟩=some (qi l[k].b)
theorem CsAt.later {w w':World} {a:OA} {l:List Gi} (h:CsAt w a l) (hb:qb w w'):CsAt w' a l:=⟨h.bound,fun k hk=>by
 obtain ⟨b,off,ha,hl,c0,c1,c2⟩:=h.get k hk
 exact ⟨b,off,ha,vai hl hb.size,(hb.cell (p:=⟨b,off+k*3,none⟩) hl).trans c0,(hb.cell (p:=⟨b,off+k*3+1,none⟩) hl).trans c1,(hb.cell (p:=⟨b,off+k*3+2,none⟩) hl).trans c2⟩⟩
theorem CsAt.of_own {w:World} {B:Nat} {a:OA} {cap:Nat} {c:List Gi} (h:w.ownsRow B 69 3 (.slice a c.length cap) c.length (zeb c)) (hb:c.length<=1000000):CsAt w a c:=⟨hb,fun k hk=>by
 obtain ⟨g,cap',e,_,hg⟩:=zev h ae;obtain ⟨b,off,ha,hc⟩:=zgj h ae
 injection e with e1 _ _
 obtain ⟨c0,c1,c2⟩:=hc k hk;have e2:=ha.symm.trans e1
 injection e2 with e2
 injection e2 with e3 _ _
 exact ⟨b,off,ha,by rw [e3];exact hg,c0,c1,c2⟩⟩
theorem zwl (a b:OA) (c1 c2:Nat) (l:List Gi) (w:World) (ha:CsAt w a l) (hb:CsAt w b l) :
 qc 97 #[.slice a l.length c1,.slice b l.length c2] w fun e w'=>e = .returned (.bool true)/\∃ m,w'=w.drewN m:=by
 have Bz:=ha.bound;have HA:=hid ha;have HB:=hid hb;clear ha hb;go_enter Tryz.func97,Tryz.ntmps97;go_wp2_with fail
 go_loopw [5] (fun i wr=>∃ k m:Nat,k<=l.length/\i=qi k/\wr=w.drewN m) (fun i _=>l.length - (intOf i).toNat)
 case atStart=>exact ⟨0,0,vaf _,rfl,rfl⟩
 case round=>
  obtain ⟨k,m,hk,rfl,rfl⟩:=hrel
  by_cases A0:k<l.length
  . obtain ⟨b1,o1,rfl,CJ,p0,p1,p2⟩:=(HA.out.later (bdJ w m)).get k A0
    obtain ⟨b2,o2,rfl,Ch,q0,q1,q2⟩:=(HB.out.later (bdJ w m)).get k A0;exact gA
  . go_wp2_with fail
    go_ret;exact ⟨rfl,m,rfl⟩
theorem zlc (a b:OA) (c1 c2:Nat) (l:List Gi) (d:Int) (w:World) (ha:CsAt w a l) (hb:CsAt w b l) :
 qc 45 #[.agg #[.slice a l.length c1,qi d],.agg #[.slice b l.length c2,qi d]] w fun e w'=>e = .returned (.bool true)/\qb w w':=by
 obtain ⟨W,hW⟩:∃ W,W=(w.alloc (.cells #[.slice a l.length c1,qi d] 81)).alloc (.cells #[.slice b l.length c2,qi d] 81):=⟨_,rfl⟩
 have EC:qb w W:=by rw [hW];exact bl2 _ _ _
 have HC:=hid (zwl a b c1 c2 l W (ha.later EC) (hb.later EC));have HB:=hid EC;have HW:=hid hW;clear ha hb EC hW;go_enter Tryz.func45,Tryz.ntmps45;go_wp2_with fail;rw [← HW.out];refine HC.out.mono ?_;rintro e w' ⟨rfl,m,rfl⟩;have Ad:=hid (thenB HB.out (bdJ W m));go_wp2_with fail;go_ret;exact ⟨rfl,Ad.out⟩
def lkR (r:Except Int (List Gi × Int)):List Gi × Int × Int:=match r with | .error c=>([],0,c) | .ok (c,d)=>(c,d,0)
theorem z53 (l:List Ob):(lkR (zsr l)).1.length<=1000000:=by
 unfold zsr;split
 . simp [lkR]
 . split
   . simp [lkR]
   . simp only [lkR];omega
theorem z76 {lo:Nat} {r:Except Int (List Gi × Int)} {e:Ending} {w:World} (h:zoy lo r e w) (hl:(lkR r).1.length<=1000000):∃ a cap,e = .returned (.tuple #[.agg #[.slice a (lkR r).1.length cap,qi (lkR r).2.1],qi (lkR r).2.2])/\CsAt w a (lkR r).1:=by
 cases r with
 | error c=>exact ⟨none,0,h.1,⟨hl,fun k hk=>absurd hk (vbe _)⟩⟩
 | ok p=>
   obtain ⟨c,d⟩:=p;obtain ⟨v,he,ho⟩:=h;obtain ⟨a,cap,rfl, -, -⟩:=zag ho;exact ⟨a,cap,he,CsAt.of_own ho hl⟩
theorem zo5 (PW:∀ w,qc 42 #[] w fun e w'=>e = .returned (.bool true)/\qb w w') (Gy:COk) (l:List Ob) (a:OA) (cap:Nat) (w:World) (hO:zmc w a l) (AJ:l.length<=cap) :
 qc 12 #[.slice a l.length cap] w fun e w'=>e = .returned (.bool true)/\qb w w':=by
 have Bz:=hO.1.bound;obtain ⟨ev,hos⟩:=z5v hO
 obtain ⟨code,d,c,hz⟩:∃ code d c,lkR (zsr l)=(code,d,c):=⟨_,_,_,rfl⟩
 have Ah:=z53 l
 have Cp:∀ {W:World} {e:Ending} {w':World},zoy W.heap.size (zsr l) e w'->∃ a1 c1,e = .returned (.tuple #[.agg #[.slice a1 code.length c1,qi d],qi c])/\CsAt w' a1 code:=fun h=>by
  obtain ⟨a1,c1,e1,h1⟩:=z76 h Ah;rw [hz] at e1 h1;exact ⟨a1,c1,e1,h1⟩
 have HC:=hid ((zoz l ev a cap w hos).mono (fun e w' h=>(⟨Cp h.1,h.2⟩:(∃ a1 c1,e = .returned (.tuple #[.agg #[.slice a1 code.length c1,qi d],qi c])/\CsAt w' a1 code)/\qb w w')));have HL:=hid (fun W (hW:qb w W)=>(zwn Gy l ev a cap W (hos.later hW) AJ).mono (fun e w' h=>(⟨Cp h.1,h.2⟩:(∃ a1 c1,e = .returned (.tuple #[.agg #[.slice a1 code.length c1,qi d],qi c])/\CsAt w' a1 code)/\qb W w')));have HK:=hid (fun W (hW:qb w W)=>zhq l ev a cap W (hos.later hW));have HJ:=hid (fun W (hW:qb w W)=>zga Gy l ev a cap W (hos.later hW) AJ);have HS:=hid PW;clear Cp hz Ah hO hos PW Gy;generalize lnChk l=r at *;go_enter Tryz.func12,Tryz.ntmps12;go_wp2_with fail;refine HC.out.mono ?_;rintro e w1 ⟨⟨a1,c1,rfl,E3⟩,A6⟩;have Qk:=hid E3
 obtain ⟨W1,hW1⟩:∃ W,W=w1.alloc (.cells #[.slice a1 code.length c1,qi d] 81):=⟨_,rfl⟩
 have AP:qb w1 W1:=by rw [hW1];exact al1 _ _
 have AF:=hid (show W1.heap[w1.heap.size]? = some (.cells #[.slice a1 code.length c1,qi d] 81) by rw [hW1];exact heap_newP _ _);have Jr:=hid hW1;have A8:=hid (thenB A6 AP);have Ms:=hid AP;clear HC E3 A6 hW1 AP;go_upto_region 2 with fail;rw [← Jr.out];clear Jr;go_wp2_with fail;refine (HL.out _ A8.out).mono ?_;rintro e w2 ⟨⟨a2,c2,rfl,AA⟩,Ab⟩;have Ej:=hid AA
 obtain ⟨W2,hW2⟩:∃ W,W=w2.alloc (.cells #[.slice a2 code.length c2,qi d] 81):=⟨_,rfl⟩
 have AG:qb w2 W2:=by rw [hW2];exact al1 _ _
 have Do:=hid (show W2.heap[w2.heap.size]? = some (.cells #[.slice a2 code.length c2,qi d] 81) by rw [hW2];exact heap_newP _ _);have M8:=hid hW2;have Ad:=hid (thenB A8.out (thenB Ab AG));have J0:=hid (thenB Ab AG);have BE:=hid AG;clear HL AA Ab hW2 AG;go_upto_region 3 with fail;rw [← M8.out];clear M8;go_wp2_with fail;refine (HS.out _).mono ?_;rintro e w3 ⟨rfl,A9⟩;have Af:=hid A9;clear A9;go_wp2_with fail;refine (HK.out _ (thenB Ad.out Af.out)).mono ?_;rintro e w4 ⟨rfl,Aj⟩;have Ap:=hid (thenB Af.out Aj);clear Aj;go_wp2_with fail;refine (HJ.out _ (thenB Ad.out Ap.out)).mono ?_;rintro e w5 ⟨rfl,As⟩;have At:=hid (thenB Ap.out As);have IC:=hid (z1y (z1y AF.out J0.out) (thenB Ap.out As));have KN:=hid (z1y Do.out (thenB Ap.out As));obtain ⟨r0,r1, -⟩:=zbz IC.out;obtain ⟨s0,s1, -⟩:=zbz KN.out
 have CJ:=lt_of_heap IC.out;have Ch:=lt_of_heap KN.out;have HI:=hid (zlc a1 a2 c1 c2 code d w5 (Qk.out.later (thenB Ms.out (thenB J0.out At.out))) (Ej.out.later (thenB BE.out At.out)));have HZ:=hid (thenB Ad.out At.out);clear As Ap Af HK HJ HS AF Do IC KN Qk Ej Ms J0 BE A8;go_wp2_with fail;refine HI.out.mono ?_;rintro e w6 ⟨rfl,AK⟩;have Co:=hid (thenB HZ.out AK);clear AK;go_wp2_with fail;go_ret;exact ⟨rfl,Co.out⟩
end Go.Proofs.YtndkhgakfodldaaGreatDoor
