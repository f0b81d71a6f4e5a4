import Derived.Test.YtndkhgakfodldaaGreatDoorId
import Derived.Test.YtndkhgakfodldaaGreatDoorMxStp
import Derived.Test.YtndkhgakfodldaaGreatDoorLn
namespace Go.Proofs.YtndkhgakfodldaaGreatDoor
set_option maxRecDepth 100000
open Go.RowKit Go.Maps Go.Sort Go.WideMaps
set_option linter.unusedSimpArgs false
set_option linter.unusedVariables false
theorem z3b {w:World} {a:OA} {l:List Ob} (h:zkw w a l):∃ ev,OsAt w a l ev:=by
 have hq:∀ i:Nat,∃ v:Value,∀ hi:i<l.length,∃ b off x1 y1 x3 y3 x4 y4 x5 y5,a=some (qa b off)/\b<w.heap.size/\w.cell? ⟨b,off+i*7,none⟩=some (.string l[i].name)/\w.cell? ⟨b,off+i*7+1,none⟩=some (.slice x1 l[i].uses.length y1)/\w.cell? ⟨b,off+i*7+2,none⟩=some (qi l[i].data)/\w.cell? ⟨b,off+i*7+3,none⟩=some (.slice x3 l[i].code.length y3)/\w.cell? ⟨b,off+i*7+4,none⟩=some (.slice x4 l[i].fixes.length y4)/\w.cell? ⟨b,off+i*7+5,none⟩=some (.slice x5 l[i].entries.length y5)/\w.cell? ⟨b,off+i*7+6,none⟩=some (qi l[i].main)/\OvAt w l[i] x1 x3 x4 x5/\l[i].uses.length<=y1/\v = .slice x5 l[i].entries.length y5:=fun i=>by
  by_cases hi:i<l.length
  . obtain ⟨b,off,x1,y1,x3,y3,x4,y4,x5,y5,ha,hO,hc⟩:=h.ob i hi
    exact ⟨.slice x5 l[i].entries.length y5,fun _=>⟨b,off,x1,y1,x3,y3,x4,y4,x5,y5,ha,hO.lt,hO.c0,hO.c1,hO.c2,hO.c3,hO.c4,hO.c5,hO.c6,hO.ov,hc,rfl⟩⟩
  . exact ⟨.bool false,fun h=>absurd h hi⟩
 obtain ⟨ev,GL⟩:=Classical.axiomOfChoice hq;exact ⟨ev,h.1.bound,fun i hi=>GL i hi⟩
def insM (i:Gi):Mx.Mc.Ins:=⟨i.op,i.a,i.b⟩
def zdp:List Gi:=match zq3 [zqa,zoh] with | .ok (c,_)=>c | .error _=>[]
theorem z3c:zq3 [zqa,zoh] = .ok (zdp,5):=by kernel_rfl
theorem z3d:lnChk [zqa,zoh]=0:=by kernel_rfl
theorem z3e:zq3 [zoh] = .error 9:=by kernel_rfl
theorem z7l:zdp[0]? = some ⟨13,22,0⟩:=by kernel_rfl
theorem z7m:(zdp[2]?).map Gi.op=some 20:=by kernel_rfl
theorem z3f:zdp.length<=2048/\3<=zdp.length:=⟨Nat.le_of_ble_eq_true (by kernel_rfl),Nat.le_of_ble_eq_true (by kernel_rfl)⟩
theorem z3g:Mx.ansR (zdp.map insM) 5 [1] 9 999=⟨0,[6,7],[6,0,6,0,0],6,(Mx.ansR (zdp.map insM) 5 [1] 9 999).steps,0⟩:=by kernel_rfl
theorem z3h:zdp.all (fun g=>(decide (-1000000000<=g.a)&&decide (g.a<=1099511627775))&&(decide (-1000000000<=g.b)&&decide (g.b<=1099511627775)))=true:=by kernel_rfl
set_option maxHeartbeats 12800000
theorem zzn {w w':World} {b:Nat} {x:Obj} (h:w.heap[b]? = some x) (hb:qb w w'):w'.heap[b]? = some x:=(hb.block b (lt_of_heap h)).trans h
theorem zwr {w:World} {b:Nat} {l:List Int} (h:w.heap[b]? = some (.cells (l.map (Value.int .i64)).toArray 3)):ziu w (some (qa b 0)) l:=Or.inr ⟨b,0,rfl,lt_of_heap h,fun i hi=>by
 rw [vep h,vax]
 simp [hi]⟩
theorem z5n {w:World} {B:Nat} {a:OA} {cap:Nat} {c:List Gi} (h:w.ownsRow B 69 3 (.slice a c.length cap) c.length (zdl c)):Mx.ImgAt w a (c.map insM):=by
 by_cases hn:c.length=0
 . exact Or.inl (by rw [vam hn];rfl)
 . obtain ⟨g,cap',e,_,hg⟩:=zd1 h (by omega)
   obtain ⟨b,off,ha,hc⟩:=zfq h hn
   injection e with e1 _ _
   rw [e1] at ha
   injection ha with ha
   injection ha with hb ho _
   refine Or.inr ⟨g,0,e1,hg,fun i hi=>?_⟩
   have CZ:i<c.length:=by simpa using hi
   obtain ⟨q0,q1,q2⟩:=hc i CZ;subst hb ho;simp only [ved];exact ⟨q0,q1,q2⟩
theorem z5o {w:World} {o:Ob} {x1:OA} {y1:Nat} {x3:OA} {y3:Nat} {x4:OA} {y4:Nat} {x5:OA} {y5:Nat} (h:OvAt w o x1 x3 x4 x5) (hc:o.uses.length<=y1) :
 OsAt (w.alloc (obC o x1 y1 x3 y3 x4 y4 x5 y5)) (some (qa w.heap.size 0)) [o] (fun _=>.slice x5 o.entries.length y5):=by
 have hb:=heap_newP w (obC o x1 y1 x3 y3 x4 y4 x5 y5);obtain ⟨c0,c1,c2,c3,c4,c5,c6,_⟩:=zaj hb;refine ⟨by simp,fun i hi=>?_⟩
 obtain rfl:i=0:=by simpa using hi
 exact ⟨w.heap.size,0,x1,y1,x3,y3,x4,y4,x5,y5,rfl,lt_of_heap hb,c0,c1,c2,c3,c4,c5,c6,h.later (al1 _ _),hc,rfl⟩
structure TwoOk (o1 o2:Ob) (code:List Gi) (steps:Int):Prop where
 lk:zq3 [o1,o2] = .ok (code,5)
 ck:lnChk [o1,o2]=0
 top:zq3 [o2] = .error 9
 c0:code[0]? = some ⟨13,22,0⟩
 c2:∃ x y,code[2]? = some ⟨20,x,y⟩
 few:code.length<=2048
 run:Mx.ansR (code.map insM) 5 [1] 9 999=⟨0,[6,7],[6,0,6,0,0],6,steps,0⟩
 fit:∀ i ∈ code.map insM,Mx.InsFit i
theorem znj (o1 o2:Ob) (code:List Gi) (steps:Int) (hT:TwoOk o1 o2 code steps)
 (hP:∀ w,qc 85 #[] w fun e w'=>∃ a,e = .returned (.slice (some a) 2 2)/\zkw w' (some a) [o1,o2]/\qb w w') (w:World) :
 qc 42 #[] w fun e w'=>e = .returned (.bool true)/\qb w w':=by
 have HT:=hid hT;have HP:=hid hP;clear hT hP;go_enter Tryz.func42,Tryz.ntmps42;go_wp2_with fail;refine (HP.out _).mono ?_;rintro e w1 ⟨pa,rfl,hobs,A5⟩;have A8:=hid A5;obtain ⟨Rc,hos1⟩:=z3b hobs;have HL:=hid (zng [o1,o2] Rc (some pa) 2 w1 hos1:qc 40 #[.slice (some pa) 2 2] w1 _);clear hobs hos1 A5;go_wp2_with fail;refine HL.out.mono ?_;rintro e w2 ⟨Ak,Aa⟩;rw [HT.out.lk] at Ak;obtain ⟨v,rfl,Ab⟩:∃ v,e = .returned (.tuple #[.agg #[v,qi 5],qi 0])/\w2.ownsRow w1.heap.size 69 3 v code.length (zdl code):=Ak;obtain ⟨ca,cc,rfl, -, -⟩:=zag Ab;have Pj:=hid (z5n Ab);have Ad:=hid (thenB A8.out Aa)
 have Bn:0<code.length:=by have:=HT.out.c0;exact (vcf.1 this).1
 have D1:=hid (heap_newP w2 (.cells #[.slice ca code.length cc,qi 5] 81));have Sn:=hid (thenB Ad.out (al1 w2 (.cells #[.slice ca code.length cc,qi 5] 81)))
 have Ai:(code.map insM).length=code.length:=by simp
 clear Ab Aa HL;go_wp2_with fail;refine (HP.out _).mono ?_;rintro e w3 ⟨pb,rfl,hobs,A9⟩;have Af:=hid (thenB Sn.out A9);have CI:=hid (zzn D1.out A9);have Po:=hid (Pj.out.later (thenB (al1 w2 _) A9));obtain ⟨b,off,x1,y1,x3,y3,x4,y4,x5,y5,EX,hO,DE⟩:=hobs.ob 1 (by simp);have EX:pb=(qa b off):=vai EX;subst EX;have Au:=hO.lt;obtain ⟨-,z0,z1,z2,z3,z4,z5,z6,KE⟩:=hO;have DE:o2.uses.length<=y1:=DE;have KE:OvAt w3 o2 x1 x3 x4 x5:=KE
 replace z0:w3.cell? ⟨b,off+7,none⟩=some (.string o2.name):=by simpa using z0
 replace z1:w3.cell? ⟨b,off+7+1,none⟩=some (.slice x1 o2.uses.length y1):=by simpa using z1
 replace z2:w3.cell? ⟨b,off+7+2,none⟩=some (qi o2.data):=by simpa using z2
 replace z3:w3.cell? ⟨b,off+7+3,none⟩=some (.slice x3 o2.code.length y3):=by simpa using z3
 replace z4:w3.cell? ⟨b,off+7+4,none⟩=some (.slice x4 o2.fixes.length y4):=by simpa using z4
 replace z5:w3.cell? ⟨b,off+7+5,none⟩=some (.slice x5 o2.entries.length y5):=by simpa using z5
 replace z6:w3.cell? ⟨b,off+7+6,none⟩=some (qi o2.main):=by simpa using z6
 have HL:=hid (zng [o2] _ (some (qa w3.heap.size 0)) 1 _ (z5o (y3:=y3) (y4:=y4) (y5:=y5) KE DE):qc 40 #[.slice (some (qa w3.heap.size 0)) 1 1] (w3.alloc (obC o2 x1 y1 x3 y3 x4 y4 x5 y5)) _);clear hobs A9 KE D1 Pj;go_wp2_with fail;refine HL.out.mono ?_;rintro e w4 ⟨Ak,Ah⟩;rw [HT.out.top] at Ak;obtain ⟨rfl, -⟩:e = .returned (.tuple #[.agg #[qs,qi 0],qi 9])/\(9:Int)≠0:=Ak;have Aq:=thenB (thenB (al1 w3 _) Ah) (al1 w4 (.cells #[qs,qi 0] 81));have Ar:=hid (thenB Af.out Aq);have CH:=hid (zzn CI.out Aq);have Lm:=hid (Po.out.later Aq)
 obtain ⟨W5,hW5⟩:∃ W5,W5=w4.alloc (.cells #[qs,qi 0] 81):=⟨_,rfl⟩
 rw [← hW5] at Ar CH Lm;have Iq:=hid hW5
 have Cu:=hid (Mx.Run_any ca (some (qa W5.heap.size 0)) cc 1 (code.map insM) 5 [1] 9 999 (W5.alloc (.cells #[qi 1] 3)) (Lm.out.later (al1 _ _)) (by rw [Ai];have:=HT.out.few;omega) HT.out.fit
  (Or.inr ⟨W5.heap.size,0,rfl,by simp,fun i hi=>by obtain rfl:i=0:=(by simpa using hi);rw [vep (heap_newP W5 (.cells #[qi 1] 3))];rfl⟩) (by decide) (by decide) (by decide))
 rw [Ai,HT.out.run] at Cu;obtain ⟨q0,q1,qf⟩:=zbp CH.out;have SL:=lt_of_heap CH.out;clear Ah Aq HL z0 z1 z2 z3 z4 z5 z6 Au DE CI Po hW5;go_upto_region 3 with fail;rw [← Iq.out];clear Iq;go_wp2_with fail;refine Cu.out.mono ?_;rintro e w6 ⟨oa,oc,da,dc,rfl,Dw,Dv,AH, -, -, -⟩;have Dw:ziu w6 oa [6,7]:=Dw.at;have Dv:ziu w6 da [6,0,6,0,0]:=Dv.at;have AO:=thenB (thenB (al1 W5 _) AH) (al1 w6 (.cells #[qi 0,.slice oa 2 oc,.slice da 5 dc,qi 6] 51));have Bw:=hid (thenB Ar.out AO);have OW:=hid (zzn CH.out AO);have Pn:=hid (Lm.out.later AO);have OT:=hid (heap_newP w6 (.cells #[qi 0,.slice oa 2 oc,.slice da 5 dc,qi 6] 51));have Nc:=hid (And.intro (Dw.later (al1 w6 (.cells #[qi 0,.slice oa 2 oc,.slice da 5 dc,qi 6] 51))) (Dv.later (al1 w6 (.cells #[qi 0,.slice oa 2 oc,.slice da 5 dc,qi 6] 51))));clear Dw Dv AH AO Cu q0 q1 qf CH Lm
 go_wp2_with fail;refine (HP.out _).mono ?_;rintro e w8 ⟨pc,rfl,hobs,AR⟩;obtain ⟨Rb,hos8⟩:=z3b hobs;have B6:=hid (thenB Bw.out AR);have OV:=hid (zzn OW.out AR);have Pm:=hid (Pn.out.later AR);have OS:=hid (zzn OT.out AR);have Nb:=hid (And.intro (Nc.out.1.later AR) (Nc.out.2.later AR));have HC:=hid (zgr [o1,o2] Rb (some pc) 2 w8 hos8:qc 43 #[.slice (some pc) 2 2] w8 _);rw [HT.out.ck] at HC;clear hobs hos8 AR OW Pn OT Nc;go_wp2_with fail;refine HC.out.mono ?_;rintro e w9 ⟨rfl,BE⟩;have BT:=hid (thenB B6.out BE);have MP:=hid (zzn OV.out BE);have Pl:=hid (Pm.out.later BE);have GZ:=hid (zzn OS.out BE);have Iy:=hid (And.intro (Nb.out.1.later BE) (Nb.out.2.later BE));clear BE HC OV Pm OS Nb;obtain ⟨q0,q1,qf⟩:=zbp MP.out;obtain ⟨p0,p1,p2,p3,pf⟩:=zwe GZ.out;have Q3:=lt_of_heap MP.out
 have Q9:=lt_of_heap GZ.out;obtain ⟨x,y,AB⟩:=HT.out.c2;have Cg:2<code.length:=(vcf.1 AB).1;have Ov:code[0]=⟨13,22,0⟩:=(vcf.1 HT.out.c0).2;have EH:code[2]=⟨20,x,y⟩:=(vcf.1 AB).2
 rcases Pl.out with LM | ⟨cb,co,rfl,DY,AY⟩
 . have:code.length=0:=by rw [← Ai,LM];rfl
   omega
 have Om:=AY 0 (by rw [Ai];omega);have M7:=AY 2 (by rw [Ai];omega);simp only [ved,Ov,EH,insM] at Om M7;obtain ⟨LG,LF,LE⟩:=Om;obtain ⟨LD, -, -⟩:=M7
 replace LG:w9.cell? (qa cb co)=some (qi 13):=by simpa using LG
 replace LF:w9.cell? ⟨cb,co+1,none⟩=some (qi 22):=by simpa using LF
 replace LE:w9.cell? ⟨cb,co+2,none⟩=some (qi 0):=by simpa using LE
 replace LD:w9.cell? ⟨cb,co+6,none⟩=some (qi 20):=by simpa using LD
 have Qi:((0:Nat):Int)<(code.length:Int):=by omega
 have Qh:((2:Nat):Int)<(code.length:Int):=by omega
 have Nz:=hid (thenB (al1 w9 (.cells #[qi 6,qi 7] 3)) (al1 _ (.cells #[qi 6,qi 0,qi 6,qi 0,qi 0] 3)));have Db:ziu ((w9.alloc (.cells #[qi 6,qi 7] 3)).alloc (.cells #[qi 6,qi 0,qi 6,qi 0,qi 0] 3)) (some (qa w9.heap.size 0)) [6,7]:=(zwr (l:=[6,7]) (heap_newP w9 (.cells #[qi 6,qi 7] 3))).later (al1 _ _)
 have DW:ziu ((w9.alloc (.cells #[qi 6,qi 7] 3)).alloc (.cells #[qi 6,qi 0,qi 6,qi 0,qi 0] 3)) (some ⟨w9.heap.size+1,0,none⟩) [6,0,6,0,0]:=zwr (l:=[6,0,6,0,0]) (by
  have:=heap_newP (w9.alloc (.cells #[qi 6,qi 7] 3)) (.cells #[qi 6,qi 0,qi 6,qi 0,qi 0] 3);rw [vck] at this
  exact this)
 have RA:=hid (ziv 0 6 oa (some (qa w9.heap.size 0)) da (some ⟨w9.heap.size+1,0,none⟩) oc 2 dc 5 [6,7] [6,0,6,0,0] _ (Iy.out.1.later Nz.out) Db (Iy.out.2.later Nz.out) DW (by decide) (by decide));clear Db DW AY AB Ov EH MP Pl GZ Iy;go_wp2_with fail;refine RA.out.mono ?_;rintro e DP ⟨rfl,hb10⟩;have ET:=hid (thenB BT.out (thenB Nz.out hb10));clear hb10 p0 p1 p2 p3 pf q0 q1 qf LG LF LE LD;go_wp2_with fail
 go_returns
 exact ⟨rfl,ET.out⟩
theorem z5p:TwoOk zqa zoh zdp (Mx.ansR (zdp.map insM) 5 [1] 9 999).steps where
 lk:=z3c
 ck:=z3d
 top:=z3e
 c0:=z7l
 c2 :=by
  have h:=z7m
  cases e:zdp[2]? with
  | none=>rw [e] at h;cases h
  | some i=>
    rw [e] at h;obtain ⟨op,x,y⟩:=i;have:op=20:=vai h;exact ⟨x,y,by rw [this]⟩
 few:=z3f.1
 run:=z3g
 fit:=fun i hi=>by
  obtain ⟨g,hg,rfl⟩:=vcw.1 hi;have:=var.1 z3h g hg;simp only [vab,decide_eq_true_eq] at this;exact ⟨(⟨by omega,by omega⟩:Mx.fit64 g.a),(⟨by omega,by omega⟩:Mx.fit64 g.b)⟩
theorem znk (w:World):qc 42 #[] w fun e w'=>e = .returned (.bool true)/\qb w w':=
 znj zqa zoh zdp _ z5p zsb w
set_option maxHeartbeats 6400000
structure CsAt (w:World) (a:OA) (l:List Gi):Prop where
 bound:l.length<=1000000
 get:∀ k (h:k<l.length),∃ b off,a=some (qa b off)/\b<w.heap.size/\w.cell? ⟨b,off+k*3,none⟩=some (qi l[k].op)/\w.cell? ⟨b,off+k*3+1,none⟩=some (qi l[k].a)/\w.cell? ⟨b,off+k*3+2,none⟩=some (qi l[k].b)
theorem CsAt.later {w w':World} {a:OA} {l:List Gi} (h:CsAt w a l) (hb:qb w w'):CsAt w' a l:=⟨h.bound,fun k hk=>by
 obtain ⟨b,off,ha,hl,c0,c1,c2⟩:=h.get k hk
 exact ⟨b,off,ha,vah hl hb.size,(hb.cell (p:=⟨b,off+k*3,none⟩) hl).trans c0,(hb.cell (p:=⟨b,off+k*3+1,none⟩) hl).trans c1,(hb.cell (p:=⟨b,off+k*3+2,none⟩) hl).trans c2⟩⟩
theorem CsAt.of_own {w:World} {B:Nat} {a:OA} {cap:Nat} {c:List Gi} (h:w.ownsRow B 69 3 (.slice a c.length cap) c.length (zdl c)) (hb:c.length<=1000000):CsAt w a c:=⟨hb,fun k hk=>by
 obtain ⟨g,cap',e,_,hg⟩:=zd1 h (by omega);obtain ⟨b,off,ha,hc⟩:=zfq h (by omega)
 injection e with e1 _ _
 obtain ⟨c0,c1,c2⟩:=hc k hk;have e2:=ha.symm.trans e1
 injection e2 with e2
 injection e2 with e3 _ _
 exact ⟨b,off,ha,by rw [e3];exact hg,c0,c1,c2⟩⟩
theorem zui (a b:OA) (c1 c2:Nat) (l:List Gi) (w:World) (ha:CsAt w a l) (hb:CsAt w b l) :
 qc 97 #[.slice a l.length c1,.slice b l.length c2] w fun e w'=>e = .returned (.bool true)/\∃ m,w'=w.drewN m:=by
 have Bt:=ha.bound;have HA:=hid ha;have HB:=hid hb;clear ha hb;go_enter Tryz.func97,Tryz.ntmps97;go_wp2_with fail
 go_loopw [5] (fun i wr=>∃ k m:Nat,k<=l.length/\i=qi k/\wr=w.drewN m) (fun i _=>l.length - (intOf i).toNat)
 case atStart=>exact ⟨0,0,vae _,rfl,rfl⟩
 case round=>
  obtain ⟨k,m,hk,rfl,rfl⟩:=hrel
  by_cases A0:k<l.length
  . obtain ⟨b1,o1,rfl,Cz,p0,p1,p2⟩:=(HA.out.later (bdJ w m)).get k A0
    obtain ⟨b2,o2,rfl,Cg,q0,q1,q2⟩:=(HB.out.later (bdJ w m)).get k A0;generalize l[k]=lk at *;generalize hW:w.drewN m=W at *;have HW:=hid hW;clear hW;go_wp2_with fail
    go_quiet ((fail))
    go_wp2_with fail;go_roundw
    case rel=>exact ⟨k+1,m+nq,by omega,by go_num,by rw [← HW.out,vey]⟩
    case measure=>simp [intOf];omega
  . go_wp2_with fail
    go_ret;exact ⟨rfl,m,rfl⟩
theorem zjt (a b:OA) (c1 c2:Nat) (l:List Gi) (d:Int) (w:World) (ha:CsAt w a l) (hb:CsAt w b l) :
 qc 45 #[.agg #[.slice a l.length c1,qi d],.agg #[.slice b l.length c2,qi d]] w fun e w'=>e = .returned (.bool true)/\qb w w':=by
 obtain ⟨W,hW⟩:∃ W,W=(w.alloc (.cells #[.slice a l.length c1,qi d] 81)).alloc (.cells #[.slice b l.length c2,qi d] 81):=⟨_,rfl⟩
 have E3:qb w W:=by rw [hW];exact bl2 _ _ _
 have HC:=hid (zui a b c1 c2 l W (ha.later E3) (hb.later E3));have HB:=hid E3;have HW:=hid hW;clear ha hb E3 hW;go_enter Tryz.func45,Tryz.ntmps45;go_wp2_with fail;rw [← HW.out];refine HC.out.mono ?_;rintro e w' ⟨rfl,m,rfl⟩;have Ad:=hid (thenB HB.out (bdJ W m));go_wp2_with fail;go_ret;exact ⟨rfl,Ad.out⟩
def lkR (r:Except Int (List Gi × Int)):List Gi × Int × Int:=match r with | .error c=>([],0,c) | .ok (c,d)=>(c,d,0)
theorem z3i (l:List Ob):(lkR (zq3 l)).1.length<=1000000:=by
 unfold zq3;split
 . simp [lkR]
 . split
   . simp [lkR]
   . simp only [lkR];omega
theorem z5q {lo:Nat} {r:Except Int (List Gi × Int)} {e:Ending} {w:World} (h:znf lo r e w) (hl:(lkR r).1.length<=1000000):∃ a cap,e = .returned (.tuple #[.agg #[.slice a (lkR r).1.length cap,qi (lkR r).2.1],qi (lkR r).2.2])/\CsAt w a (lkR r).1:=by
 cases r with
 | error c=>exact ⟨none,0,h.1,⟨hl,fun k hk=>absurd hk (vbe _)⟩⟩
 | ok p=>
   obtain ⟨c,d⟩:=p;obtain ⟨v,he,ho⟩:=h;obtain ⟨a,cap,rfl, -, -⟩:=zag ho;exact ⟨a,cap,he,CsAt.of_own ho hl⟩
theorem znl (OE:∀ w,qc 42 #[] w fun e w'=>e = .returned (.bool true)/\qb w w') (FE:COk) (l:List Ob) (a:OA) (cap:Nat) (w:World) (hO:zkw w a l) (AG:l.length<=cap) :
 qc 12 #[.slice a l.length cap] w fun e w'=>e = .returned (.bool true)/\qb w w':=by
 have Bt:=hO.1.bound;obtain ⟨ev,hos⟩:=z3b hO
 obtain ⟨code,d,c,hz⟩:∃ code d c,lkR (zq3 l)=(code,d,c):=⟨_,_,_,rfl⟩
 have Ai:=z3i l
 have Ci:∀ {W:World} {e:Ending} {w':World},znf W.heap.size (zq3 l) e w'->∃ a1 c1,e = .returned (.tuple #[.agg #[.slice a1 code.length c1,qi d],qi c])/\CsAt w' a1 code:=fun h=>by
  obtain ⟨a1,c1,e1,h1⟩:=z5q h Ai;rw [hz] at e1 h1;exact ⟨a1,c1,e1,h1⟩
 have HC:=hid ((zng l ev a cap w hos).mono (fun e w' h=>(⟨Ci h.1,h.2⟩:(∃ a1 c1,e = .returned (.tuple #[.agg #[.slice a1 code.length c1,qi d],qi c])/\CsAt w' a1 code)/\qb w w')));have HL:=hid (fun W (hW:qb w W)=>(zuk FE l ev a cap W (hos.later hW) AG).mono (fun e w' h=>(⟨Ci h.1,h.2⟩:(∃ a1 c1,e = .returned (.tuple #[.agg #[.slice a1 code.length c1,qi d],qi c])/\CsAt w' a1 code)/\qb W w')));have HK:=hid (fun W (hW:qb w W)=>zgr l ev a cap W (hos.later hW));have HJ:=hid (fun W (hW:qb w W)=>zfg FE l ev a cap W (hos.later hW) AG);have HS:=hid OE;clear Ci hz Ai hO hos OE FE;generalize lnChk l=r at *;go_enter Tryz.func12,Tryz.ntmps12;go_wp2_with fail;refine HC.out.mono ?_;rintro e w1 ⟨⟨a1,c1,rfl,Du⟩,A5⟩;have OZ:=hid Du
 obtain ⟨W1,hW1⟩:∃ W,W=w1.alloc (.cells #[.slice a1 code.length c1,qi d] 81):=⟨_,rfl⟩
 have AK:qb w1 W1:=by rw [hW1];exact al1 _ _
 have AE:=hid (show W1.heap[w1.heap.size]? = some (.cells #[.slice a1 code.length c1,qi d] 81) by rw [hW1];exact heap_newP _ _);have Ir:=hid hW1;have A8:=hid (thenB A5 AK);have Lr:=hid AK;clear HC Du A5 hW1 AK;go_upto_region 2 with fail;rw [← Ir.out];clear Ir;go_wp2_with fail;refine (HL.out _ A8.out).mono ?_;rintro e w2 ⟨⟨a2,c2,rfl,B7⟩,Aa⟩;have DK:=hid B7
 obtain ⟨W2,hW2⟩:∃ W,W=w2.alloc (.cells #[.slice a2 code.length c2,qi d] 81):=⟨_,rfl⟩
 have AB:qb w2 W2:=by rw [hW2];exact al1 _ _
 have D1:=hid (show W2.heap[w2.heap.size]? = some (.cells #[.slice a2 code.length c2,qi d] 81) by rw [hW2];exact heap_newP _ _);have L4:=hid hW2;have Ad:=hid (thenB A8.out (thenB Aa AB));have Hz:=hid (thenB Aa AB);have Bv:=hid AB;clear HL B7 Aa hW2 AB;go_upto_region 3 with fail;rw [← L4.out];clear L4;go_wp2_with fail;refine (HS.out _).mono ?_;rintro e w3 ⟨rfl,A9⟩;have Af:=hid A9;clear A9;go_wp2_with fail;refine (HK.out _ (thenB Ad.out Af.out)).mono ?_;rintro e w4 ⟨rfl,Ah⟩;have An:=hid (thenB Af.out Ah);clear Ah;go_wp2_with fail;refine (HJ.out _ (thenB Ad.out An.out)).mono ?_;rintro e w5 ⟨rfl,Aq⟩;have Ar:=hid (thenB An.out Aq);have H9:=hid (zzn (zzn AE.out Hz.out) (thenB An.out Aq));have JL:=hid (zzn D1.out (thenB An.out Aq));obtain ⟨r0,r1, -⟩:=zbp H9.out;obtain ⟨s0,s1, -⟩:=zbp JL.out
 have Cz:=lt_of_heap H9.out;have Cg:=lt_of_heap JL.out;have HI:=hid (zjt a1 a2 c1 c2 code d w5 (OZ.out.later (thenB Lr.out (thenB Hz.out Ar.out))) (DK.out.later (thenB Bv.out Ar.out)));have HZ:=hid (thenB Ad.out Ar.out);clear Aq An Af HK HJ HS AE D1 H9 JL OZ DK Lr Hz Bv A8;go_wp2_with fail;refine HI.out.mono ?_;rintro e w6 ⟨rfl,AH⟩;have Cb:=hid (thenB HZ.out AH);clear AH;go_wp2_with fail;go_ret;exact ⟨rfl,Cb.out⟩
end Go.Proofs.YtndkhgakfodldaaGreatDoor
