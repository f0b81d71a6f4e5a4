import Derived.Test.YtndkhgakfodldaaGreatDoorLe
import Derived.Test.YtndkhgakfodldaaGreatDoorId
import Derived.Test.YtndkhgakfodldaaGreatDoorMxStp
namespace Go.Proofs.YtndkhgakfodldaaGreatDoor
set_option maxRecDepth 100000
open Go.RowKit Go.Maps Go.Sort Go.WideMaps
set_option linter.unusedSimpArgs false
set_option linter.unusedVariables false
theorem z4u {w:World} {a:OA} {l:List Ob} (h:zlp w a l):∃ ev,OsAt w a l ev:=by
 have hq:∀ i:Nat,∃ v:Value,∀ hi:i<l.length,∃ b off x1 y1 x3 y3 x4 y4 x5 y5,a=some (qa b off)/\b<w.heap.size/\w.cell? ⟨b,off+i*7,none⟩=some (.string l[i].name)/\w.cell? ⟨b,off+i*7+1,none⟩=some (.slice x1 l[i].uses.length y1)/\w.cell? ⟨b,off+i*7+2,none⟩=some (qi l[i].data)/\w.cell? ⟨b,off+i*7+3,none⟩=some (.slice x3 l[i].code.length y3)/\w.cell? ⟨b,off+i*7+4,none⟩=some (.slice x4 l[i].fixes.length y4)/\w.cell? ⟨b,off+i*7+5,none⟩=some (.slice x5 l[i].entries.length y5)/\w.cell? ⟨b,off+i*7+6,none⟩=some (qi l[i].main)/\OvAt w l[i] x1 x3 x4 x5/\l[i].uses.length<=y1/\v = .slice x5 l[i].entries.length y5:=fun i=>by
  by_cases hi:i<l.length
  . obtain ⟨b,off,x1,y1,x3,y3,x4,y4,x5,y5,ha,hO,hc⟩:=h.ob i hi
    exact ⟨.slice x5 l[i].entries.length y5,fun _=>⟨b,off,x1,y1,x3,y3,x4,y4,x5,y5,ha,hO.lt,hO.c0,hO.c1,hO.c2,hO.c3,hO.c4,hO.c5,hO.c6,hO.ov,hc,rfl⟩⟩
  . exact ⟨.bool false,fun h=>absurd h hi⟩
 obtain ⟨ev,Hi⟩:=Classical.axiomOfChoice hq;exact ⟨ev,h.1.bound,fun i hi=>Hi i hi⟩
def insM (i:Gi):Mx.Mc.Ins:=⟨i.op,i.a,i.b⟩
def zd1:List Gi:=match zxs [zrg,zpk] with | .ok (c,_)=>c | .error _=>[]
theorem z4v:zxs [zrg,zpk] = .ok (zd1,5):=by kernel_rfl
theorem z4w:lnChk [zrg,zpk]=0:=by kernel_rfl
theorem z4x:zxs [zpk] = .error 9:=by kernel_rfl
theorem z8u:zd1[0]? = some ⟨13,22,0⟩:=by kernel_rfl
theorem z8v:(zd1[2]?).map Gi.op=some 20:=by kernel_rfl
theorem z4y:zd1.length<=2048/\3<=zd1.length:=⟨Nat.le_of_ble_eq_true (by kernel_rfl),Nat.le_of_ble_eq_true (by kernel_rfl)⟩
theorem z4z:Mx.ansR (zd1.map insM) 5 [1] 9 999=⟨0,[6,7],[6,0,6,0,0],6,(Mx.ansR (zd1.map insM) 5 [1] 9 999).steps,0⟩:=by kernel_rfl
theorem z40:zd1.all (fun g=>(decide (-1000000000<=g.a)&&decide (g.a<=1099511627775))&&(decide (-1000000000<=g.b)&&decide (g.b<=1099511627775)))=true:=by kernel_rfl
set_option maxHeartbeats 12800000
theorem z0z {w w':World} {b:Nat} {x:Obj} (h:w.heap[b]? = some x) (hb:qb w w'):w'.heap[b]? = some x:=(hb.block b (lt_of_heap h)).trans h
theorem zx7 {w:World} {b:Nat} {l:List Int} (h:w.heap[b]? = some (.cells (l.map (Value.int .i64)).toArray 3)):zjh w (some (qa b 0)) l:=Or.inr ⟨b,0,rfl,lt_of_heap h,fun i hi=>by
 rw [vef h,vba]
 simp [hi]⟩
theorem z3z {w:World} {B:Nat} {a:OA} {cap:Nat} {c:List Gi} (h:w.ownsRow B 69 3 (.slice a c.length cap) c.length (zen c)):Mx.ImgAt w a (c.map insM):=by
 by_cases hn:c.length=0
 . exact Or.inl (by rw [vak hn];rfl)
 . obtain ⟨g,cap',e,_,hg⟩:=zkf h (by omega)
   obtain ⟨b,off,ha,hc⟩:=zkj h hn
   injection e with e1 _ _
   rw [e1] at ha
   injection ha with ha
   injection ha with hb ho _
   refine Or.inr ⟨g,0,e1,hg,fun i hi=>?_⟩
   have D9:i<c.length:=by simpa using hi
   obtain ⟨q0,q1,q2⟩:=hc i D9;subst hb ho;simp only [vdv];exact ⟨q0,q1,q2⟩
theorem z67 {w:World} {o:Ob} {x1:OA} {y1:Nat} {x3:OA} {y3:Nat} {x4:OA} {y4:Nat} {x5:OA} {y5:Nat} (h:OvAt w o x1 x3 x4 x5) (hc:o.uses.length<=y1) :
 OsAt (w.alloc (obC o x1 y1 x3 y3 x4 y4 x5 y5)) (some (qa w.heap.size 0)) [o] (fun _=>.slice x5 o.entries.length y5):=by
 have hb:=heap_newP w (obC o x1 y1 x3 y3 x4 y4 x5 y5);obtain ⟨c0,c1,c2,c3,c4,c5,c6,_⟩:=zao hb;refine ⟨by simp,fun i hi=>?_⟩
 obtain rfl:i=0:=by simpa using hi
 exact ⟨w.heap.size,0,x1,y1,x3,y3,x4,y4,x5,y5,rfl,lt_of_heap hb,c0,c1,c2,c3,c4,c5,c6,h.later (al1 _ _),hc,rfl⟩
structure TwoOk (o1 o2:Ob) (code:List Gi) (steps:Int):Prop where
 lk:zxs [o1,o2] = .ok (code,5)
 ck:lnChk [o1,o2]=0
 top:zxs [o2] = .error 9
 c0:code[0]? = some ⟨13,22,0⟩
 c2:∃ x y,code[2]? = some ⟨20,x,y⟩
 few:code.length<=2048
 run:Mx.ansR (code.map insM) 5 [1] 9 999=⟨0,[6,7],[6,0,6,0,0],6,steps,0⟩
 fit:∀ i ∈ code.map insM,Mx.InsFit i
theorem zog (o1 o2:Ob) (code:List Gi) (steps:Int) (hT:TwoOk o1 o2 code steps)
 (hP:∀ w,qc 85 #[] w fun e w'=>∃ a,e = .returned (.slice (some a) 2 2)/\zlp w' (some a) [o1,o2]/\qb w w') (w:World) :
 qc 42 #[] w fun e w'=>e = .returned (.bool true)/\qb w w':=by
 have HT:=hid hT;have HP:=hid hP;clear hT hP;go_enter Tryz.func42,Tryz.ntmps42;go_wp2_with fail;refine (HP.out _).mono ?_;rintro e w1 ⟨pa,rfl,hobs,A6⟩;have A7:=hid A6;obtain ⟨Rk,hos1⟩:=z4u hobs;have HL:=hid (zod [o1,o2] Rk (some pa) 2 w1 hos1:qc 40 #[.slice (some pa) 2 2] w1 _);clear hobs hos1 A6;go_wp2_with fail;refine HL.out.mono ?_;rintro e w2 ⟨Ai,Ab⟩;rw [HT.out.lk] at Ai;obtain ⟨v,rfl,Aa⟩:∃ v,e = .returned (.tuple #[.agg #[v,qi 5],qi 0])/\w2.ownsRow w1.heap.size 69 3 v code.length (zen code):=Ai;obtain ⟨ca,cc,rfl, -, -⟩:=zal Aa;have Kr:=hid (z3z Aa);have Af:=hid (thenB A7.out Ab)
 have Bo:0<code.length:=by have:=HT.out.c0;exact (vcd.1 this).1
 have D4:=hid (heap_newP w2 (.cells #[.slice ca code.length cc,qi 5] 81));have Sk:=hid (thenB Af.out (al1 w2 (.cells #[.slice ca code.length cc,qi 5] 81)))
 have Ah:(code.map insM).length=code.length:=by simp
 clear Aa Ab HL;go_wp2_with fail;refine (HP.out _).mono ?_;rintro e w3 ⟨pb,rfl,hobs,A9⟩;have Ae:=hid (thenB Sk.out A9);have Cr:=hid (z0z D4.out A9);have PD:=hid (Kr.out.later (thenB (al1 w2 _) A9));obtain ⟨b,off,x1,y1,x3,y3,x4,y4,x5,y5,Fz,hO,E1⟩:=hobs.ob 1 (by simp);have Fz:pb=(qa b off):=vab Fz;subst Fz;have Au:=hO.lt;obtain ⟨-,z0,z1,z2,z3,z4,z5,z6,KI⟩:=hO;have E1:o2.uses.length<=y1:=E1;have KI:OvAt w3 o2 x1 x3 x4 x5:=KI
 replace z0:w3.cell? ⟨b,off+7,none⟩=some (.string o2.name):=by simpa using z0
 replace z1:w3.cell? ⟨b,off+7+1,none⟩=some (.slice x1 o2.uses.length y1):=by simpa using z1
 replace z2:w3.cell? ⟨b,off+7+2,none⟩=some (qi o2.data):=by simpa using z2
 replace z3:w3.cell? ⟨b,off+7+3,none⟩=some (.slice x3 o2.code.length y3):=by simpa using z3
 replace z4:w3.cell? ⟨b,off+7+4,none⟩=some (.slice x4 o2.fixes.length y4):=by simpa using z4
 replace z5:w3.cell? ⟨b,off+7+5,none⟩=some (.slice x5 o2.entries.length y5):=by simpa using z5
 replace z6:w3.cell? ⟨b,off+7+6,none⟩=some (qi o2.main):=by simpa using z6
 have HL:=hid (zod [o2] _ (some (qa w3.heap.size 0)) 1 _ (z67 (y3:=y3) (y4:=y4) (y5:=y5) KI E1):qc 40 #[.slice (some (qa w3.heap.size 0)) 1 1] (w3.alloc (obC o2 x1 y1 x3 y3 x4 y4 x5 y5)) _);clear hobs A9 KI D4 Kr;go_wp2_with fail;refine HL.out.mono ?_;rintro e w4 ⟨Ai,Aj⟩;rw [HT.out.top] at Ai;obtain ⟨rfl, -⟩:e = .returned (.tuple #[.agg #[qs,qi 0],qi 9])/\(9:Int)≠0:=Ai;have As:=thenB (thenB (al1 w3 _) Aj) (al1 w4 (.cells #[qs,qi 0] 81));have Av:=hid (thenB Ae.out As);have CJ:=hid (z0z Cr.out As);have Lj:=hid (PD.out.later As)
 obtain ⟨W5,hW5⟩:∃ W5,W5=w4.alloc (.cells #[qs,qi 0] 81):=⟨_,rfl⟩
 rw [← hW5] at Av CJ Lj;have IK:=hid hW5
 have JZ:=hid (Mx.Run_any ca (some (qa W5.heap.size 0)) cc 1 (code.map insM) 5 [1] 9 999 (W5.alloc (.cells #[qi 1] 3)) (Lj.out.later (al1 _ _)) (by rw [Ah];have:=HT.out.few;omega) HT.out.fit
  (Or.inr ⟨W5.heap.size,0,rfl,by simp,fun i hi=>by obtain rfl:i=0:=(by simpa using hi);rw [vef (heap_newP W5 (.cells #[qi 1] 3))];rfl⟩) (by decide) (by decide) (by decide))
 rw [Ah,HT.out.run] at JZ;obtain ⟨q0,q1,qf⟩:=zd0 CJ.out;have LL:=lt_of_heap CJ.out;clear Aj As HL z0 z1 z2 z3 z4 z5 z6 Au E1 Cr PD hW5;go_upto_region 3 with fail;rw [← IK.out];clear IK;go_wp2_with fail;refine JZ.out.mono ?_;rintro e w6 ⟨oa,oc,da,dc,rfl,DU,DT,AK, -, -, -⟩;have DU:zjh w6 oa [6,7]:=DU.at;have DT:zjh w6 da [6,0,6,0,0]:=DT.at;have AQ:=thenB (thenB (al1 W5 _) AK) (al1 w6 (.cells #[qi 0,.slice oa 2 oc,.slice da 5 dc,qi 6] 51));have BE:=hid (thenB Av.out AQ);have Pa:=hid (z0z CJ.out AQ);have PC:=hid (Lj.out.later AQ);have P7:=hid (heap_newP w6 (.cells #[qi 0,.slice oa 2 oc,.slice da 5 dc,qi 6] 51));have Ni:=hid (And.intro (DU.later (al1 w6 (.cells #[qi 0,.slice oa 2 oc,.slice da 5 dc,qi 6] 51))) (DT.later (al1 w6 (.cells #[qi 0,.slice oa 2 oc,.slice da 5 dc,qi 6] 51))));clear DU DT AK AQ JZ q0 q1 qf CJ Lj
 go_wp2_with fail;refine (HP.out _).mono ?_;rintro e w8 ⟨pc,rfl,hobs,AR⟩;obtain ⟨Rj,hos8⟩:=z4u hobs;have Be:=hid (thenB BE.out AR);have P9:=hid (z0z Pa.out AR);have PB:=hid (PC.out.later AR);have P6:=hid (z0z P7.out AR);have Nh:=hid (And.intro (Ni.out.1.later AR) (Ni.out.2.later AR));have HC:=hid (zkh [o1,o2] Rj (some pc) 2 w8 hos8:qc 43 #[.slice (some pc) 2 2] w8 _);rw [HT.out.ck] at HC;clear hobs hos8 AR Pa PC P7 Ni;go_wp2_with fail;refine HC.out.mono ?_;rintro e w9 ⟨rfl,BP⟩;have B8:=hid (thenB Be.out BP);have MW:=hid (z0z P9.out BP);have PA:=hid (PB.out.later BP);have Hz:=hid (z0z P6.out BP);have IQ:=hid (And.intro (Nh.out.1.later BP) (Nh.out.2.later BP));clear BP HC P9 PB P6 Nh;obtain ⟨q0,q1,qf⟩:=zd0 MW.out;obtain ⟨p0,p1,p2,p3,pf⟩:=zxn Hz.out;have Qg:=lt_of_heap MW.out
 have Ql:=lt_of_heap Hz.out;obtain ⟨x,y,AM⟩:=HT.out.c2;have Ce:2<code.length:=(vcd.1 AM).1;have OI:code[0]=⟨13,22,0⟩:=(vcd.1 HT.out.c0).2;have F2:code[2]=⟨20,x,y⟩:=(vcd.1 AM).2
 rcases PA.out with LQ | ⟨cb,co,rfl,Du,Bn⟩
 . have:code.length=0:=by rw [← Ah,LQ];rfl
   omega
 have OB:=Bn 0 (by rw [Ah];omega);have Oz:=Bn 2 (by rw [Ah];omega);simp only [vdv,OI,F2,insM] at OB Oz;obtain ⟨Lz,Ly,Lw⟩:=OB;obtain ⟨Lu, -, -⟩:=Oz
 replace Lz:w9.cell? (qa cb co)=some (qi 13):=by simpa using Lz
 replace Ly:w9.cell? ⟨cb,co+1,none⟩=some (qi 22):=by simpa using Ly
 replace Lw:w9.cell? ⟨cb,co+2,none⟩=some (qi 0):=by simpa using Lw
 replace Lu:w9.cell? ⟨cb,co+6,none⟩=some (qi 20):=by simpa using Lu
 have Qv:((0:Nat):Int)<(code.length:Int):=by omega
 have Qu:((2:Nat):Int)<(code.length:Int):=by omega
 have NE:=hid (thenB (al1 w9 (.cells #[qi 6,qi 7] 3)) (al1 _ (.cells #[qi 6,qi 0,qi 6,qi 0,qi 0] 3)));have Dq:zjh ((w9.alloc (.cells #[qi 6,qi 7] 3)).alloc (.cells #[qi 6,qi 0,qi 6,qi 0,qi 0] 3)) (some (qa w9.heap.size 0)) [6,7]:=(zx7 (l:=[6,7]) (heap_newP w9 (.cells #[qi 6,qi 7] 3))).later (al1 _ _)
 have Ec:zjh ((w9.alloc (.cells #[qi 6,qi 7] 3)).alloc (.cells #[qi 6,qi 0,qi 6,qi 0,qi 0] 3)) (some ⟨w9.heap.size+1,0,none⟩) [6,0,6,0,0]:=zx7 (l:=[6,0,6,0,0]) (by
  have:=heap_newP (w9.alloc (.cells #[qi 6,qi 7] 3)) (.cells #[qi 6,qi 0,qi 6,qi 0,qi 0] 3);rw [vcm] at this
  exact this)
 have RF:=hid (zji 0 6 oa (some (qa w9.heap.size 0)) da (some ⟨w9.heap.size+1,0,none⟩) oc 2 dc 5 [6,7] [6,0,6,0,0] _ (IQ.out.1.later NE.out) Dq (IQ.out.2.later NE.out) Ec (by decide) (by decide));clear Dq Ec Bn AM OI F2 MW PA Hz IQ;go_wp2_with fail;refine RF.out.mono ?_;rintro e Dn ⟨rfl,hb10⟩;have Fu:=hid (thenB B8.out (thenB NE.out hb10));clear hb10 p0 p1 p2 p3 pf q0 q1 qf Lz Ly Lw Lu;go_wp2_with fail
 go_returns
 exact ⟨rfl,Fu.out⟩
theorem z68:TwoOk zrg zpk zd1 (Mx.ansR (zd1.map insM) 5 [1] 9 999).steps where
 lk:=z4v
 ck:=z4w
 top:=z4x
 c0:=z8u
 c2 :=by
  have h:=z8v
  cases e:zd1[2]? with
  | none=>rw [e] at h;cases h
  | some i=>
    rw [e] at h;obtain ⟨op,x,y⟩:=i;have:op=20:=vab h;exact ⟨x,y,by rw [this]⟩
 few:=z4y.1
 run:=z4z
 fit:=fun i hi=>by
  obtain ⟨g,hg,rfl⟩:=vch.1 hi;have:=vas.1 z40 g hg;simp only [vac,decide_eq_true_eq] at this;exact ⟨(⟨by omega,by omega⟩:Mx.fit64 g.a),(⟨by omega,by omega⟩:Mx.fit64 g.b)⟩
theorem zoh (w:World):qc 42 #[] w fun e w'=>e = .returned (.bool true)/\qb w w':=
 zog zrg zpk zd1 _ z68 ztm w
set_option maxHeartbeats 6400000
theorem zm1:∀ (l:List Gi) (k:Nat) (x:Int),(l.modify k (zxd x)).map Gi.op=l.map Gi.op
 | [],k,x=>by simp
 | i :: r,0,x=>by simp [zxd]
 | i :: r,k+1,x=>by simp [zm1 r k x]
theorem zsi (l:List Ob) (o:Ob):∀ j,(fxL l o j).map Gi.op=o.code.map Gi.op
 | 0=>rfl
 | j+1=>by
   rw [fxL];split
   . rw [zm1];exact zsi l o j
   . exact zsi l o j
def z6p (c:List Gi):Prop:=∀ x ∈ c.map Gi.op,1<=x/\x<=22
theorem zg6 {a b:List Gi} (ha:z6p a) (hb:z6p b):z6p (a++b):=fun x hx=>by
 rw [vbr] at hx
 rcases vbs.1 hx with h | h
 . exact ha x h
 . exact hb x h
theorem z69 {o:Ob} (h:oChk o=0):z6p o.code:=fun x hx=>by
 obtain ⟨_,_,hc,_⟩:=zii h;unfold zfj at hc;simp only [vac] at hc;obtain ⟨i,hi,rfl⟩:=vch.1 hx;obtain ⟨j,hj,rfl⟩:=vbl hi;have:=zba.1 hc.1 j hj;unfold z6r at this;rw [vae hj] at this;exact of_decide_eq_true this
theorem zp9 (l:List Ob):∀ j,j<=l.length->z6p (zep l j)
 | 0,_=>fun x hx=>by simp [zep] at hx
 | j+1,h=>by
   rw [zkd];refine zg6 (zp9 l j (by omega)) (fun x hx=>?_);rw [z3w (by omega:j<l.length)] at hx
   have hx:x=13:=by simpa using hx
   omega
theorem zqa {l:List Ob} (h:∀ o ∈ l,oChk o=0):∀ j,j<=l.length->z6p (codeL l j)
 | 0,_=>by
   have e:codeL l 0=zep l l.length++[⟨20,0,0⟩]:=by simp [codeL]
   rw [e];refine zg6 (zp9 l l.length (vaa _)) (fun x hx=>?_)
   have hx:x=20:=by simpa using hx
   omega
 | j+1,hj=>by
   rw [zik l (by omega:j<l.length)];refine zg6 (zqa h j (by omega)) (fun x hx=>?_);rw [zsi] at hx;exact z69 (h _ (vaj (by omega))) x hx
theorem zx8 {l:List Ob} {c:List Gi} {d:Int} (h:zxs l = .ok (c,d)):Mx.checkI (c.map insM) d=0/\(c.length:Int)=l.length+1+cdL l/\c.length<=2048/\z6n l:=by
 unfold zxs at h
 split at h
 . cases h
 . rename_i h1
   obtain ⟨k1,k2,k3,k4,k5,k6⟩:=zuc (by simpa using h1:lnChk l=0)
   split at h
   . cases h
   . rename_i h2
     injection h with h
     injection h with hc hd
     subst hc hd;have hl:=zki l l.length (vaa _);rw [vau] at hl;have hn:=zr3 k2 k3;have hf:=zf0 hn l.length (vaa _);rw [vau] at hf;refine ⟨?_,hl,by omega,hn⟩;unfold Mx.checkI;rw [if_neg (by rw [vcp];omega),if_pos,if_neg (by omega)];rw [vas];intro x hx;obtain ⟨g,hg,rfl⟩:=vch.1 hx;have:=zqa k3 l.length (vaa _) g.op (vch.2 ⟨g,hg,rfl⟩);show (decide (1<=g.op)&&decide (g.op<=22))=true;simp only [vac,decide_eq_true_eq];exact this
theorem zoi (OP:∀ w,qc 42 #[] w fun e w'=>e = .returned (.bool true)/\qb w w') (l:List Ob) (a:OA) (cap:Nat) (w:World) (hO:zlp w a l) :
 qc 13 #[.slice a l.length cap] w fun e w'=>e = .returned (.bool true)/\qb w w':=by
 have BJ:=hO.1.bound;obtain ⟨ev,hos⟩:=z4u hO;have RK:=hid hos;have HS:=hid OP;have HC:=hid (zod l ev a cap w hos);clear hO hos OP
 obtain ⟨r,hr⟩:∃ r,r=zxs l:=⟨_,rfl⟩
 rw [← hr] at HC;have HR:=hid hr;clear hr;go_enter Tryz.func13,Tryz.ntmps13;go_wp2_with fail;refine HC.out.mono ?_;rintro e w1 ⟨Ai,A6⟩;have A7:=hid A6;have An:=A6.size;clear HC A6
 cases r with
 | error c=>
   obtain ⟨rfl,hc⟩:e = .returned (.tuple #[.agg #[qs,qi 0],qi c])/\c≠0:=Ai;go_wp2_with fail;refine (HS.out _).mono ?_;rintro e w2 ⟨rfl,Ab⟩;have Af:=hid (thenB A7.out (thenB (al1 w1 _) Ab));clear Ab;go_wp2_with fail;go_ret;exact ⟨rfl,Af.out⟩
 | ok p=>
   obtain ⟨code,d⟩:=p;obtain ⟨v,rfl,Aa⟩:∃ v,e = .returned (.tuple #[.agg #[v,qi d],qi 0])/\w1.ownsRow w.heap.size 69 3 v code.length (zen code):=Ai;obtain ⟨ca,cc,rfl, -, -⟩:=zal Aa;have Kr:=hid (z3z Aa);obtain ⟨Gx,Du,Ho,hN⟩:=zx8 HR.out.symm;have Ii:=hid Gx;have HN:=hid hN;have EW:=hN.1
   have Hd:(code.map insM).length=code.length:=by simp
   obtain ⟨W1,hW1⟩:∃ W,W=w1.alloc (.cells #[.slice ca code.length cc,qi d] 81):=⟨_,rfl⟩
   have EC:qb w1 W1:=by rw [hW1];exact al1 _ _
   have HX:=hid (show W1.heap[w1.heap.size]? = some (.cells #[.slice ca code.length cc,qi d] 81) by rw [hW1];exact heap_newP _ _);have HW:=hid hW1;have Lm:=hid (thenB A7.out EC);have S1:=hid (Kr.out.later EC);have EG:=hid Du;clear Aa Gx hN EC hW1 Kr Du;go_upto_region 4 with fail;rw [← HW.out];clear HW;go_wp2_with fail
   go_loopw [5,6] (fun n i wr=>∃ j:Nat,j<=l.length/\i=qi j/\n=qi ((l.length:Int)+1+cdL (l.take j))/\qb W1 wr) (fun _ i _=>l.length - (intOf i).toNat)
   case atStart=>exact ⟨0,vag _,rfl,by simp [cdL],Below.refl _ _⟩
   case round=>
    obtain ⟨j,hj,rfl,rfl,hb⟩:=hrel;have HB:=hid hb
    have Bx:=(zf0 HN.out j hj)
    by_cases A4:j<l.length
    . obtain ⟨b,off,x1,y1,x3,y3,x4,y4,x5,y5,rfl,C6,c0,c1,c2,c3,c4,c5,c6, -, -, -⟩:=(RK.out.later (thenB Lm.out hb)).get j A4
      have Dv:=HN.out.2 l[j] (vaj A4);have Hn:=Dv.1;have Hl:=Dv.2.1;have N0:=hid (zjr A4);generalize cdL (l.take j)=cd at *;have CO:IntKind.i64.wrap ((l.length:Int)+1+cd+(l[j].code.length:Int))=(l.length:Int)+1+cd+(l[j].code.length:Int):=z4l (by omega) (by omega);clear c0 c1 c2 c4 c5 c6 Dv hb;go_wp2_with fail;go_roundw
      case rel=>exact ⟨j+1,by omega,by go_num,by rw [N0.out,Int.add_assoc ((l.length:Int)+1)],HB.out⟩
      case measure=>simp [intOf];omega
    . obtain rfl:j=l.length:=by omega
      rw [vau] at *;have P8:=hid (z0z HX.out hb);have Py:=hid (S1.out.later hb);have D0:=hid (thenB Lm.out hb)
      have Ez:((code.length:Int) == (l.length:Int)+1+cdL l)=true:=by rw [EG.out];exact beq_self_eq_true _
      clear hb;go_wp2_with fail;refine (HS.out _).mono ?_;rintro e w2 ⟨rfl,Ab⟩;have D4:=hid (z0z P8.out Ab);have Af:=hid (thenB D0.out Ab);have Bp:=hid (Mx.Check_any ca cc (code.map insM) d w2 (Py.out.later Ab) (by rw [Hd];omega));rw [Hd,Ii.out] at Bp;obtain ⟨q0,q1,qf⟩:=zd0 D4.out;have LL:=lt_of_heap D4.out;clear Ab P8 Py;go_wp2_with fail;refine Bp.out.mono ?_;rintro e w3 ⟨rfl,A9⟩;have Ae:=hid (thenB Af.out A9);have Cr:=hid (z0z D4.out A9);clear q0 q1 qf LL A9;obtain ⟨q0,q1,qf⟩:=zd0 Cr.out;have LL:=lt_of_heap Cr.out;generalize cdL l=cd at *;go_wp2_with fail
      go_returns
      exact ⟨rfl,Ae.out⟩
end Go.Proofs.YtndkhgakfodldaaGreatDoor
