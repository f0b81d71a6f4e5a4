import Derived.Test.YtndkhgakfodldaaGreatDoorLe
import Derived.Test.YtndkhgakfodldaaGreatDoorId
import Derived.Test.YtndkhgakfodldaaGreatDoorMxStp
namespace Go.Proofs.YtndkhgakfodldaaGreatDoor
set_option maxRecDepth 100000
open Go.RowKit Go.Maps Go.Sort Go.WideMaps
set_option linter.unusedSimpArgs false
set_option linter.unusedVariables false
theorem z4u {w:World} {a:OA} {l:List Ob} (h:zlp w a l):∃ ev,OsAt w a l ev:=by
 have hq:∀ i:Nat,∃ v:Value,∀ hi:i<l.length,∃ b off x1 y1 x3 y3 x4 y4 x5 y5,a=some (qa b off)/\b<w.heap.size/\w.cell? ⟨b,off+i*7,none⟩=some (.string l[i].name)/\w.cell? ⟨b,off+i*7+1,none⟩=some (.slice x1 l[i].uses.length y1)/\w.cell? ⟨b,off+i*7+2,none⟩=some (qi l[i].data)/\w.cell? ⟨b,off+i*7+3,none⟩=some (.slice x3 l[i].code.length y3)/\w.cell? ⟨b,off+i*7+4,none⟩=some (.slice x4 l[i].fixes.length y4)/\w.cell? ⟨b,off+i*7+5,none⟩=some (.slice x5 l[i].entries.length y5)/\w.cell? ⟨b,off+i*7+6,none⟩=some (qi l[i].main)/\OvAt w l[i] x1 x3 x4 x5/\l[i].uses.length<=y1/\v = .slice x5 l[i].entries.length y5:=fun i=>by
  by_cases hi:i<l.length
  . obtain ⟨b,off,x1,y1,x3,y3,x4,y4,x5,y5,ha,hO,hc⟩:=h.ob i hi
    exact ⟨.slice x5 l[i].entries.length y5,fun _=>⟨b,off,x1,y1,x3,y3,x4,y4,x5,y5,ha,hO.lt,hO.c0,hO.c1,hO.c2,hO.c3,hO.c4,hO.c5,hO.c6,hO.ov,hc,rfl⟩⟩
  . exact ⟨.bool false,fun h=>absurd h hi⟩
 obtain ⟨ev,GX⟩:=Classical.axiomOfChoice hq;exact ⟨ev,h.1.bound,fun i hi=>GX i hi⟩
def insM (i:Gi):Mx.Mc.Ins:=⟨i.op,i.a,i.b⟩
def zd1:List Gi:=match zxs [zrg,zpk] with | .ok (c,_)=>c | .error _=>[]
theorem z4v:zxs [zrg,zpk] = .ok (zd1,5):=by kernel_rfl
theorem z4w:lnChk [zrg,zpk]=0:=by kernel_rfl
theorem z4x:zxs [zpk] = .error 9:=by kernel_rfl
theorem z8u:zd1[0]? = some ⟨13,22,0⟩:=by kernel_rfl
theorem z8v:(zd1[2]?).map Gi.op=some 20:=by kernel_rfl
theorem z4y:zd1.length<=2048/\3<=zd1.length:=⟨Nat.le_of_ble_eq_true (by kernel_rfl),Nat.le_of_ble_eq_true (by kernel_rfl)⟩
theorem z4z:Mx.ansR (zd1.map insM) 5 [1] 9 999=⟨0,[6,7],[6,0,6,0,0],6,(Mx.ansR (zd1.map insM) 5 [1] 9 999).steps,0⟩:=by kernel_rfl
theorem z40:zd1.all (fun g=>(decide (-1000000000<=g.a)&&decide (g.a<=1099511627775))&&(decide (-1000000000<=g.b)&&decide (g.b<=1099511627775)))=true:=by kernel_rfl
set_option maxHeartbeats 12800000
theorem z0z {w w':World} {b:Nat} {x:Obj} (h:w.heap[b]? = some x) (hb:qb w w'):w'.heap[b]? = some x:=(hb.block b (lt_of_heap h)).trans h
theorem zx7 {w:World} {b:Nat} {l:List Int} (h:w.heap[b]? = some (.cells (l.map (Value.int .i64)).toArray 3)):zjh w (some (qa b 0)) l:=Or.inr ⟨b,0,rfl,lt_of_heap h,fun i hi=>by
 rw [vef h,vba]
 simp [hi]⟩
theorem z3z {w:World} {B:Nat} {a:OA} {cap:Nat} {c:List Gi} (h:w.ownsRow B 69 3 (.slice a c.length cap) c.length (zen c)):Mx.ImgAt w a (c.map insM):=by
 by_cases hn:c.length=0
 . exact Or.inl (by rw [vak hn];rfl)
 . obtain ⟨g,cap',e,_,hg⟩:=zkf h (by omega)
   obtain ⟨b,off,ha,hc⟩:=zkj h hn
   injection e with e1 _ _
   rw [e1] at ha
   injection ha with ha
   injection ha with hb ho _
   refine Or.inr ⟨g,0,e1,hg,fun i hi=>?_⟩
   have D4:i<c.length:=by simpa using hi
   obtain ⟨q0,q1,q2⟩:=hc i D4;subst hb ho;simp only [vdv];exact ⟨q0,q1,q2⟩
theorem z67 {w:World} {o:Ob} {x1:OA} {y1:Nat} {x3:OA} {y3:Nat} {x4:OA} {y4:Nat} {x5:OA} {y5:Nat} (h:OvAt w o x1 x3 x4 x5) (hc:o.uses.length<=y1) :
 OsAt (w.alloc (obC o x1 y1 x3 y3 x4 y4 x5 y5)) (some (qa w.heap.size 0)) [o] (fun _=>.slice x5 o.entries.length y5):=by
 have hb:=heap_newP w (obC o x1 y1 x3 y3 x4 y4 x5 y5);obtain ⟨c0,c1,c2,c3,c4,c5,c6,_⟩:=zao hb;refine ⟨by simp,fun i hi=>?_⟩
 obtain rfl:i=0:=by simpa using hi
 exact ⟨w.heap.size,0,x1,y1,x3,y3,x4,y4,x5,y5,rfl,lt_of_heap hb,c0,c1,c2,c3,c4,c5,c6,h.later (al1 _ _),hc,rfl⟩
structure TwoOk (o1 o2:Ob) (code:List Gi) (steps:Int):Prop where
 lk:zxs [o1,o2] = .ok (code,5)
 ck:lnChk [o1,o2]=0
 top:zxs [o2] = .error 9
 c0:code[0]? = some ⟨13,22,0⟩
 c2:∃ x y,code[2]? = some ⟨20,x,y⟩
 few:code.length<=2048
 run:Mx.ansR (code.map insM) 5 [1] 9 999=⟨0,[6,7],[6,0,6,0,0],6,steps,0⟩
 fit:∀ i ∈ code.map insM,Mx.InsFit i
theorem zog (o1 o2:Ob) (code:List Gi) (steps:Int) (hT:TwoOk o1 o2 code steps)
 (hP:∀ w,qc 85 #[] w fun e w'=>∃ a,e = .returned (.slice (some a) 2 2)/\zlp w' (some a) [o1,o2]/\qb w w') (w:World) :
 qc 42 #[] w fun e w'=>e = .returned (.bool true)/\qb w w':=by
 have HT:=hid hT;have HP:=hid hP;clear hT hP;go_enter Tryz.func42,Tryz.ntmps42;go_wp2_with fail;refine (HP.out _).mono ?_;rintro e w1 ⟨pa,rfl,hobs,A6⟩;have A7:=hid A6;obtain ⟨R8,hos1⟩:=z4u hobs;have HL:=hid (zod [o1,o2] R8 (some pa) 2 w1 hos1:qc 40 #[.slice (some pa) 2 2] w1 _);clear hobs hos1 A6;go_wp2_with fail;refine HL.out.mono ?_;rintro e w2 ⟨Ai,Ab⟩;rw [HT.out.lk] at Ai;obtain ⟨v,rfl,Aa⟩:∃ v,e = .returned (.tuple #[.agg #[v,qi 5],qi 0])/\w2.ownsRow w1.heap.size 69 3 v code.length (zen code):=Ai;obtain ⟨ca,cc,rfl, -, -⟩:=zal Aa;have Kd:=hid (z3z Aa);have Af:=hid (thenB A7.out Ab)
 have Bm:0<code.length:=by have:=HT.out.c0;exact (vcd.1 this).1
 have D0:=hid (heap_newP w2 (.cells #[.slice ca code.length cc,qi 5] 81));have S6:=hid (thenB Af.out (al1 w2 (.cells #[.slice ca code.length cc,qi 5] 81)))
 have Ah:(code.map insM).length=code.length:=by simp
 clear Aa Ab HL;go_wp2_with fail;refine (HP.out _).mono ?_;rintro e w3 ⟨pb,rfl,hobs,A9⟩;have Ae:=hid (thenB S6.out A9);have Cm:=hid (z0z D0.out A9);have Pp:=hid (Kd.out.later (thenB (al1 w2 _) A9));obtain ⟨b,off,x1,y1,x3,y3,x4,y4,x5,y5,Fo,hO,DU⟩:=hobs.ob 1 (by simp);have Fo:pb=(qa b off):=vab Fo;subst Fo;have Au:=hO.lt;obtain ⟨-,z0,z1,z2,z3,z4,z5,z6,Kx⟩:=hO;have DU:o2.uses.length<=y1:=DU;have Kx:OvAt w3 o2 x1 x3 x4 x5:=Kx
 replace z0:w3.cell? ⟨b,off+7,none⟩=some (.string o2.name):=by simpa using z0
 replace z1:w3.cell? ⟨b,off+7+1,none⟩=some (.slice x1 o2.uses.length y1):=by simpa using z1
 replace z2:w3.cell? ⟨b,off+7+2,none⟩=some (qi o2.data):=by simpa using z2
 replace z3:w3.cell? ⟨b,off+7+3,none⟩=some (.slice x3 o2.code.length y3):=by simpa using z3
 replace z4:w3.cell? ⟨b,off+7+4,none⟩=some (.slice x4 o2.fixes.length y4):=by simpa using z4
 replace z5:w3.cell? ⟨b,off+7+5,none⟩=some (.slice x5 o2.entries.length y5):=by simpa using z5
 replace z6:w3.cell? ⟨b,off+7+6,none⟩=some (qi o2.main):=by simpa using z6
 have HL:=hid (zod [o2] _ (some (qa w3.heap.size 0)) 1 _ (z67 (y3:=y3) (y4:=y4) (y5:=y5) Kx DU):qc 40 #[.slice (some (qa w3.heap.size 0)) 1 1] (w3.alloc (obC o2 x1 y1 x3 y3 x4 y4 x5 y5)) _);clear hobs A9 Kx D0 Kd;go_wp2_with fail;refine HL.out.mono ?_;rintro e w4 ⟨Ai,Aj⟩;rw [HT.out.top] at Ai;obtain ⟨rfl, -⟩:e = .returned (.tuple #[.agg #[qs,qi 0],qi 9])/\(9:Int)≠0:=Ai;have As:=thenB (thenB (al1 w3 _) Aj) (al1 w4 (.cells #[qs,qi 0] 81));have Av:=hid (thenB Ae.out As);have CG:=hid (z0z Cm.out As);have L6:=hid (Pp.out.later As)
 obtain ⟨W5,hW5⟩:∃ W5,W5=w4.alloc (.cells #[qs,qi 0] 81):=⟨_,rfl⟩
 rw [← hW5] at Av CG L6;have Iz:=hid hW5
 have JO:=hid (Mx.Run_any ca (some (qa W5.heap.size 0)) cc 1 (code.map insM) 5 [1] 9 999 (W5.alloc (.cells #[qi 1] 3)) (L6.out.later (al1 _ _)) (by rw [Ah];have:=HT.out.few;omega) HT.out.fit
  (Or.inr ⟨W5.heap.size,0,rfl,by simp,fun i hi=>by obtain rfl:i=0:=(by simpa using hi);rw [vef (heap_newP W5 (.cells #[qi 1] 3))];rfl⟩) (by decide) (by decide) (by decide))
 rw [Ah,HT.out.run] at JO;obtain ⟨q0,q1,qf⟩:=zd0 CG.out;have LA:=lt_of_heap CG.out;clear Aj As HL z0 z1 z2 z3 z4 z5 z6 Au DU Cm Pp hW5;go_upto_region 3 with fail;rw [← Iz.out];clear Iz;go_wp2_with fail;refine JO.out.mono ?_;rintro e w6 ⟨oa,oc,da,dc,rfl,DM,DL,AK, -, -, -⟩;have DM:zjh w6 oa [6,7]:=DM.at;have DL:zjh w6 da [6,0,6,0,0]:=DL.at;have AP:=thenB (thenB (al1 W5 _) AK) (al1 w6 (.cells #[qi 0,.slice oa 2 oc,.slice da 5 dc,qi 6] 51));have BB:=hid (thenB Av.out AP);have OW:=hid (z0z CG.out AP);have Po:=hid (L6.out.later AP);have OT:=hid (heap_newP w6 (.cells #[qi 0,.slice oa 2 oc,.slice da 5 dc,qi 6] 51));have N5:=hid (And.intro (DM.later (al1 w6 (.cells #[qi 0,.slice oa 2 oc,.slice da 5 dc,qi 6] 51))) (DL.later (al1 w6 (.cells #[qi 0,.slice oa 2 oc,.slice da 5 dc,qi 6] 51))));clear DM DL AK AP JO q0 q1 qf CG L6
 go_wp2_with fail;refine (HP.out _).mono ?_;rintro e w8 ⟨pc,rfl,hobs,AQ⟩;obtain ⟨R7,hos8⟩:=z4u hobs;have Bd:=hid (thenB BB.out AQ);have OV:=hid (z0z OW.out AQ);have Pn:=hid (Po.out.later AQ);have OS:=hid (z0z OT.out AQ);have N4:=hid (And.intro (N5.out.1.later AQ) (N5.out.2.later AQ));have HC:=hid (zkh [o1,o2] R7 (some pc) 2 w8 hos8:qc 43 #[.slice (some pc) 2 2] w8 _);rw [HT.out.ck] at HC;clear hobs hos8 AQ OW Po OT N5;go_wp2_with fail;refine HC.out.mono ?_;rintro e w9 ⟨rfl,BN⟩;have B7:=hid (thenB Bd.out BN);have ML:=hid (z0z OV.out BN);have Pm:=hid (Pn.out.later BN);have Hp:=hid (z0z OS.out BN);have IE:=hid (And.intro (N4.out.1.later BN) (N4.out.2.later BN));clear BN HC OV Pn OS N4;obtain ⟨q0,q1,qf⟩:=zd0 ML.out;obtain ⟨p0,p1,p2,p3,pf⟩:=zxn Hp.out;have Q5:=lt_of_heap ML.out
 have Qa:=lt_of_heap Hp.out;obtain ⟨x,y,AM⟩:=HT.out.c2;have Cb:2<code.length:=(vcd.1 AM).1;have Ov:code[0]=⟨13,22,0⟩:=(vcd.1 HT.out.c0).2;have ET:code[2]=⟨20,x,y⟩:=(vcd.1 AM).2
 rcases Pm.out with LF | ⟨cb,co,rfl,Dp,Bl⟩
 . have:code.length=0:=by rw [← Ah,LF];rfl
   omega
 have Om:=Bl 0 (by rw [Ah];omega);have Ol:=Bl 2 (by rw [Ah];omega);simp only [vdv,Ov,ET,insM] at Om Ol;obtain ⟨Ll,Lk,Lj⟩:=Om;obtain ⟨Li, -, -⟩:=Ol
 replace Ll:w9.cell? (qa cb co)=some (qi 13):=by simpa using Ll
 replace Lk:w9.cell? ⟨cb,co+1,none⟩=some (qi 22):=by simpa using Lk
 replace Lj:w9.cell? ⟨cb,co+2,none⟩=some (qi 0):=by simpa using Lj
 replace Li:w9.cell? ⟨cb,co+6,none⟩=some (qi 20):=by simpa using Li
 have Qk:((0:Nat):Int)<(code.length:Int):=by omega
 have Qj:((2:Nat):Int)<(code.length:Int):=by omega
 have Nt:=hid (thenB (al1 w9 (.cells #[qi 6,qi 7] 3)) (al1 _ (.cells #[qi 6,qi 0,qi 6,qi 0,qi 0] 3)));have Dl:zjh ((w9.alloc (.cells #[qi 6,qi 7] 3)).alloc (.cells #[qi 6,qi 0,qi 6,qi 0,qi 0] 3)) (some (qa w9.heap.size 0)) [6,7]:=(zx7 (l:=[6,7]) (heap_newP w9 (.cells #[qi 6,qi 7] 3))).later (al1 _ _)
 have E4:zjh ((w9.alloc (.cells #[qi 6,qi 7] 3)).alloc (.cells #[qi 6,qi 0,qi 6,qi 0,qi 0] 3)) (some ⟨w9.heap.size+1,0,none⟩) [6,0,6,0,0]:=zx7 (l:=[6,0,6,0,0]) (by
  have:=heap_newP (w9.alloc (.cells #[qi 6,qi 7] 3)) (.cells #[qi 6,qi 0,qi 6,qi 0,qi 0] 3);rw [vcm] at this
  exact this)
 have Rt:=hid (zji 0 6 oa (some (qa w9.heap.size 0)) da (some ⟨w9.heap.size+1,0,none⟩) oc 2 dc 5 [6,7] [6,0,6,0,0] _ (IE.out.1.later Nt.out) Dl (IE.out.2.later Nt.out) E4 (by decide) (by decide));clear Dl E4 Bl AM Ov ET ML Pm Hp IE;go_wp2_with fail;refine Rt.out.mono ?_;rintro e Di ⟨rfl,hb10⟩;have Fi:=hid (thenB B7.out (thenB Nt.out hb10));clear hb10 p0 p1 p2 p3 pf q0 q1 qf Ll Lk Lj Li;go_wp2_with fail
 go_returns
 exact ⟨rfl,Fi.out⟩
theorem z68:TwoOk zrg zpk zd1 (Mx.ansR (zd1.map insM) 5 [1] 9 999).steps where
 lk:=z4v
 ck:=z4w
 top:=z4x
 c0:=z8u
 c2 :=by
  have h:=z8v
  cases e:zd1[2]? with
  | none=>rw [e] at h;cases h
  | some i=>
    rw [e] at h;obtain ⟨op,x,y⟩:=i;have:op=20:=vab h;exact ⟨x,y,by rw [this]⟩
 few:=z4y.1
 run:=z4z
 fit:=fun i hi=>by
  obtain ⟨g,hg,rfl⟩:=vch.1 hi;have:=vas.1 z40 g hg;simp only [vac,decide_eq_true_eq] at this;exact ⟨(⟨by omega,by omega⟩:Mx.fit64 g.a),(⟨by omega,by omega⟩:Mx.fit64 g.b)⟩
theorem zoh (w:World):qc 42 #[] w fun e w'=>e = .returned (.bool true)/\qb w w':=
 zog zrg zpk zd1 _ z68 ztm w
set_option maxHeartbeats 6400000
theorem zm1:∀ (l:List Gi) (k:Nat) (x:Int),(l.modify k (zxd x)).map Gi.op=l.map Gi.op
 | [],k,x=>by simp
 | i :: r,0,x=>by simp [zxd]
 | i :: r,k+1,x=>by simp [zm1 r k x]
theorem zsi (l:List Ob) (o:Ob):∀ j,(fxL l o j).map Gi.op=o.code.map Gi.op
 | 0=>rfl
 | j+1=>by
   rw [fxL];split
   . rw [zm1];exact zsi l o j
   . exact zsi l o j
def z6p (c:List Gi):Prop:=∀ x ∈ c.map Gi.op,1<=x/\x<=22
theorem zg6 {a b:List Gi} (ha:z6p a) (hb:z6p b):z6p (a++b):=fun x hx=>by
 rw [vbr] at hx
 rcases vbs.1 hx with h | h
 . exact ha x h
 . exact hb x h
theorem z69 {o:Ob} (h:oChk o=0):z6p o.code:=fun x hx=>by
 obtain ⟨_,_,hc,_⟩:=zii h;unfold zfj at hc;simp only [vac] at hc;obtain ⟨i,hi,rfl⟩:=vch.1 hx;obtain ⟨j,hj,rfl⟩:=vbl hi;have:=zba.1 hc.1 j hj;unfold z6r at this;rw [vae hj] at this;exact of_decide_eq_true this
theorem zp9 (l:List Ob):∀ j,j<=l.length->z6p (zep l j)
 | 0,_=>fun x hx=>by simp [zep] at hx
 | j+1,h=>by
   rw [zkd];refine zg6 (zp9 l j (by omega)) (fun x hx=>?_);rw [z3w (by omega:j<l.length)] at hx
   have hx:x=13:=by simpa using hx
   omega
theorem zqa {l:List Ob} (h:∀ o ∈ l,oChk o=0):∀ j,j<=l.length->z6p (codeL l j)
 | 0,_=>by
   have e:codeL l 0=zep l l.length++[⟨20,0,0⟩]:=by simp [codeL]
   rw [e];refine zg6 (zp9 l l.length (vaa _)) (fun x hx=>?_)
   have hx:x=20:=by simpa using hx
   omega
 | j+1,hj=>by
   rw [zik l (by omega:j<l.length)];refine zg6 (zqa h j (by omega)) (fun x hx=>?_);rw [zsi] at hx;exact z69 (h _ (vaj (by omega))) x hx
theorem zx8 {l:List Ob} {c:List Gi} {d:Int} (h:zxs l = .ok (c,d)):Mx.checkI (c.map insM) d=0/\(c.length:Int)=l.length+1+cdL l/\c.length<=2048/\z6n l:=by
 unfold zxs at h
 split at h
 . cases h
 . rename_i h1
   obtain ⟨k1,k2,k3,k4,k5,k6⟩:=zuc (by simpa using h1:lnChk l=0)
   split at h
   . cases h
   . rename_i h2
     injection h with h
     injection h with hc hd
     subst hc hd;have hl:=zki l l.length (vaa _);rw [vau] at hl;have hn:=zr3 k2 k3;have hf:=zf0 hn l.length (vaa _);rw [vau] at hf;refine ⟨?_,hl,by omega,hn⟩;unfold Mx.checkI;rw [if_neg (by rw [vcp];omega),if_pos,if_neg (by omega)];rw [vas];intro x hx;obtain ⟨g,hg,rfl⟩:=vch.1 hx;have:=zqa k3 l.length (vaa _) g.op (vch.2 ⟨g,hg,rfl⟩);show (decide (1<=g.op)&&decide (g.op<=22))=true;simp only [vac,decide_eq_true_eq];exact this
theorem zoi (OD:∀ w,qc 42 #[] w fun e w'=>e = .returned (.bool true)/\qb w w') (l:List Ob) (a:OA) (cap:Nat) (w:World) (hO:zlp w a l) :
 qc 13 #[.slice a l.length cap] w fun e w'=>e = .returned (.bool true)/\qb w w':=by
 have BH:=hO.1.bound;obtain ⟨ev,hos⟩:=z4u hO;have Ry:=hid hos;have HS:=hid OD;have HC:=hid (zod l ev a cap w hos);clear hO hos OD
 obtain ⟨r,hr⟩:∃ r,r=zxs l:=⟨_,rfl⟩
 rw [← hr] at HC;have HR:=hid hr;clear hr;go_enter Tryz.func13,Tryz.ntmps13;go_wp2_with fail;refine HC.out.mono ?_;rintro e w1 ⟨Ai,A6⟩;have A7:=hid A6;have An:=A6.size;clear HC A6
 cases r with
 | error c=>
   obtain ⟨rfl,hc⟩:e = .returned (.tuple #[.agg #[qs,qi 0],qi c])/\c≠0:=Ai;go_wp2_with fail;refine (HS.out _).mono ?_;rintro e w2 ⟨rfl,Ab⟩;have Af:=hid (thenB A7.out (thenB (al1 w1 _) Ab));clear Ab;go_wp2_with fail;go_ret;exact ⟨rfl,Af.out⟩
 | ok p=>
   obtain ⟨code,d⟩:=p;obtain ⟨v,rfl,Aa⟩:∃ v,e = .returned (.tuple #[.agg #[v,qi d],qi 0])/\w1.ownsRow w.heap.size 69 3 v code.length (zen code):=Ai;obtain ⟨ca,cc,rfl, -, -⟩:=zal Aa;have Kd:=hid (z3z Aa);obtain ⟨Gl,Dp,Hd,hN⟩:=zx8 HR.out.symm;have I7:=hid Gl;have HN:=hid hN;have EN:=hN.1
   have GS:(code.map insM).length=code.length:=by simp
   obtain ⟨W1,hW1⟩:∃ W,W=w1.alloc (.cells #[.slice ca code.length cc,qi d] 81):=⟨_,rfl⟩
   have Et:qb w1 W1:=by rw [hW1];exact al1 _ _
   have HX:=hid (show W1.heap[w1.heap.size]? = some (.cells #[.slice ca code.length cc,qi d] 81) by rw [hW1];exact heap_newP _ _);have HW:=hid hW1;have La:=hid (thenB A7.out Et);have RP:=hid (Kd.out.later Et);have Ey:=hid Dp;clear Aa Gl hN Et hW1 Kd Dp;go_upto_region 4 with fail;rw [← HW.out];clear HW;go_wp2_with fail
   go_loopw [5,6] (fun n i wr=>∃ j:Nat,j<=l.length/\i=qi j/\n=qi ((l.length:Int)+1+cdL (l.take j))/\qb W1 wr) (fun _ i _=>l.length - (intOf i).toNat)
   case atStart=>exact ⟨0,vag _,rfl,by simp [cdL],Below.refl _ _⟩
   case round=>
    obtain ⟨j,hj,rfl,rfl,hb⟩:=hrel;have HB:=hid hb
    have Bv:=(zf0 HN.out j hj)
    by_cases A4:j<l.length
    . obtain ⟨b,off,x1,y1,x3,y3,x4,y4,x5,y5,rfl,C4,c0,c1,c2,c3,c4,c5,c6, -, -, -⟩:=(Ry.out.later (thenB La.out hb)).get j A4
      have Dq:=HN.out.2 l[j] (vaj A4);have Hc:=Dq.1;have H9:=Dq.2.1;have MP:=hid (zjr A4);generalize cdL (l.take j)=cd at *;have CK:IntKind.i64.wrap ((l.length:Int)+1+cd+(l[j].code.length:Int))=(l.length:Int)+1+cd+(l[j].code.length:Int):=z4l (by omega) (by omega);clear c0 c1 c2 c4 c5 c6 Dq hb;go_wp2_with fail;go_roundw
      case rel=>exact ⟨j+1,by omega,by go_num,by rw [MP.out,Int.add_assoc ((l.length:Int)+1)],HB.out⟩
      case measure=>simp [intOf];omega
    . obtain rfl:j=l.length:=by omega
      rw [vau] at *;have OU:=hid (z0z HX.out hb);have Pk:=hid (RP.out.later hb);have CW:=hid (thenB La.out hb)
      have Eq:((code.length:Int) == (l.length:Int)+1+cdL l)=true:=by rw [Ey.out];exact beq_self_eq_true _
      clear hb;go_wp2_with fail;refine (HS.out _).mono ?_;rintro e w2 ⟨rfl,Ab⟩;have D0:=hid (z0z OU.out Ab);have Af:=hid (thenB CW.out Ab);have Bn:=hid (Mx.Check_any ca cc (code.map insM) d w2 (Pk.out.later Ab) (by rw [GS];omega));rw [GS,I7.out] at Bn;obtain ⟨q0,q1,qf⟩:=zd0 D0.out;have LA:=lt_of_heap D0.out;clear Ab OU Pk;go_wp2_with fail;refine Bn.out.mono ?_;rintro e w3 ⟨rfl,A9⟩;have Ae:=hid (thenB Af.out A9);have Cm:=hid (z0z D0.out A9);clear q0 q1 qf LA A9;obtain ⟨q0,q1,qf⟩:=zd0 Cm.out;have LA:=lt_of_heap Cm.out;generalize cdL l=cd at *;go_wp2_with fail
      go_returns
      exact ⟨rfl,Ae.out⟩
end Go.Proofs.YtndkhgakfodldaaGreatDoor
