import Derived.Test.YtndkhgakfodldaaGreatDoorLe
import Derived.Test.YtndkhgakfodldaaGreatDoorId
import Derived.Test.YtndkhgakfodldaaGreatDoorMxStp
namespace Go.Proofs.YtndkhgakfodldaaGreatDoor
set_option maxRecDepth 100000
open Go.RowKit Go.Maps Go.Sort Go.WideMaps
set_option linter.unusedSimpArgs false
set_option linter.unusedVariables false
theorem z4u {w:World} {a:OA} {l:List Ob} (h:zlp w a l):∃ ev,OsAt w a l ev:=by
 have hq:∀ i:Nat,∃ v:Value,∀ hi:i<l.length,∃ b off x1 y1 x3 y3 x4 y4 x5 y5,a=some ⟨b,off,none⟩/\b<w.heap.size/\w.cell? ⟨b,off+i*7,none⟩=some (.string l[i].name)/\w.cell? ⟨b,off+i*7+1,none⟩=some (.slice x1 l[i].uses.length y1)/\w.cell? ⟨b,off+i*7+2,none⟩=some (.int .i64 l[i].data)/\w.cell? ⟨b,off+i*7+3,none⟩=some (.slice x3 l[i].code.length y3)/\w.cell? ⟨b,off+i*7+4,none⟩=some (.slice x4 l[i].fixes.length y4)/\w.cell? ⟨b,off+i*7+5,none⟩=some (.slice x5 l[i].entries.length y5)/\w.cell? ⟨b,off+i*7+6,none⟩=some (.int .i64 l[i].main)/\OvAt w l[i] x1 x3 x4 x5/\l[i].uses.length<=y1/\v = .slice x5 l[i].entries.length y5:=fun i=>by
  by_cases hi:i<l.length
  . obtain ⟨b,off,x1,y1,x3,y3,x4,y4,x5,y5,ha,hO,hc⟩:=h.ob i hi
    exact ⟨.slice x5 l[i].entries.length y5,fun _=>⟨b,off,x1,y1,x3,y3,x4,y4,x5,y5,ha,hO.lt,hO.c0,hO.c1,hO.c2,hO.c3,hO.c4,hO.c5,hO.c6,hO.ov,hc,rfl⟩⟩
  . exact ⟨.bool false,fun h=>absurd h hi⟩
 obtain ⟨ev,hev⟩:=Classical.axiomOfChoice hq;exact ⟨ev,h.1.bound,fun i hi=>hev i hi⟩
def insM (i:Gi):Mx.Mc.Ins:=⟨i.op,i.a,i.b⟩
def zd1:List Gi:=match zxs [zri,zpl] with | .ok (c,_)=>c | .error _=>[]
theorem z4v:zxs [zri,zpl] = .ok (zd1,5):=by kernel_rfl
theorem z4w:lnChk [zri,zpl]=0:=by kernel_rfl
theorem z4x:zxs [zpl] = .error 9:=by kernel_rfl
theorem z8u:zd1[0]? = some ⟨13,22,0⟩:=by kernel_rfl
theorem z8v:(zd1[2]?).map Gi.op=some 20:=by kernel_rfl
theorem z4y:zd1.length<=2048/\3<=zd1.length:=⟨Nat.le_of_ble_eq_true (by kernel_rfl),Nat.le_of_ble_eq_true (by kernel_rfl)⟩
theorem z4z:Mx.ansR (zd1.map insM) 5 [1] 9 999=⟨0,[6,7],[6,0,6,0,0],6,(Mx.ansR (zd1.map insM) 5 [1] 9 999).steps,0⟩:=by kernel_rfl
theorem z40:zd1.all (fun g=>(decide (-1000000000<=g.a)&&decide (g.a<=1099511627775))&&(decide (-1000000000<=g.b)&&decide (g.b<=1099511627775)))=true:=by kernel_rfl
set_option maxHeartbeats 12800000
theorem z0z {w w':World} {b:Nat} {x:Obj} (h:w.heap[b]? = some x) (hb:Below w.heap.size w w'):w'.heap[b]? = some x:=(hb.block b (lt_of_heap h)).trans h
theorem zx7 {w:World} {b:Nat} {l:List Int} (h:w.heap[b]? = some (.cells (l.map (Value.int .i64)).toArray 3)):zjh w (some ⟨b,0,none⟩) l:=Or.inr ⟨b,0,rfl,lt_of_heap h,fun i hi=>by
 rw [vef h,vba]
 simp [hi]⟩
theorem z3z {w:World} {B:Nat} {a:OA} {cap:Nat} {c:List Gi} (h:w.ownsRow B 69 3 (.slice a c.length cap) c.length (zen c)):Mx.ImgAt w a (c.map insM):=by
 by_cases hn:c.length=0
 . exact Or.inl (by rw [vak hn];rfl)
 . obtain ⟨g,cap',e,_,hg⟩:=zkf h (by omega)
   obtain ⟨b,off,ha,hc⟩:=zkj h hn
   injection e with e1 _ _
   rw [e1] at ha
   injection ha with ha
   injection ha with hb ho _
   refine Or.inr ⟨g,0,e1,hg,fun i hi=>?_⟩
   have hi':i<c.length:=by simpa using hi
   obtain ⟨q0,q1,q2⟩:=hc i hi';subst hb ho;simp only [vdv];exact ⟨q0,q1,q2⟩
theorem z67 {w:World} {o:Ob} {x1:OA} {y1:Nat} {x3:OA} {y3:Nat} {x4:OA} {y4:Nat} {x5:OA} {y5:Nat} (h:OvAt w o x1 x3 x4 x5) (hc:o.uses.length<=y1) :
 OsAt (w.alloc (obC o x1 y1 x3 y3 x4 y4 x5 y5)) (some ⟨w.heap.size,0,none⟩) [o] (fun _=>.slice x5 o.entries.length y5):=by
 have hb:=heap_newP w (obC o x1 y1 x3 y3 x4 y4 x5 y5);obtain ⟨c0,c1,c2,c3,c4,c5,c6,_⟩:=zao hb;refine ⟨by simp,fun i hi=>?_⟩
 obtain rfl:i=0:=by simpa using hi
 exact ⟨w.heap.size,0,x1,y1,x3,y3,x4,y4,x5,y5,rfl,lt_of_heap hb,c0,c1,c2,c3,c4,c5,c6,h.later (al1 _ _),hc,rfl⟩
structure TwoOk (o1 o2:Ob) (code:List Gi) (steps:Int):Prop where
 lk:zxs [o1,o2] = .ok (code,5)
 ck:lnChk [o1,o2]=0
 top:zxs [o2] = .error 9
 c0:code[0]? = some ⟨13,22,0⟩
 c2:∃ x y,code[2]? = some ⟨20,x,y⟩
 few:code.length<=2048
 run:Mx.ansR (code.map insM) 5 [1] 9 999=⟨0,[6,7],[6,0,6,0,0],6,steps,0⟩
 fit:∀ i ∈ code.map insM,Mx.InsFit i
theorem zog (o1 o2:Ob) (code:List Gi) (steps:Int) (hT:TwoOk o1 o2 code steps)
 (hP:∀ w,Calls Tryz.prog 85 #[] w fun e w'=>∃ a,e = .returned (.slice (some a) 2 2)/\zlp w' (some a) [o1,o2]/\Below w.heap.size w w') (w:World) :
 Calls Tryz.prog 42 #[] w fun e w'=>e = .returned (.bool true)/\Below w.heap.size w w':=by
 have HT:=hid hT;have HP:=hid hP;clear hT hP;go_enter Tryz.func42,Tryz.ntmps42;go_wp2_with fail;refine (HP.out _).mono ?_;rintro e w1 ⟨pa,rfl,hobs,hb1⟩;have HB1:=hid hb1;obtain ⟨ev1,hos1⟩:=z4u hobs;have HL:=hid (zod [o1,o2] ev1 (some pa) 2 w1 hos1:Calls Tryz.prog 40 #[.slice (some pa) 2 2] w1 _);clear hobs hos1 hb1;go_wp2_with fail;refine HL.out.mono ?_;rintro e w2 ⟨hend,hb2⟩;rw [HT.out.lk] at hend;obtain ⟨v,rfl,hrow⟩:∃ v,e = .returned (.tuple #[.agg #[v,.int .i64 5],.int .i64 0])/\w2.ownsRow w1.heap.size 69 3 v code.length (zen code):=hend;obtain ⟨ca,cc,rfl, -, -⟩:=zal hrow;have HIm:=hid (z3z hrow);have HB2:=hid (thenB HB1.out hb2)
 have hl0:0<code.length:=by have:=HT.out.c0;exact (vcd.1 this).1
 have HX2:=hid (heap_newP w2 (.cells #[.slice ca code.length cc,.int .i64 5] 81));have HBa:=hid (thenB HB2.out (al1 w2 (.cells #[.slice ca code.length cc,.int .i64 5] 81)))
 have hlen:(code.map insM).length=code.length:=by simp
 clear hrow hb2 HL;go_wp2_with fail;refine (HP.out _).mono ?_;rintro e w3 ⟨pb,rfl,hobs,hb3⟩;have HB3:=hid (thenB HBa.out hb3);have HX3:=hid (z0z HX2.out hb3);have HI3:=hid (HIm.out.later (thenB (al1 w2 _) hb3));obtain ⟨b,off,x1,y1,x3,y3,x4,y4,x5,y5,hpb,hO,hcp⟩:=hobs.ob 1 (by simp);have hpb:pb=⟨b,off,none⟩:=vab hpb;subst hpb;have hbl:=hO.lt;obtain ⟨-,z0,z1,z2,z3,z4,z5,z6,hov⟩:=hO;have hcp:o2.uses.length<=y1:=hcp;have hov:OvAt w3 o2 x1 x3 x4 x5:=hov
 replace z0:w3.cell? ⟨b,off+7,none⟩=some (.string o2.name):=by simpa using z0
 replace z1:w3.cell? ⟨b,off+7+1,none⟩=some (.slice x1 o2.uses.length y1):=by simpa using z1
 replace z2:w3.cell? ⟨b,off+7+2,none⟩=some (.int .i64 o2.data):=by simpa using z2
 replace z3:w3.cell? ⟨b,off+7+3,none⟩=some (.slice x3 o2.code.length y3):=by simpa using z3
 replace z4:w3.cell? ⟨b,off+7+4,none⟩=some (.slice x4 o2.fixes.length y4):=by simpa using z4
 replace z5:w3.cell? ⟨b,off+7+5,none⟩=some (.slice x5 o2.entries.length y5):=by simpa using z5
 replace z6:w3.cell? ⟨b,off+7+6,none⟩=some (.int .i64 o2.main):=by simpa using z6
 have HL:=hid (zod [o2] _ (some ⟨w3.heap.size,0,none⟩) 1 _ (z67 (y3:=y3) (y4:=y4) (y5:=y5) hov hcp):Calls Tryz.prog 40 #[.slice (some ⟨w3.heap.size,0,none⟩) 1 1] (w3.alloc (obC o2 x1 y1 x3 y3 x4 y4 x5 y5)) _);clear hobs hb3 hov HX2 HIm;go_wp2_with fail;refine HL.out.mono ?_;rintro e w4 ⟨hend,hb4⟩;rw [HT.out.top] at hend;obtain ⟨rfl, -⟩:e = .returned (.tuple #[.agg #[.slice none 0 0,.int .i64 0],.int .i64 9])/\(9:Int)≠0:=hend;have hb5:=thenB (thenB (al1 w3 _) hb4) (al1 w4 (.cells #[.slice none 0 0,.int .i64 0] 81));have HB5:=hid (thenB HB3.out hb5);have HX5:=hid (z0z HX3.out hb5);have HI5:=hid (HI3.out.later hb5)
 obtain ⟨W5,hW5⟩:∃ W5,W5=w4.alloc (.cells #[.slice none 0 0,.int .i64 0] 81):=⟨_,rfl⟩
 rw [← hW5] at HB5 HX5 HI5;have HW5:=hid hW5
 have HRn:=hid (Mx.Run_any ca (some ⟨W5.heap.size,0,none⟩) cc 1 (code.map insM) 5 [1] 9 999 (W5.alloc (.cells #[.int .i64 1] 3)) (HI5.out.later (al1 _ _)) (by rw [hlen];have:=HT.out.few;omega) HT.out.fit
  (Or.inr ⟨W5.heap.size,0,rfl,by simp,fun i hi=>by obtain rfl:i=0:=(by simpa using hi);rw [vef (heap_newP W5 (.cells #[.int .i64 1] 3))];rfl⟩) (by decide) (by decide) (by decide))
 rw [hlen,HT.out.run] at HRn;obtain ⟨q0,q1,qf⟩:=zd0 HX5.out;have hql:=lt_of_heap HX5.out;clear hb4 hb5 HL z0 z1 z2 z3 z4 z5 z6 hbl hcp HX3 HI3 hW5;go_upto_region 3 with fail;rw [← HW5.out];clear HW5;go_wp2_with fail;refine HRn.out.mono ?_;rintro e w6 ⟨oa,oc,da,dc,rfl,hn1,hn2,hb6, -, -, -⟩;have hn1:zjh w6 oa [6,7]:=hn1.at;have hn2:zjh w6 da [6,0,6,0,0]:=hn2.at;have hb7:=thenB (thenB (al1 W5 _) hb6) (al1 w6 (.cells #[.int .i64 0,.slice oa 2 oc,.slice da 5 dc,.int .i64 6] 51));have HB7:=hid (thenB HB5.out hb7);have HX7:=hid (z0z HX5.out hb7);have HI7:=hid (HI5.out.later hb7);have HY7:=hid (heap_newP w6 (.cells #[.int .i64 0,.slice oa 2 oc,.slice da 5 dc,.int .i64 6] 51));have HN7:=hid (And.intro (hn1.later (al1 w6 (.cells #[.int .i64 0,.slice oa 2 oc,.slice da 5 dc,.int .i64 6] 51))) (hn2.later (al1 w6 (.cells #[.int .i64 0,.slice oa 2 oc,.slice da 5 dc,.int .i64 6] 51))))
 clear hn1 hn2 hb6 hb7 HRn q0 q1 qf HX5 HI5;go_wp2_with fail;refine (HP.out _).mono ?_;rintro e w8 ⟨pc,rfl,hobs,hb8⟩;obtain ⟨ev8,hos8⟩:=z4u hobs;have HB8:=hid (thenB HB7.out hb8);have HX8:=hid (z0z HX7.out hb8);have HI8:=hid (HI7.out.later hb8);have HY8:=hid (z0z HY7.out hb8);have HN8:=hid (And.intro (HN7.out.1.later hb8) (HN7.out.2.later hb8));have HC:=hid (zkh [o1,o2] ev8 (some pc) 2 w8 hos8:Calls Tryz.prog 43 #[.slice (some pc) 2 2] w8 _);rw [HT.out.ck] at HC;clear hobs hos8 hb8 HX7 HI7 HY7 HN7;go_wp2_with fail;refine HC.out.mono ?_;rintro e w9 ⟨rfl,hb9⟩;have HB9:=hid (thenB HB8.out hb9);have HX9:=hid (z0z HX8.out hb9);have HI9:=hid (HI8.out.later hb9);have HY9:=hid (z0z HY8.out hb9);have HN9:=hid (And.intro (HN8.out.1.later hb9) (HN8.out.2.later hb9));clear hb9 HC HX8 HI8 HY8 HN8;obtain ⟨q0,q1,qf⟩:=zd0 HX9.out;obtain ⟨p0,p1,p2,p3,pf⟩:=zxn HY9.out
 have hql9:=lt_of_heap HX9.out;have hpl9:=lt_of_heap HY9.out;obtain ⟨x,y,hx2⟩:=HT.out.c2;have hl2:2<code.length:=(vcd.1 hx2).1;have he0:code[0]=⟨13,22,0⟩:=(vcd.1 HT.out.c0).2;have he2:code[2]=⟨20,x,y⟩:=(vcd.1 hx2).2
 rcases HI9.out with hnil | ⟨cb,co,rfl,hcl,hcs⟩
 . have:code.length=0:=by rw [← hlen,hnil];rfl
   omega
 have hi0:=hcs 0 (by rw [hlen];omega);have hi2:=hcs 2 (by rw [hlen];omega);simp only [vdv,he0,he2,insM] at hi0 hi2;obtain ⟨i00,i01,i02⟩:=hi0;obtain ⟨i20, -, -⟩:=hi2
 replace i00:w9.cell? ⟨cb,co,none⟩=some (.int .i64 13):=by simpa using i00
 replace i01:w9.cell? ⟨cb,co+1,none⟩=some (.int .i64 22):=by simpa using i01
 replace i02:w9.cell? ⟨cb,co+2,none⟩=some (.int .i64 0):=by simpa using i02
 replace i20:w9.cell? ⟨cb,co+6,none⟩=some (.int .i64 20):=by simpa using i20
 have hli0:((0:Nat):Int)<(code.length:Int):=by omega
 have hli2:((2:Nat):Int)<(code.length:Int):=by omega
 have HBt:=hid (thenB (al1 w9 (.cells #[.int .i64 6,.int .i64 7] 3)) (al1 _ (.cells #[.int .i64 6,.int .i64 0,.int .i64 6,.int .i64 0,.int .i64 0] 3)));have hq1:zjh ((w9.alloc (.cells #[.int .i64 6,.int .i64 7] 3)).alloc (.cells #[.int .i64 6,.int .i64 0,.int .i64 6,.int .i64 0,.int .i64 0] 3)) (some ⟨w9.heap.size,0,none⟩) [6,7]:=(zx7 (l:=[6,7]) (heap_newP w9 (.cells #[.int .i64 6,.int .i64 7] 3))).later (al1 _ _)
 have hq2:zjh ((w9.alloc (.cells #[.int .i64 6,.int .i64 7] 3)).alloc (.cells #[.int .i64 6,.int .i64 0,.int .i64 6,.int .i64 0,.int .i64 0] 3)) (some ⟨w9.heap.size+1,0,none⟩) [6,0,6,0,0]:=zx7 (l:=[6,0,6,0,0]) (by
  have:=heap_newP (w9.alloc (.cells #[.int .i64 6,.int .i64 7] 3)) (.cells #[.int .i64 6,.int .i64 0,.int .i64 6,.int .i64 0,.int .i64 0] 3);rw [vcm] at this
  exact this)
 have HSr:=hid (zji 0 6 oa (some ⟨w9.heap.size,0,none⟩) da (some ⟨w9.heap.size+1,0,none⟩) oc 2 dc 5 [6,7] [6,0,6,0,0] _ (HN9.out.1.later HBt.out) hq1 (HN9.out.2.later HBt.out) hq2 (by decide) (by decide));clear hq1 hq2 hcs hx2 he0 he2 HX9 HI9 HY9 HN9;go_wp2_with fail;refine HSr.out.mono ?_;rintro e w10 ⟨rfl,hb10⟩;have HB10:=hid (thenB HB9.out (thenB HBt.out hb10));clear hb10 p0 p1 p2 p3 pf q0 q1 qf i00 i01 i02 i20;go_wp2_with fail
 go_returns
 exact ⟨rfl,HB10.out⟩
theorem z68:TwoOk zri zpl zd1 (Mx.ansR (zd1.map insM) 5 [1] 9 999).steps where
 lk:=z4v
 ck:=z4w
 top:=z4x
 c0:=z8u
 c2 :=by
  have h:=z8v
  cases e:zd1[2]? with
  | none=>rw [e] at h;cases h
  | some i=>
    rw [e] at h;obtain ⟨op,x,y⟩:=i;have:op=20:=vab h;exact ⟨x,y,by rw [this]⟩
 few:=z4y.1
 run:=z4z
 fit:=fun i hi=>by
  obtain ⟨g,hg,rfl⟩:=vch.1 hi;have:=vas.1 z40 g hg;simp only [vac,decide_eq_true_eq] at this;exact ⟨(⟨by omega,by omega⟩:Mx.fit64 g.a),(⟨by omega,by omega⟩:Mx.fit64 g.b)⟩
theorem zoh (w:World):Calls Tryz.prog 42 #[] w fun e w'=>e = .returned (.bool true)/\Below w.heap.size w w':=
 zog zri zpl zd1 _ z68 ztn w
set_option maxHeartbeats 6400000
theorem zm1:∀ (l:List Gi) (k:Nat) (x:Int),(l.modify k (zxe x)).map Gi.op=l.map Gi.op
 | [],k,x=>by simp
 | i :: r,0,x=>by simp [zxe]
 | i :: r,k+1,x=>by simp [zm1 r k x]
theorem zsi (l:List Ob) (o:Ob):∀ j,(fxL l o j).map Gi.op=o.code.map Gi.op
 | 0=>rfl
 | j+1=>by
   rw [fxL];split
   . rw [zm1];exact zsi l o j
   . exact zsi l o j
def z6p (c:List Gi):Prop:=∀ x ∈ c.map Gi.op,1<=x/\x<=22
theorem zg6 {a b:List Gi} (ha:z6p a) (hb:z6p b):z6p (a++b):=fun x hx=>by
 rw [vbr] at hx
 rcases vbs.1 hx with h | h
 . exact ha x h
 . exact hb x h
theorem z69 {o:Ob} (h:oChk o=0):z6p o.code:=fun x hx=>by
 obtain ⟨_,_,hc,_⟩:=zii h;unfold zfj at hc;simp only [vac] at hc;obtain ⟨i,hi,rfl⟩:=vch.1 hx;obtain ⟨j,hj,rfl⟩:=vbl hi;have:=zba.1 hc.1 j hj;unfold z6r at this;rw [vae hj] at this;exact of_decide_eq_true this
theorem zp9 (l:List Ob):∀ j,j<=l.length->z6p (zep l j)
 | 0,_=>fun x hx=>by simp [zep] at hx
 | j+1,h=>by
   rw [zkd];refine zg6 (zp9 l j (by omega)) (fun x hx=>?_);rw [z3w (by omega:j<l.length)] at hx
   have hx:x=13:=by simpa using hx
   omega
theorem zqa {l:List Ob} (h:∀ o ∈ l,oChk o=0):∀ j,j<=l.length->z6p (codeL l j)
 | 0,_=>by
   have e:codeL l 0=zep l l.length++[⟨20,0,0⟩]:=by simp [codeL]
   rw [e];refine zg6 (zp9 l l.length (vaa _)) (fun x hx=>?_)
   have hx:x=20:=by simpa using hx
   omega
 | j+1,hj=>by
   rw [zik l (by omega:j<l.length)];refine zg6 (zqa h j (by omega)) (fun x hx=>?_);rw [zsi] at hx;exact z69 (h _ (vaj (by omega))) x hx
theorem zx8 {l:List Ob} {c:List Gi} {d:Int} (h:zxs l = .ok (c,d)):Mx.checkI (c.map insM) d=0/\(c.length:Int)=l.length+1+cdL l/\c.length<=2048/\z6n l:=by
 unfold zxs at h
 split at h
 . cases h
 . rename_i h1
   obtain ⟨k1,k2,k3,k4,k5,k6⟩:=zuc (by simpa using h1:lnChk l=0)
   split at h
   . cases h
   . rename_i h2
     injection h with h
     injection h with hc hd
     subst hc hd;have hl:=zki l l.length (vaa _);rw [vau] at hl;have hn:=zr3 k2 k3;have hf:=zf0 hn l.length (vaa _);rw [vau] at hf;refine ⟨?_,hl,by omega,hn⟩;unfold Mx.checkI;rw [if_neg (by rw [vcp];omega),if_pos,if_neg (by omega)];rw [vas];intro x hx;obtain ⟨g,hg,rfl⟩:=vch.1 hx;have:=zqa k3 l.length (vaa _) g.op (vch.2 ⟨g,hg,rfl⟩);show (decide (1<=g.op)&&decide (g.op<=22))=true;simp only [vac,decide_eq_true_eq];exact this
theorem zoi (hLB:∀ w,Calls Tryz.prog 42 #[] w fun e w'=>e = .returned (.bool true)/\Below w.heap.size w w') (l:List Ob) (a:OA) (cap:Nat) (w:World) (hO:zlp w a l) :
 Calls Tryz.prog 13 #[.slice a l.length cap] w fun e w'=>e = .returned (.bool true)/\Below w.heap.size w w':=by
 have hbd:=hO.1.bound;obtain ⟨ev,hos⟩:=z4u hO;have HOs:=hid hos;have HS:=hid hLB;have HC:=hid (zod l ev a cap w hos);clear hO hos hLB
 obtain ⟨r,hr⟩:∃ r,r=zxs l:=⟨_,rfl⟩
 rw [← hr] at HC;have HR:=hid hr;clear hr;go_enter Tryz.func13,Tryz.ntmps13;go_wp2_with fail;refine HC.out.mono ?_;rintro e w1 ⟨hend,hb1⟩;have HB1:=hid hb1;have hz1:=hb1.size;clear HC hb1
 cases r with
 | error c=>
   obtain ⟨rfl,hc⟩:e = .returned (.tuple #[.agg #[.slice none 0 0,.int .i64 0],.int .i64 c])/\c≠0:=hend;go_wp2_with fail;refine (HS.out _).mono ?_;rintro e w2 ⟨rfl,hb2⟩;have HB2:=hid (thenB HB1.out (thenB (al1 w1 _) hb2));clear hb2;go_wp2_with fail;go_ret;exact ⟨rfl,HB2.out⟩
 | ok p=>
   obtain ⟨code,d⟩:=p;obtain ⟨v,rfl,hrow⟩:∃ v,e = .returned (.tuple #[.agg #[v,.int .i64 d],.int .i64 0])/\w1.ownsRow w.heap.size 69 3 v code.length (zen code):=hend;obtain ⟨ca,cc,rfl, -, -⟩:=zal hrow;have HIm:=hid (z3z hrow);obtain ⟨hck,hcl,hc8,hN⟩:=zx8 HR.out.symm;have HCk:=hid hck;have HN:=hid hN;have hl4:=hN.1
   have hlm:(code.map insM).length=code.length:=by simp
   obtain ⟨W1,hW1⟩:∃ W,W=w1.alloc (.cells #[.slice ca code.length cc,.int .i64 d] 81):=⟨_,rfl⟩
   have hbW:Below w1.heap.size w1 W1:=by rw [hW1];exact al1 _ _
   have HX:=hid (show W1.heap[w1.heap.size]? = some (.cells #[.slice ca code.length cc,.int .i64 d] 81) by rw [hW1];exact heap_newP _ _);have HW:=hid hW1;have HBW:=hid (thenB HB1.out hbW);have HI1:=hid (HIm.out.later hbW);have HCl:=hid hcl;clear hrow hck hN hbW hW1 HIm hcl;go_upto_region 4 with fail;rw [← HW.out];clear HW;go_wp2_with fail
   go_loopw [5,6] (fun n i wr=>∃ j:Nat,j<=l.length/\i = .int .i64 j/\n = .int .i64 ((l.length:Int)+1+cdL (l.take j))/\Below W1.heap.size W1 wr) (fun _ i _=>l.length - (intOf i).toNat)
   case atStart=>exact ⟨0,vag _,rfl,by simp [cdL],Below.refl _ _⟩
   case round=>
    obtain ⟨j,hj,rfl,rfl,hb⟩:=hrel;have HB:=hid hb
    have hfit:=(zf0 HN.out j hj)
    by_cases hlt:j<l.length
    . obtain ⟨b,off,x1,y1,x3,y3,x4,y4,x5,y5,rfl,hlb,c0,c1,c2,c3,c4,c5,c6, -, -, -⟩:=(HOs.out.later (thenB HBW.out hb)).get j hlt
      have hci:=HN.out.2 l[j] (vaj hlt);have hci1:=hci.1;have hci2:=hci.2.1;have HTk:=hid (zjr hlt);generalize cdL (l.take j)=cd at *;have hw1:IntKind.i64.wrap ((l.length:Int)+1+cd+(l[j].code.length:Int))=(l.length:Int)+1+cd+(l[j].code.length:Int):=z4l (by omega) (by omega);clear c0 c1 c2 c4 c5 c6 hci hb;go_wp2_with fail;go_roundw
      case rel=>exact ⟨j+1,by omega,by go_num,by rw [HTk.out,Int.add_assoc ((l.length:Int)+1)],HB.out⟩
      case measure=>simp [intOf];omega
    . obtain rfl:j=l.length:=by omega
      rw [vau] at *;have HXr:=hid (z0z HX.out hb);have HIr:=hid (HI1.out.later hb);have HBr:=hid (thenB HBW.out hb)
      have hnn:((code.length:Int) == (l.length:Int)+1+cdL l)=true:=by rw [HCl.out];exact beq_self_eq_true _
      clear hb;go_wp2_with fail;refine (HS.out _).mono ?_;rintro e w2 ⟨rfl,hb2⟩;have HX2:=hid (z0z HXr.out hb2);have HB2:=hid (thenB HBr.out hb2);have HC2:=hid (Mx.Check_any ca cc (code.map insM) d w2 (HIr.out.later hb2) (by rw [hlm];omega));rw [hlm,HCk.out] at HC2;obtain ⟨q0,q1,qf⟩:=zd0 HX2.out;have hql:=lt_of_heap HX2.out;clear hb2 HXr HIr;go_wp2_with fail;refine HC2.out.mono ?_;rintro e w3 ⟨rfl,hb3⟩;have HB3:=hid (thenB HB2.out hb3);have HX3:=hid (z0z HX2.out hb3);clear q0 q1 qf hql hb3;obtain ⟨q0,q1,qf⟩:=zd0 HX3.out;have hql:=lt_of_heap HX3.out;generalize cdL l=cd at *;go_wp2_with fail
      go_returns
      exact ⟨rfl,HB3.out⟩
end Go.Proofs.YtndkhgakfodldaaGreatDoor
