import Derived.Test.YtndkhgakfodldaaGreatDoorIs
namespace Go.Proofs.YtndkhgakfodldaaGreatDoor
set_option maxRecDepth 100000
set_option maxHeartbeats 6400000
open Go.RowKit Go.Maps Go.WideMaps
set_option linter.unusedSimpArgs false
set_option linter.unusedVariables false
theorem zp2 {w W:World} {b:Nat} {x0 x1 x2 x3 x4 x5 x6:Value} {t:TypeId} (h:w.heap[b]? = some (.cells #[x0,x1,x2,x3,x4,x5,x6] t (0,0))) (hb:Below w.heap.size w W):W.cell? ⟨b,0,none⟩=some x0/\W.cell? ⟨b,1,none⟩=some x1/\W.cell? ⟨b,2,none⟩=some x2/\W.cell? ⟨b,3,none⟩=some x3/\W.cell? ⟨b,4,none⟩=some x4/\W.cell? ⟨b,5,none⟩=some x5/\W.cell? ⟨b,6,none⟩=some x6/\b<W.heap.size:=zaj (zak h hb)
set_option maxHeartbeats 12800000
theorem zlz (o:Ob) (x1:OA) (y1:Nat) (x3:OA) (y3:Nat) (x4:OA) (y4:Nat) (x5:OA) (y5:Nat) (w:World) (hO:OvAt w o x1 x3 x4 x5) :
 Calls Tryz.prog 36 #[.agg #[.string o.name,.slice x1 o.uses.length y1,.int .i64 o.data,.slice x3 o.code.length y3,.slice x4 o.fixes.length y4,.slice x5 o.entries.length y5,.int .i64 o.main]] w fun e w'=>e = .returned (.tuple #[.string (Fx.strOf (wrO o).1),.int .i64 (wrO o).2])/\Below w.heap.size w w':=by
 have hX:=heap_newP w (oC o x1 y1 x3 y3 x4 y4 x5 y5);have hb0:=al1 w (oC o x1 y1 x3 y3 x4 y4 x5 y5);generalize hW:w.alloc (oC o x1 y1 x3 y3 x4 y4 x5 y5)=W0 at *;have HO:=hid (hO.later hb0);have HB0:=hid hb0;have HR:=hid (zgx o x1 y1 x3 y3 x4 y4 x5 y5 W0 HO.out);have HX:=hid hX;obtain ⟨q0,q1,q2,q3,q4,q5,q6,qz⟩:=zaj hX;clear hO hX hb0
 by_cases h0:oChk o=0
 . have HS:=hid (fun W (h:Below W0.heap.size W0 W)=>zgz o x1 y1 x3 y3 x4 y4 x5 y5 W (HO.out.later h) h0)
   have HQ:Hid (wrO o=if 32768<(objB o).length then ([],2) else (objB o,0)):=if_pos h0;rw [h0] at HR;have hsz:=Fx.strOf_size (objB o);clear h0;generalize hS:Fx.strOf (objB o)=S at *;generalize objB o=lb at *;have HE:=hid hS;clear hS
   by_cases hc:32768<lb.length
   . rw [if_pos hc] at HQ
     have hc':(32768:Int)<S.size:=by omega
     go_enter Tryz.func36,Tryz.ntmps36;go_wp2_with fail;refine HR.out.mono ?_;rintro e w1 ⟨rfl,hb1⟩;have HB1:=hid hb1;clear q0 q1 q2 q3 q4 q5 q6 qz hb1 hW;obtain ⟨q0,q1,q2,q3,q4,q5,q6,qz⟩:=zp2 HX.out HB1.out;go_wp2_with fail;refine (HS.out _ HB1.out).mono ?_;rintro e w2 ⟨rfl,hb2⟩;have HB2:=hid (thenB HB0.out (thenB HB1.out hb2));clear q0 q1 q2 q3 q4 q5 q6 qz hb2;go_wp2_with fail;go_ret2;exact ⟨by rw [HQ.out];rfl,HB2.out⟩
   . rw [if_neg hc] at HQ
     have hc':¬ (32768:Int)<S.size:=by omega
     go_enter Tryz.func36,Tryz.ntmps36;go_wp2_with fail;refine HR.out.mono ?_;rintro e w1 ⟨rfl,hb1⟩;have HB1:=hid hb1;clear q0 q1 q2 q3 q4 q5 q6 qz hb1 hW;obtain ⟨q0,q1,q2,q3,q4,q5,q6,qz⟩:=zp2 HX.out HB1.out;go_wp2_with fail;refine (HS.out _ HB1.out).mono ?_;rintro e w2 ⟨rfl,hb2⟩;have HB2:=hid (thenB HB0.out (thenB HB1.out hb2));clear q0 q1 q2 q3 q4 q5 q6 qz hb2;go_wp2_with fail;go_ret2;exact ⟨by rw [HQ.out,← HE.out];rfl,HB2.out⟩
 . have HQ:Hid (wrO o=([],oChk o)):=if_neg h0
   have hb0:(oChk o != 0)=true:=by rw [bne_iff_ne];exact h0
   clear h0;generalize oChk o=E at *;go_enter Tryz.func36,Tryz.ntmps36;go_wp2_with fail;refine HR.out.mono ?_;rintro e w1 ⟨rfl,hb1⟩;have HB1:=hid (thenB HB0.out hb1);clear hb1 q0 q1 q2 q3 q4 q5 q6 qz hW;go_wp2_with fail;go_ret2;exact ⟨by rw [HQ.out];rfl,HB1.out⟩
theorem zp3 (o:Ob) (x1:OA) (y1:Nat) (x3:OA) (y3:Nat) (x4:OA) (y4:Nat) (x5:OA) (y5:Nat) (st:ByteArray) (w:World) (hO:OvAt w o x1 x3 x4 x5) (hcp:o.uses.length<=y1) (hst:st.size<=9223372036854775807) :
 Calls Tryz.prog 10 #[.agg #[.string o.name,.slice x1 o.uses.length y1,.int .i64 o.data,.slice x3 o.code.length y3,.slice x4 o.fixes.length y4,.slice x5 o.entries.length y5,.int .i64 o.main],.string st] w fun e w'=>e = .returned (.bool true)/\Below w.heap.size w w':=by
 obtain ⟨l,hl⟩:∃ l,st=Fx.strOf l:=⟨st.data.toList,(Fx.strOf_back st).symm⟩
 have hll:l.length<=9223372036854775807:=by rw [hl,Fx.strOf_size] at hst;exact hst
 have hsz:st.size=l.length:=by rw [hl,Fx.strOf_size]
 have HRd:=hid (fun (W:World)=>zia l W hll);have HFo:=hid (fun (W:World) (h:l.length<=32768)=>znl l W h);rw [← hl] at HRd HFo;unfold z72 z7s at HRd;unfold z20 z7s at HFo;have HFR:=hid (z9k l);have hX:=heap_newP w (oC o x1 y1 x3 y3 x4 y4 x5 y5);have hb0:=al1 w (oC o x1 y1 x3 y3 x4 y4 x5 y5);generalize hWd:w.alloc (oC o x1 y1 x3 y3 x4 y4 x5 y5)=W0 at *;have HO:=hid (hO.later hb0);have HB0:=hid hb0;have HW:=hid (zkr o x1 y1 x3 y3 x4 y4 x5 y5 W0 HO.out hcp);have HV:=hid (fun W (h:Below W0.heap.size W0 W)=>zlz o x1 y1 x3 y3 x4 y4 x5 y5 W (HO.out.later h));have HX:=hid hX;obtain ⟨q0,q1,q2,q3,q4,q5,q6,qz⟩:=zaj hX;clear hO hcp hst hll hl hX hb0;generalize Fx.strOf (wrO o).1=tt at *;generalize (wrO o).2=E at *;have heq:(tt.toList == tt.toList)=true:=(zp4 _ _).trans (decide_eq_true rfl)
 by_cases hbig:32768<l.length
 . have hbi:(32768:Int)<st.size:=by omega
   go_enter Tryz.func10,Tryz.ntmps10;go_wp2_with fail;refine HW.out.mono ?_;rintro e w1 ⟨rfl,hb1⟩;have HB1:=hid hb1;clear q0 q1 q2 q3 q4 q5 q6 qz hb1 hWd;obtain ⟨q0,q1,q2,q3,q4,q5,q6,qz⟩:=zp2 HX.out HB1.out;go_wp2_with fail;refine (HV.out _ HB1.out).mono ?_;rintro e w2 ⟨rfl,hb2⟩;have HB2:=hid (thenB HB1.out hb2);clear q0 q1 q2 q3 q4 q5 q6 qz hb2;go_wp2_with fail;refine (HRd.out _).mono ?_;rintro e w3 ⟨hb3,⟨_,rfl⟩ | ⟨hno,_,rfl⟩ | ⟨hno,_⟩⟩
   . have HB3:=hid (thenB HB2.out hb3)
     clear hb3;have HB4:=hid (thenB HB3.out (al1 w3 zC));have HN:=hid (heap_newP w3 zC);generalize hW4:w3.alloc zC=W4 at *;have HW4:=hid hW4;clear hW4;go_wp2_with fail;rw [HW4.out];refine (zg0 _).mono ?_;rintro e w5 ⟨rfl,hb5⟩;have HB5:=hid (thenB HB4.out hb5);obtain ⟨n0,n1,n2,n3,n4,n5,n6,nz⟩:=zp2 HN.out hb5;clear hb5;have HSm:=hid (zc5 ⟨⟨#[]⟩,[],0,[],[],[],0⟩ none 0 none 0 none 0 none 0 none 0 none 0 none 0 none 0 w5 (z2q w5) (z2q w5));go_wp2_with fail;refine HSm.out.mono ?_;rintro e w6 ⟨rfl,hb6⟩;have HB6:=hid (thenB HB5.out hb6);clear hb6;go_wp2_with fail;go_ret;exact ⟨by first | rfl | simp,thenB HB0.out HB6.out⟩
   . exact absurd hbig (by omega)
   . exact absurd hbig (by omega)
 . have hbi:¬ (32768:Int)<st.size:=by omega
   have HF1:=hid (fun W=>HFo.out W (by omega));go_enter Tryz.func10,Tryz.ntmps10;go_wp2_with fail;refine HW.out.mono ?_;rintro e w1 ⟨rfl,hb1⟩;have HB1:=hid hb1;clear q0 q1 q2 q3 q4 q5 q6 qz hb1 hWd;obtain ⟨q0,q1,q2,q3,q4,q5,q6,qz⟩:=zp2 HX.out HB1.out;go_wp2_with fail;refine (HV.out _ HB1.out).mono ?_;rintro e w2 ⟨rfl,hb2⟩;have HB2:=hid (thenB HB1.out hb2);clear q0 q1 q2 q3 q4 q5 q6 qz hb2;go_wp2_with fail;refine (HRd.out _).mono ?_;rintro e w3 ⟨hb3,⟨hno,_⟩ | ⟨_,hrn,rfl⟩ | ⟨_,p,v,hrs,rfl,d1,e1,d3,e3,d4,e4,d5,e5,rfl,hOp,hcq⟩⟩
   . exact absurd hno hbig
   . have HB3:=hid (thenB HB2.out hb3)
     have HFn:Hid (zvu l=false):=by
      have h:=HFR.out;rw [hrn] at h
      cases hf:zvu l with
      | false=>rfl
      | true=>rw [hf] at h;simp at h
     clear hb3 hrn;have HB4:=hid (thenB HB3.out (al1 w3 zC));have HN:=hid (heap_newP w3 zC);generalize hW4:w3.alloc zC=W4 at *;have HW4:=hid hW4;clear hW4;go_wp2_with fail;rw [HW4.out];refine (HF1.out _).mono ?_;rintro e w5 ⟨hb5,⟨_,rfl⟩ | ⟨hfy,_⟩⟩
     case inr=>exact absurd (HFn.out.symm.trans hfy) (by decide)
     have HB5:=hid (thenB HB4.out hb5);have HN5:=hid (zak HN.out hb5);clear hb5 HN;have HB6:=hid (thenB HB5.out (al1 w5 zC));have HM:=hid (heap_newP w5 zC);have HN6:=hid (zak HN5.out (al1 w5 zC));generalize hW6:w5.alloc zC=W6 at *;have HW6:=hid hW6;clear hW6;go_wp2_with fail;rw [HW6.out];refine (zg0 _).mono ?_;rintro e w7 ⟨rfl,hb7⟩;have HB7:=hid (thenB HB6.out hb7);obtain ⟨n0,n1,n2,n3,n4,n5,n6,nz⟩:=zp2 HN6.out hb7;obtain ⟨m0,m1,m2,m3,m4,m5,m6,mz⟩:=zp2 HM.out hb7;clear hb7;have HSm:=hid (zc5 ⟨⟨#[]⟩,[],0,[],[],[],0⟩ none 0 none 0 none 0 none 0 none 0 none 0 none 0 none 0 w7 (z2q w7) (z2q w7));go_wp2_with fail;refine HSm.out.mono ?_;rintro e w8 ⟨rfl,hb8⟩;have HB8:=hid (thenB HB7.out hb8);clear hb8;go_wp2_with fail;go_ret;exact ⟨by first | rfl | simp,thenB HB0.out HB8.out⟩
   . have HB3:=hid (thenB HB2.out hb3)
     have HFy:Hid (zvu l=true/\frO l=p):=by
      have h:=HFR.out;rw [hrs] at h
      cases hf:zvu l with
      | false=>rw [hf] at h;simp at h
      | true=>rw [hf] at h;simp at h;exact ⟨rfl,h.symm⟩
     clear hb3 hrs;have HP:=hid hOp.ov;clear hOp hcq;have HB4:=hid (thenB HB3.out (al1 w3 (oC p d1 e1 d3 e3 d4 e4 d5 e5)));have HN:=hid (heap_newP w3 (oC p d1 e1 d3 e3 d4 e4 d5 e5));have HP4:=hid (HP.out.later (al1 w3 (oC p d1 e1 d3 e3 d4 e4 d5 e5)));generalize hW4:w3.alloc (oC p d1 e1 d3 e3 d4 e4 d5 e5)=W4 at *;have HW4:=hid hW4;clear hW4;go_wp2_with fail;rw [HW4.out];refine (HF1.out _).mono ?_;rintro e w5 ⟨hb5,⟨hfn,_⟩ | ⟨_,v,rfl,f1,g1,f3,g3,f4,g4,f5,g5,hv,hOq,_⟩⟩
     case inl=>exact absurd (hfn.symm.trans HFy.out.1) (by decide)
     rw [HFy.out.2] at hv hOq;subst hv;have HB5:=hid (thenB HB4.out hb5);have HN5:=hid (zak HN.out hb5);have HP5:=hid (HP4.out.later hb5);have HQ5:=hid hOq.ov;clear hb5 HN hOq;have HB6:=hid (thenB HB5.out (al1 w5 (oC p f1 g1 f3 g3 f4 g4 f5 g5)));have HM:=hid (heap_newP w5 (oC p f1 g1 f3 g3 f4 g4 f5 g5));have HN6:=hid (zak HN5.out (al1 w5 (oC p f1 g1 f3 g3 f4 g4 f5 g5)));have HP6:=hid (HP5.out.later (al1 w5 (oC p f1 g1 f3 g3 f4 g4 f5 g5)));have HQ6:=hid (HQ5.out.later (al1 w5 (oC p f1 g1 f3 g3 f4 g4 f5 g5)));generalize hW6:w5.alloc (oC p f1 g1 f3 g3 f4 g4 f5 g5)=W6 at *;have HW6:=hid hW6;clear hW6;go_wp2_with fail;rw [HW6.out];refine (zg0 _).mono ?_;rintro e w7 ⟨rfl,hb7⟩;have HB7:=hid (thenB HB6.out hb7);have HSm:=hid (zc5 p d1 e1 d3 e3 d4 e4 d5 e5 f1 g1 f3 g3 f4 g4 f5 g5 w7 (HP6.out.later hb7) (HQ6.out.later hb7))
     obtain ⟨n0,n1,n2,n3,n4,n5,n6,nz⟩:=zp2 HN6.out hb7;obtain ⟨m0,m1,m2,m3,m4,m5,m6,mz⟩:=zp2 HM.out hb7;clear hb7;go_wp2_with fail;refine HSm.out.mono ?_;rintro e w8 ⟨rfl,hb8⟩;have HB8:=hid (thenB HB7.out hb8);clear hb8;go_wp2_with fail;go_ret;exact ⟨by first | rfl | simp,thenB HB0.out HB8.out⟩
end Go.Proofs.YtndkhgakfodldaaGreatDoor
