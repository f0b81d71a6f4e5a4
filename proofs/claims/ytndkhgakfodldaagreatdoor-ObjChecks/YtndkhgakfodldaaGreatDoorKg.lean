/-
  Package units: blocks.
-/
import Derived.Test.YtndkhgakfodldaaGreatDoorKb
import Derived.Test.YtndkhgakfodldaaGreatDoorUi
namespace Go.Proofs.YtndkhgakfodldaaGreatDoor
set_option maxRecDepth 100000
set_option maxHeartbeats 3200000
open Go.RowKit Go.Maps Go.WideMaps
set_option linter.unusedSimpArgs false
set_option linter.unusedVariables false
def innB (c:Ck) (k:Nat) (a:Ac):Bool:=if a.op=4 then acsB c k a.body&&acsB c k a.other else if a.op=5 then acsB c k a.body&&decide (a.other.length=0) else decide (a.body.length=0)&&decide (a.other.length=0)
def BlockOk (c:Ck) (cv:Value) (k:Nat):Prop:=∀ (l:List Ac) (A:Nat->Prop) (a:Option Addr) (cap:Nat) (deep:Int) (w:World),deep=7 - (k:Int)->DAt w A a l.length (acsD l)->CkAt w c cv->
    Calls Tryz.prog 128 #[cv,.slice a l.length cap,.int .i64 deep] w fun e w'=>e = .returned (.bool (acsB c k l))/\Below w.heap.size w w'
theorem innerHolds_any (c:Ck) (s:ByteArray) (x1:Option Addr) (y1:Nat) (x2:Option Addr) (y2:Nat) (x3:Option Addr) (n3 y3:Nat) (iv:Value) (k:Nat) (hk:k<=6) (ih:BlockOk c (.agg #[.string s,.slice x1 c.uses y1,.int .i64 c.data,.slice x2 c.parts.length y2,.slice x3 n3 y3,iv,.int .i64 c.locals]) k) (x:Ac) (A:Nat->Prop) (aa:Option Addr) (cp:Nat) (ab:Option Addr) (cb:Nat) (ao:Option Addr) (co:Nat) (deep:Int) (w:World) (hd:deep=7 - (k:Int)) (hB:DAt w A ab x.body.length (acsD x.body)) (hO:DAt w A ao x.other.length (acsD x.other)) (hC:CkAt w c (.agg #[.string s,.slice x1 c.uses y1,.int .i64 c.data,.slice x2 c.parts.length y2,.slice x3 n3 y3,iv,.int .i64 c.locals])) :
 Calls Tryz.prog 171 #[.agg #[.string s,.slice x1 c.uses y1,.int .i64 c.data,.slice x2 c.parts.length y2,.slice x3 n3 y3,iv,.int .i64 c.locals],.agg #[.int .i64 x.op,.int .i64 x.n,.int .i64 x.m,.int .i64 x.at_,.slice aa x.args.length cp,.slice ab x.body.length cb,.slice ao x.other.length co],.int .i64 deep] w fun e w'=>e = .returned (.bool (innB c k x))/\Below w.heap.size w w':=by
 have HI:=hid (fun l A a cap w=>ih l A a cap deep w hd);have hbb:=hB.bound;have hob:=hO.bound;have HB:=hid hB;have HO:=hid hO;have HC:=hid hC;clear ih hB hO hC hd
 by_cases o4:x.op=4
 . have HR:Hid (innB c k x=(acsB c k x.body&&acsB c k x.other)):=if_pos o4
   go_enter Tryz.func171,Tryz.ntmps171;go_wp2_with fail;refine (HI.out x.body A ab cb _ (HB.out.later (al2 _ _ _)) (HC.out.later (al2 _ _ _))).mono ?_
   cases h1:acsB c k x.body with
   | false=>
     rintro e w3 ⟨rfl,hb3⟩;have HB3:=hid (thenB (al2 w _ _) hb3);clear hb3;go_wp2_with fail;go_ret;exact ⟨ret_bool (by rw [HR.out,h1];rfl),HB3.out⟩
   | true=>
     rintro e w3 ⟨rfl,hb3⟩;have HB3:=hid (thenB (al2 w _ _) hb3);have p1:=(hb3.block w.heap.size (by simp;omega)).trans (heap_old (heap_newP w (.cells #[.string s,.slice x1 c.uses y1,.int .i64 c.data,.slice x2 c.parts.length y2,.slice x3 n3 y3,iv,.int .i64 c.locals] 206)));have p2:=(hb3.block (w.heap.size+1) (by simp)).trans (newP1 w _ _);obtain ⟨q0,q1,q2,q3,q4,q5,q6,qz⟩:=cells7 p1;obtain ⟨z0,z1,z2,z3,z4,z5,z6,zz⟩:=cells7 p2;clear hb3 p1 p2;go_wp2_with fail;refine (HI.out x.other A ao co _ (HO.out.later HB3.out) (HC.out.later HB3.out)).mono ?_;rintro e w4 ⟨rfl,hb4⟩;have HB4:=hid (thenB HB3.out hb4);clear hb4;go_wp2_with fail;go_ret;exact ⟨ret_bool (by rw [HR.out,h1];rfl),HB4.out⟩
 by_cases o5:x.op=5
 . have HR:Hid (innB c k x=(acsB c k x.body&&decide (x.other.length=0))):=(if_neg o4).trans (if_pos o5)
   go_enter Tryz.func171,Tryz.ntmps171;go_wp2_with fail;refine (HI.out x.body A ab cb _ (HB.out.later (al2 _ _ _)) (HC.out.later (al2 _ _ _))).mono ?_
   cases h1:acsB c k x.body with
   | false=>
     rintro e w3 ⟨rfl,hb3⟩;have HB3:=hid (thenB (al2 w _ _) hb3);clear hb3;go_wp2_with fail;go_ret;exact ⟨ret_bool (by rw [HR.out,h1];rfl),HB3.out⟩
   | true=>
     rintro e w3 ⟨rfl,hb3⟩;have HB3:=hid (thenB (al2 w _ _) hb3);have p2:=(hb3.block (w.heap.size+1) (by simp)).trans (newP1 w _ _);obtain ⟨z0,z1,z2,z3,z4,z5,z6,zz⟩:=cells7 p2;clear hb3 p2
     by_cases h0:x.other.length=0
     . go_wp2_with fail
       go_ret;exact ⟨ret_bool (by rw [HR.out,h1,decide_eq_true h0];rfl),HB3.out⟩
     . have h0':x.other.length≠0:=h0
       have HR':Hid (innB c k x=false):=by show _=_;rw [HR.out,h1,decide_eq_false h0];rfl
       clear h0;go_wp2_with fail;go_ret;exact ⟨ret_bool (by first | exact HR'.out.symm | (rw [HR'.out];first | (simp;omega) | (simp [*];done))),HB3.out⟩
 . have HR:Hid (innB c k x=(decide (x.body.length=0)&&decide (x.other.length=0))):=(if_neg o4).trans (if_neg o5)
   by_cases hb0:x.body.length=0
   . by_cases h0:x.other.length=0
     . have HR':Hid (innB c k x=true):=by show _=_;rw [HR.out,decide_eq_true h0,decide_eq_true hb0];rfl
       go_enter Tryz.func171,Tryz.ntmps171;go_wp2_with fail;go_ret;exact ⟨ret_bool (by first | exact HR'.out.symm | (rw [HR'.out];first | (simp;omega) | (simp [*];done))),al2 _ _ _⟩
     . have h0':x.other.length≠0:=h0
       have HR':Hid (innB c k x=false):=by show _=_;rw [HR.out,decide_eq_false h0,decide_eq_true hb0];rfl
       clear h0;go_enter Tryz.func171,Tryz.ntmps171;go_wp2_with fail;go_ret;exact ⟨ret_bool (by first | exact HR'.out.symm | (rw [HR'.out];first | (simp;omega) | (simp [*];done))),al2 _ _ _⟩
   . have h0':x.body.length≠0:=hb0
     have HR':Hid (innB c k x=false):=by show _=_;rw [HR.out,decide_eq_false hb0];rfl
     clear hb0;go_enter Tryz.func171,Tryz.ntmps171;go_wp2_with fail;go_ret;exact ⟨ret_bool (by first | exact HR'.out.symm | (rw [HR'.out];first | (simp;omega) | (simp [*];done))),al2 _ _ _⟩
theorem blockHolds_deep (c:Ck) (s:ByteArray) (x1:Option Addr) (y1:Nat) (x2:Option Addr) (y2:Nat) (x3:Option Addr) (n3 y3:Nat) (iv:Value) (a:Option Addr) (n cap:Nat) (w:World) :
 Calls Tryz.prog 128 #[.agg #[.string s,.slice x1 c.uses y1,.int .i64 c.data,.slice x2 c.parts.length y2,.slice x3 n3 y3,iv,.int .i64 c.locals],.slice a n cap,.int .i64 7] w fun e w'=>e = .returned (.bool false)/\Below w.heap.size w w':=by
 go_enter Tryz.func128,Tryz.ntmps128;go_wp2_with fail;go_ret;exact ⟨rfl,al1 _ _⟩
theorem blockHolds_many (c:Ck) (s:ByteArray) (x1:Option Addr) (y1:Nat) (x2:Option Addr) (y2:Nat) (x3:Option Addr) (n3 y3:Nat) (iv:Value) (a:Option Addr) (n cap:Nat) (deep:Int) (w:World) (hd:deep<=6) (hn:10<n) (hn2:n<=17592186044416) :
 Calls Tryz.prog 128 #[.agg #[.string s,.slice x1 c.uses y1,.int .i64 c.data,.slice x2 c.parts.length y2,.slice x3 n3 y3,iv,.int .i64 c.locals],.slice a n cap,.int .i64 deep] w fun e w'=>e = .returned (.bool false)/\Below w.heap.size w w':=by
 go_enter Tryz.func128,Tryz.ntmps128;go_wp2_with fail;go_ret;exact ⟨rfl,al1 _ _⟩
def stmB (c:Ck) (k:Nat) (x:Ac):Bool:=actA c x&&(ndsB c 6 x.args&&innB c k x)
theorem acsB_succ (c:Ck) (k:Nat) (l:List Ac):acsB c (k+1) l=(decide (l.length<=10)&&l.all (stmB c k)):=by
 rw [acsB]
 rfl
theorem holds_step (c:Ck) (s:ByteArray) (x1:Option Addr) (y1:Nat) (x2:Option Addr) (y2:Nat) (x3:Option Addr) (n3 y3:Nat) (iv:Value) (k:Nat) (hk:k+1<=6) (ih:BlockOk c (.agg #[.string s,.slice x1 c.uses y1,.int .i64 c.data,.slice x2 c.parts.length y2,.slice x3 n3 y3,iv,.int .i64 c.locals]) k):BlockOk c (.agg #[.string s,.slice x1 c.uses y1,.int .i64 c.data,.slice x2 c.parts.length y2,.slice x3 n3 y3,iv,.int .i64 c.locals]) (k+1):=by
 intro l A a cap deep w hd hD hC;have hbd:=hD.bound
 by_cases h10:10<l.length
 . have:acsB c (k+1) l=false:=by rw [acsB_succ,decide_eq_false (by omega)];rfl
   rw [this];exact blockHolds_many c s x1 y1 x2 y2 x3 n3 y3 iv a l.length cap deep w (by omega) h10 hbd
 have h10':l.length<=10:=by omega
 have HR:Hid (acsB c (k+1) l=l.all (stmB c k)):=by show _=_;rw [acsB_succ,decide_eq_true h10'];rfl
 have hd1:1<=deep:=by omega
 have hd6:deep<=6:=by omega
 have HI:=hid (fun x A aa cp ab cb ao co w=>innerHolds_any c s x1 y1 x2 y2 x3 n3 y3 iv k (by omega) ih x A aa cp ab cb ao co (deep+1) w (by omega));have HD:=hid hD;have HC:=hid hC;clear hD hC hd h10 ih;go_enter Tryz.func128,Tryz.ntmps128;go_wp2_with fail
 go_loopw [18] (fun i wr=>∃ j:Nat,j<=l.length/\i = .int .i64 j/\(l.take j).all (stmB c k)=true/\Below w.heap.size w wr/\wr.heap[w.heap.size]? = some (.cells #[.string s,.slice x1 c.uses y1,.int .i64 c.data,.slice x2 c.parts.length y2,.slice x3 n3 y3,iv,.int .i64 c.locals] 206)) (fun i _=>l.length - (intOf i).toNat)
 case atStart=>exact ⟨0,Nat.zero_le _,rfl,rfl,al1 _ _,heap_newP _ _⟩
 case round=>
  obtain ⟨j,hj,rfl,hall,hb,hB⟩:=hrel;obtain ⟨q0,q1,q2,q3,q4,q5,q6,qz⟩:=cells7 hB;have HB:=hid hb;have HX:=hid hB;have HL:=hid hall;clear hall hB hb
  by_cases hlt:j<l.length
  . obtain ⟨b,off,aa,cp,ab,cb,ao,co,rfl,hx⟩:=(HD.out.later HB.out).ac j hlt
    have HF:=hid (fun (h:stmB c k l[j]=false)=>all_not l (stmB c k) j hlt h);have HT:=hid (fun (h:stmB c k l[j]=true)=>(by rw [all_snoc l _ j hlt,HL.out,h];rfl:(l.take (j+1)).all (stmB c k)=true));obtain ⟨hbl,x0,x1',x2',x3',x4,x5,x6,hargs,hbody,hother,_,_,hm,hat⟩:=hx;have hal:=hargs.bound;have HA:=hid hargs;have HBo:=hid hbody;have HOt:=hid hother;have HM:=hid hm;have HAt:=hid hat;clear hargs hbody hother hm hat;generalize l[j]=x at *;go_wp2_with fail;refine (actHolds_any c s x1 y1 x2 y2 x3 n3 y3 iv x aa cp ab cb ao co _ (HC.out.later (thenB HB.out (al1 _ _))) HM.out HAt.out hal).mono ?_
    cases h1:actA c x with
    | false=>
      rintro e w3 ⟨rfl,hb3⟩;have HB3:=hid (thenB HB.out (thenB (al1 _ _) hb3));have HF':=hid (HF.out (by unfold stmB;rw [h1];rfl));clear hb3;go_wp2_with fail;go_ret;exact ⟨ret_bool (by rw [HR.out,HF'.out]),HB3.out⟩
    | true=>
      rintro e w3 ⟨rfl,hb3⟩;have HB3:=hid (thenB (al1 wr _) hb3);have p1:=(HB3.out.block _ (lt_of_heap HX.out)).trans HX.out;have p2:=(hb3.block _ (by simp)).trans (heap_newP wr (.cells #[.int .i64 x.op,.int .i64 x.n,.int .i64 x.m,.int .i64 x.at_,.slice aa x.args.length cp,.slice ab x.body.length cb,.slice ao x.other.length co] 109));have HX3:=hid p1;have HY3:=hid p2;clear q0 q1 q2 q3 q4 q5 q6 qz x0 x1' x2' x3' x4 x5 x6 hbl;obtain ⟨q0,q1,q2,q3,q4,q5,q6,qz⟩:=cells7 p1;obtain ⟨z0,z1,z2,z3,z4,z5,z6,zz⟩:=cells7 p2;clear hb3 p1 p2;go_wp2_with fail;refine (nodesHold_any c s x1 y1 x2 y2 x3 n3 y3 iv 6 (by decide) x.args A aa cp 1 _ (by decide) (HA.out.later HB3.out) (HC.out.later (thenB HB.out HB3.out))).mono ?_
      cases h2:ndsB c 6 x.args with
      | false=>
        rintro e w4 ⟨rfl,hb4⟩;have HB4:=hid (thenB (thenB HB.out HB3.out) hb4);have HF':=hid (HF.out (by unfold stmB;rw [h1,h2];rfl));clear hb4;go_wp2_with fail;go_ret;exact ⟨ret_bool (by rw [HR.out,HF'.out]),HB4.out⟩
      | true=>
        rintro e w4 ⟨rfl,hb4⟩;have HB4:=hid (thenB HB3.out hb4);have p1:=(hb4.block _ (lt_of_heap HX3.out)).trans HX3.out;have p2:=(hb4.block _ (lt_of_heap HY3.out)).trans HY3.out;have HX4:=hid p1;clear q0 q1 q2 q3 q4 q5 q6 qz z0 z1 z2 z3 z4 z5 z6 zz;obtain ⟨q0,q1,q2,q3,q4,q5,q6,qz⟩:=cells7 p1;obtain ⟨z0,z1,z2,z3,z4,z5,z6,zz⟩:=cells7 p2;clear hb4 p1 p2;go_wp2_with fail;refine (HI.out x A aa cp ab cb ao co _ (HBo.out.later HB4.out) (HOt.out.later HB4.out) (HC.out.later (thenB HB.out HB4.out))).mono ?_
        cases h3:innB c k x with
        | false=>
          rintro e w5 ⟨rfl,hb5⟩;have HB5:=hid (thenB (thenB HB.out HB4.out) hb5);have HF':=hid (HF.out (by unfold stmB;rw [h1,h2,h3];rfl));clear hb5;go_wp2_with fail;go_ret;exact ⟨ret_bool (by rw [HR.out,HF'.out]),HB5.out⟩
        | true=>
          rintro e w5 ⟨rfl,hb5⟩;have HB5:=hid (thenB (thenB HB.out HB4.out) hb5);have HX5:=hid ((hb5.block _ (lt_of_heap HX4.out)).trans HX4.out);have HT':=hid (HT.out (by unfold stmB;rw [h1,h2,h3];rfl));clear hb5;go_wp2_with fail;go_roundw
          case rel=>exact ⟨j+1,by omega,by go_num,HT'.out,HB5.out,HX5.out⟩
          case measure=>simp [intOf];omega
  . have HT:Hid (l.all (stmB c k)=true):=all_end HL.out hlt
    go_wp2_with fail;go_ret;exact ⟨ret_bool (by rw [HR.out,HT.out]),HB.out⟩
theorem blockHolds_any (c:Ck) (s:ByteArray) (x1:Option Addr) (y1:Nat) (x2:Option Addr) (y2:Nat) (x3:Option Addr) (n3 y3:Nat) (iv:Value):∀ (k:Nat),k<=6->BlockOk c (.agg #[.string s,.slice x1 c.uses y1,.int .i64 c.data,.slice x2 c.parts.length y2,.slice x3 n3 y3,iv,.int .i64 c.locals]) k
 | 0,_=>fun l A a cap deep w hd _ _=>by
   obtain rfl:deep=7:=by omega
   exact blockHolds_deep c s x1 y1 x2 y2 x3 n3 y3 iv a l.length cap w
 | k+1,hk=>holds_step c s x1 y1 x2 y2 x3 n3 y3 iv k hk (blockHolds_any c s x1 y1 x2 y2 x3 n3 y3 iv k (by omega))
end Go.Proofs.YtndkhgakfodldaaGreatDoor

namespace Go.Proofs.YtndkhgakfodldaaGreatDoor
set_option maxRecDepth 100000
set_option maxHeartbeats 3200000
open Go.RowKit Go.Maps Go.WideMaps
set_option linter.unusedSimpArgs false
set_option linter.unusedVariables false
structure UvAt (w:World) (u:Un) (x1:Option Addr) (y1:Nat) (x2:Option Addr) (y2:Nat) (x3:Option Addr) (y3:Nat):Prop where
 wn:u.name.size<=maxLen
 uses:DAt w Tt x1 u.uses.length (strsD u.uses)
 wd:(Lit.int .i64 u.data).wf=true
 parts:DAt w Tt x2 u.parts.length (ptsD u.parts)
 main:DAt w Tt x3 u.main.length (acsD u.main)
theorem UvAt.later {w w':World} {u:Un} {x1:Option Addr} {y1:Nat} {x2:Option Addr} {y2:Nat} {x3:Option Addr} {y3:Nat} (h:UvAt w u x1 y1 x2 y2 x3 y3) (hb:Below w.heap.size w w'):UvAt w' u x1 y1 x2 y2 x3 y3:=⟨h.wn,h.uses.later hb,h.wd,h.parts.later hb,h.main.later hb⟩
theorem UvAt.mo {w:World} {u:Un} {x1:Option Addr} {y1:Nat} {x2:Option Addr} {y2:Nat} {x3:Option Addr} {y3:Nat} (h:UvAt w u x1 y1 x2 y2 x3 y3):MoAt w Tt ⟨u.name,u.uses,[],[],[]⟩ (.agg #[.string u.name,.slice x1 u.uses.length y1,.slice none 0 0,.slice none 0 0,.slice none 0 0]) x1 y1 none 0 none 0 none 0:=
 ⟨rfl,h.wn,h.uses,⟨Nat.le_refl _,Nat.zero_le _,Or.inl rfl⟩,⟨Nat.le_refl _,Nat.zero_le _,Or.inl rfl⟩,⟨Nat.le_refl _,Nat.zero_le _,Or.inl rfl⟩⟩
theorem headHolds_any (u:Un) (x1:Option Addr) (y1:Nat) (x2:Option Addr) (y2:Nat) (x3:Option Addr) (y3:Nat) (w:World) (hU:UvAt w u x1 y1 x2 y2 x3 y3) :
 Calls Tryz.prog 127 #[.agg #[.string u.name,.slice x1 u.uses.length y1,.int .i64 u.data,.slice x2 u.parts.length y2,.slice x3 u.main.length y3]] w fun e w'=>e = .returned (.bool (headB u))/\Below w.heap.size w w':=by
 have HC:=hid (Face_any _ _ _ _ _ _ _ _ _ _ (w.alloc (.cells #[.string u.name,.slice x1 u.uses.length y1,.int .i64 u.data,.slice x2 u.parts.length y2,.slice x3 u.main.length y3] 42)) (hU.later (al1 _ _)).mo);have hpb:=hU.parts.bound;have HU:=hid hU;clear hU;have HQ:Hid (headB u=(decide (chkM ⟨u.name,u.uses,[],[],[]⟩=0)&&(u.parts.all ptB&&(decide (0<=u.data/\u.data<=512)&&decide (u.parts.length<=6))))):=rfl
 go_enter Tryz.func127,Tryz.ntmps127;go_wp2_with fail;refine HC.out.mono ?_;rintro e w1 ⟨hend,hb1⟩;have HB1:=hid (thenB (al1 w _) hb1);have HX1:=hid ((hb1.block _ (by simp)).trans (heap_newP w (.cells #[.string u.name,.slice x1 u.uses.length y1,.int .i64 u.data,.slice x2 u.parts.length y2,.slice x3 u.main.length y3] 42)));have hz1:=lt_of_heap HX1.out;unfold faceEnd at hend;clear hb1 HC
 rcases hend with ⟨hc,rfl⟩ | ⟨hc,af,cf,rfl,_⟩
 . have HF:Hid (headB u=false):=by show _=_;rw [HQ.out,decide_eq_false hc];rfl
   generalize chkM ⟨u.name,u.uses,[],[],[]⟩=z at *;go_wp2_with fail;go_ret;exact ⟨ret_bool (by first | exact HF.out.symm | (rw [HF.out];first | (simp;omega) | (simp [*];done))),thenB HB1.out (al1 _ _)⟩
 . have HQ' : Hid (headB u=(u.parts.all ptB&&(decide (0<=u.data/\u.data<=512)&&decide (u.parts.length<=6)))):=by show _=_;rw [HQ.out,decide_eq_true hc];rfl
   generalize shownIts ⟨u.name,u.uses,[],[],[]⟩=sh at *;obtain ⟨q0,q1,q2,q3,q4,_⟩:=cellsOf5 HX1.out;clear hc HQ;go_wp2_with fail
   go_loopw [21] (fun i wr=>∃ j:Nat,j<=u.parts.length/\i = .int .i64 j/\(u.parts.take j).all ptB=true/\Below w.heap.size w wr/\wr.heap[w.heap.size]? = some (.cells #[.string u.name,.slice x1 u.uses.length y1,.int .i64 u.data,.slice x2 u.parts.length y2,.slice x3 u.main.length y3] 42)) (fun i _=>u.parts.length - (intOf i).toNat)
   case atStart=>exact ⟨0,Nat.zero_le _,rfl,rfl,thenB HB1.out (al1 _ _),heap_old HX1.out⟩
   case round=>
    clear q0 q1 q2 q3 q4;obtain ⟨j,hj,rfl,hall,hb,hB⟩:=hrel;obtain ⟨q0,q1,q2,q3,q4,_⟩:=cellsOf5 hB;have qz:=lt_of_heap hB;have HB:=hid hb;have HX:=hid hB;have HL:=hid hall;clear hall hB hb
    by_cases hlt:j<u.parts.length
    . obtain ⟨b,off,ab,cb,rfl,hx⟩:=((HU.out.later HB.out).parts).pt j hlt
      have HF:=hid (fun (h:ptB u.parts[j]=false)=>(by rw [HQ'.out,all_not u.parts ptB j hlt h];rfl:headB u=false));have HT:=hid (fun (h:ptB u.parts[j]=true)=>(by rw [all_snoc u.parts _ j hlt,HL.out,h];rfl:(u.parts.take (j+1)).all ptB=true));obtain ⟨hbl,p0,p1,p2,_,_,_⟩:=hx;generalize u.parts[j]=p at *
      by_cases t1:p.params<0
      . have HF':=hid (HF.out (by unfold ptB;rw [decide_eq_false (by omega)];rfl))
        go_wp2_with fail;go_ret;exact ⟨ret_bool (by first | exact HF'.out.symm | (rw [HF'.out];first | (simp;omega) | (simp [*];done))),thenB HB.out (al1 _ _)⟩
      have t1':0<=p.params:=by omega
      by_cases t2:3<p.params
      . have HF':=hid (HF.out (by unfold ptB;rw [decide_eq_false (by omega)];rfl))
        clear t1;go_wp2_with fail;go_ret;exact ⟨ret_bool (by first | exact HF'.out.symm | (rw [HF'.out];first | (simp;omega) | (simp [*];done))),thenB HB.out (al1 _ _)⟩
      have t2':p.params<=3:=by omega
      by_cases t3:p.locals<0
      . have HF':=hid (HF.out (by unfold ptB;rw [decide_eq_true ⟨t1',t2'⟩,decide_eq_false (by omega)];rfl))
        clear t1 t2;go_wp2_with fail;go_ret;exact ⟨ret_bool (by first | exact HF'.out.symm | (rw [HF'.out];first | (simp;omega) | (simp [*];done))),thenB HB.out (al1 _ _)⟩
      have t3':0<=p.locals:=by omega
      by_cases t4:4<p.locals
      . have HF':=hid (HF.out (by unfold ptB;rw [decide_eq_true ⟨t1',t2'⟩,decide_eq_false (by omega)];rfl))
        clear t1 t2 t3;go_wp2_with fail;go_ret;exact ⟨ret_bool (by first | exact HF'.out.symm | (rw [HF'.out];first | (simp;omega) | (simp [*];done))),thenB HB.out (al1 _ _)⟩
      have t4':p.locals<=4:=by omega
      have HT':=hid (HT.out (by unfold ptB;rw [decide_eq_true ⟨t1',t2'⟩,decide_eq_true ⟨t3',t4'⟩];rfl));clear t1 t2 t3 t4;go_wp2_with fail;go_roundw
      case rel=>exact ⟨j+1,by omega,by go_num,HT'.out,thenB HB.out (al1 _ _),heap_old HX.out⟩
      case measure=>simp [intOf];omega
    . have HP:Hid (headB u=(decide (0<=u.data/\u.data<=512)&&decide (u.parts.length<=6))):=by show _=_;rw [HQ'.out,all_end HL.out hlt];rfl
      by_cases t1:0<=u.data
      . by_cases t2:u.data<=512
        . by_cases t3:u.parts.length<=6
          . have HR:Hid (headB u=true):=by show _=_;rw [HP.out,decide_eq_true ⟨t1,t2⟩,decide_eq_true t3];rfl
            go_wp2_with fail;go_ret;exact ⟨ret_bool (by first | exact HR.out.symm | (rw [HR.out];first | (simp;omega) | (simp [*];done))),HB.out⟩
          . have HR:Hid (headB u=false):=by show _=_;rw [HP.out,decide_eq_true ⟨t1,t2⟩,decide_eq_false t3];rfl
            have t3':6<u.parts.length:=by omega
            clear t3;go_wp2_with fail;go_ret;exact ⟨ret_bool (by first | exact HR.out.symm | (rw [HR.out];first | (simp;omega) | (simp [*];done))),HB.out⟩
        . have HR:Hid (headB u=false):=by show _=_;rw [HP.out,decide_eq_false (by omega)];rfl
          have t2':512<u.data:=by omega
          clear t2;go_wp2_with fail;go_ret;exact ⟨ret_bool (by first | exact HR.out.symm | (rw [HR.out];first | (simp;omega) | (simp [*];done))),HB.out⟩
      . have HR:Hid (headB u=false):=by show _=_;rw [HP.out,decide_eq_false (by omega)];rfl
        have t1':u.data<0:=by omega
        clear t1;go_wp2_with fail;go_ret;exact ⟨ret_bool (by first | exact HR.out.symm | (rw [HR.out];first | (simp;omega) | (simp [*];done))),HB.out⟩
theorem headB_data {u:Un} (h:headB u=true):0<=u.data/\u.data<=512:=by
 unfold headB at h;simp only [Bool.and_eq_true,decide_eq_true_eq] at h;exact h.2.2.1
theorem headB_parts {u:Un} (h:headB u=true) (j:Nat) (hj:j<u.parts.length):(0<=u.parts[j].params/\u.parts[j].params<=3)/\0<=u.parts[j].locals/\u.parts[j].locals<=4:=by
 unfold headB at h;simp only [Bool.and_eq_true,decide_eq_true_eq,List.all_eq_true] at h;have:=h.2.1 u.parts[j] (List.getElem_mem hj);unfold ptB at this;simpa only [Bool.and_eq_true,decide_eq_true_eq] using this
theorem Hold_any (u:Un) (num prt:Int->Int->Int->Bool) (x1:Option Addr) (y1:Nat) (x2:Option Addr) (y2:Nat) (x3:Option Addr) (y3:Nat) (tI:TypeId) (vI:Value) (w:World) (hU:UvAt w u x1 y1 x2 y2 x3 y3)
 (hC:headB u=true->∀ (lc:Int) (W:World),Below w.heap.size w W->CkAt W (ckOf u num prt lc) (.agg #[.string u.name,.slice x1 u.uses.length y1,.int .i64 u.data,.slice x2 u.parts.length y2,.slice x3 u.main.length y3,.iface tI vI,.int .i64 lc])) :
 Calls Tryz.prog 77 #[.agg #[.string u.name,.slice x1 u.uses.length y1,.int .i64 u.data,.slice x2 u.parts.length y2,.slice x3 u.main.length y3],.iface tI vI] w fun e w'=>e = .returned (.bool (holdB u num prt))/\Below w.heap.size w w':=by
 have HH:=hid (headHolds_any u x1 y1 x2 y2 x3 y3 (w.alloc (.cells #[.string u.name,.slice x1 u.uses.length y1,.int .i64 u.data,.slice x2 u.parts.length y2,.slice x3 u.main.length y3] 42)) (hU.later (al1 _ _)));have hpb:=hU.parts.bound;have HU:=hid hU;have HC:=hid hC;have HQ:Hid (holdB u num prt=(headB u&&(u.parts.all (fun p=>acsB (ckOf u num prt (p.params+p.locals)) 6 p.body)&&acsB (ckOf u num prt 0) 6 u.main))):=rfl;clear hU hC;go_enter Tryz.func77,Tryz.ntmps77;go_wp2_with fail;refine HH.out.mono ?_
 cases hh:headB u with
 | false=>
   rintro e w1 ⟨rfl,hb1⟩;have HB1:=hid (thenB (al1 w _) hb1)
   have HR:Hid (holdB u num prt=false):=by show _=_;rw [HQ.out,hh];rfl
   clear hb1;go_wp2_with fail;go_ret;exact ⟨ret_bool (by first | exact HR.out.symm | (rw [HR.out];first | (simp;omega) | (simp [*];done))),HB1.out⟩
 | true =>
   rintro e w1 ⟨rfl,hb1⟩;have HB1:=hid (thenB (al1 w _) hb1);have HX1:=hid ((hb1.block _ (by simp)).trans (heap_newP w (.cells #[.string u.name,.slice x1 u.uses.length y1,.int .i64 u.data,.slice x2 u.parts.length y2,.slice x3 u.main.length y3] 42)));have HCk:=hid (HC.out hh);have HHd:=hid hh
   have HQ':Hid (holdB u num prt=(u.parts.all (fun p=>acsB (ckOf u num prt (p.params+p.locals)) 6 p.body)&&acsB (ckOf u num prt 0) 6 u.main)):=by show _=_;rw [HQ.out,hh];rfl
   obtain ⟨q0,q1,q2,q3,q4,_⟩:=cellsOf5 HX1.out;have qz:=lt_of_heap HX1.out;clear hb1 HC HQ HH hh;go_wp2_with fail
   go_loopw [14] (fun i wr=>∃ j:Nat,j<=u.parts.length/\i = .int .i64 j/\(u.parts.take j).all (fun p=>acsB (ckOf u num prt (p.params+p.locals)) 6 p.body)=true/\Below w.heap.size w wr/\wr.heap[w.heap.size]? = some (.cells #[.string u.name,.slice x1 u.uses.length y1,.int .i64 u.data,.slice x2 u.parts.length y2,.slice x3 u.main.length y3] 42)) (fun i _=>u.parts.length - (intOf i).toNat)
   case atStart=>exact ⟨0,Nat.zero_le _,rfl,rfl,HB1.out,HX1.out⟩
   case round=>
    clear q0 q1 q2 q3 q4 qz;obtain ⟨j,hj,rfl,hall,hb,hB⟩:=hrel;obtain ⟨q0,q1,q2,q3,q4,_⟩:=cellsOf5 hB;have qz:=lt_of_heap hB;have HB:=hid hb;have HX:=hid hB;have HL:=hid hall;clear hall hB hb
    by_cases hlt:j<u.parts.length
    . obtain ⟨b,off,ab,cb,rfl,hx⟩:=((HU.out.later HB.out).parts).pt j hlt
      have HF:=hid (fun (h:acsB (ckOf u num prt (u.parts[j].params+u.parts[j].locals)) 6 u.parts[j].body=false)=>(by rw [HQ'.out,all_not u.parts (fun p=>acsB (ckOf u num prt (p.params+p.locals)) 6 p.body) j hlt h];rfl:holdB u num prt=false));have HT:=hid (fun (h:acsB (ckOf u num prt (u.parts[j].params+u.parts[j].locals)) 6 u.parts[j].body=true)=>(by rw [all_snoc u.parts _ j hlt,HL.out,h];rfl:(u.parts.take (j+1)).all (fun p=>acsB (ckOf u num prt (p.params+p.locals)) 6 p.body)=true));obtain ⟨⟨g1,g2⟩,g3,g4⟩:=headB_parts HHd.out j hlt;obtain ⟨hbl,p0,p1,p2,hbo,_,_⟩:=hx;have HBo:=hid hbo;clear hbo;generalize u.parts[j]=p at *;go_wp2_with fail;refine (blockHolds_any (ckOf u num prt (p.params+p.locals)) u.name x1 y1 _ y2 x3 u.main.length y3 (.iface tI vI) 6 (by decide) p.body Tt ab cb 1 _ (by decide) (HBo.out.later (al2 _ _ _)) (HCk.out (p.params+p.locals) _ (thenB HB.out (al2 _ _ _)))).mono ?_
      cases h1:acsB (ckOf u num prt (p.params+p.locals)) 6 p.body with
      | false=>
        rintro e w3 ⟨rfl,hb3⟩;have HB3:=hid (thenB HB.out (thenB (al2 _ _ _) hb3));have HF':=hid (HF.out h1);clear hb3;go_wp2_with fail;go_ret;exact ⟨ret_bool (by first | exact HF'.out.symm | (rw [HF'.out];first | (simp;omega) | (simp [*];done))),HB3.out⟩
      | true=>
        rintro e w3 ⟨rfl,hb3⟩;have HB3:=hid (thenB (al2 wr _ _) hb3);have HX3:=hid ((HB3.out.block _ (lt_of_heap HX.out)).trans HX.out);have HT':=hid (HT.out h1);clear hb3;go_wp2_with fail;go_roundw
        case rel=>exact ⟨j+1,by omega,by go_num,HT'.out,thenB HB.out HB3.out,HX3.out⟩
        case measure=>simp [intOf];omega
    . have HR:Hid (holdB u num prt=acsB (ckOf u num prt 0) 6 u.main):=by show _=_;rw [HQ'.out,all_end HL.out hlt];rfl
      go_wp2_with fail;refine (blockHolds_any (ckOf u num prt 0) u.name x1 y1 x2 y2 x3 u.main.length y3 (.iface tI vI) 6 (by decide) u.main Tt x3 y3 1 _ (by decide) (HU.out.later HB.out).main (HCk.out 0 _ HB.out)).mono ?_;rintro e w3 ⟨rfl,hb3⟩;have HB3:=hid (thenB HB.out hb3);clear hb3;go_wp2_with fail;go_ret;exact ⟨ret_bool (by first | exact HR.out.symm | (rw [HR.out];first | (simp;omega) | (simp [*];done))),HB3.out⟩
end Go.Proofs.YtndkhgakfodldaaGreatDoor

namespace Go.Proofs.YtndkhgakfodldaaGreatDoor
set_option maxRecDepth 100000
set_option maxHeartbeats 1600000
open Go.RowKit Go.Maps Go.WideMaps
set_option linter.unusedSimpArgs false
set_option linter.unusedVariables false
end Go.Proofs.YtndkhgakfodldaaGreatDoor

namespace Go.Proofs.YtndkhgakfodldaaGreatDoor
set_option maxRecDepth 100000
set_option maxHeartbeats 1600000
open Go.RowKit Go.Maps Go.WideMaps
set_option linter.unusedSimpArgs false
theorem laidOutS:laidOutB Tryz.prog=true:=by kernel_rfl
theorem keyTyRef:Tryz.prog.keyType 244=true:=by kernel_rfl
theorem keyedRef:Keyed Tryz.prog 244:=Keyed.of_law (deep_law_laid laidOutS (m:=3) (by decide) (of_decide_eq_true (by kernel_rfl)) (by kernel_rfl) (by kernel_rfl))
def refKey (mod name:ByteArray):Lit:=.string (keyBytes [.string mod.data.toList,.string name.data.toList])
theorem keyOf_ref (mod name:ByteArray) (h1:mod.size<=maxLen) (h2:name.size<=maxLen):keyOf Tryz.prog 244 (.agg #[.string mod,.string name])=some (refKey mod name):=by
 have hf:(Value.agg #[.string mod,.string name]).formed Tryz.prog 244=true:=by kernel_rfl
 have hl:Tryz.prog.keyLits (Tryz.prog.types.size+1) 244 (Value.agg #[.string mod,.string name]).cells.toList=some [.string mod.data.toList,.string name.data.toList]:=by
  have h0:0<Tryz.prog.types.size:=of_decide_eq_true (by kernel_rfl)
  obtain ⟨k,hk⟩:∃ k,Tryz.prog.types.size=k+1:=⟨Tryz.prog.types.size - 1,by omega⟩
  rw [hk]
  have hs:∀ s:ByteArray,s.size<=maxLen->Tryz.prog.keyLits (k+1) 9 [.string s]=some [.string s.data.toList]:=fun s h=>by
   unfold Program.keyLits;rw [Tryz.underlying9];exact if_pos h
  have e:(Value.agg #[.string mod,.string name]).cells.toList=[.string mod,.string name]:=rfl
  have c2:Tryz.prog.cellsOf 244=2:=by kernel_rfl
  have c9:Tryz.prog.cellsOf 9=1:=by kernel_rfl
  rw [e];unfold Program.keyLits;rw [Tryz.underlying244];simp [c2,c9,hs mod h1,hs name h2]
 unfold keyOf;rw [Tryz.underlying244];simp only [keyTyRef,hf,hl]
 rfl
theorem refKey_ne {a b c d:ByteArray} (h1:a.size<=maxLen) (h2:b.size<=maxLen) (h3:c.size<=maxLen) (h4:d.size<=maxLen) (h:¬ (a=c/\b=d)):refKey a b≠refKey c d:=fun e=>by
 have k1:=keyOf_ref a b h1 h2;have k2:=keyOf_ref c d h3 h4;rw [← e] at k2;have:=keyedRef.inj k1 k2
 injection this with this
 have:=congrArg Array.toList this;simp at this;exact h this
def updK (K:Kn) (mod name:ByteArray) (x:Mg):Kn:=fun a b=>if a=mod/\b=name then some x else K a b
def KFor (D:DataW Value) (K:Kn):Prop:=∀ a b:ByteArray,a.size<=maxLen->b.size<=maxLen->has D (refKey a b)=(K a b).isSome/\D.atKey (refKey a b) (.held mg0.val) = .held ((K a b).getD mg0).val
theorem KFor.put {D:DataW Value} {K:Kn} (h:KFor D K) (hD:IsMap D) (mod name:ByteArray) (h1:mod.size<=maxLen) (h2:name.size<=maxLen) (x:Mg):KFor (D.put (refKey mod name) (.held x.val)) (updK K mod name x):=by
 intro a b ha hb
 by_cases e:a=mod/\b=name
 . obtain ⟨rfl,rfl⟩:=e
   simp only [updK,and_self,if_true];exact ⟨has_put_same (k:=refKey a b) hD trivial _,atKey_put_same (k:=refKey a b) hD trivial _ _⟩
 . have hne:=refKey_ne ha hb h1 h2 e
   simp only [updK,if_neg e];rw [has_put_other hne,atKey_put_other hne];exact h a b ha hb
def KmAt (w:World) (b n:Nat) (K:Kn):Prop:=∃ D,w.ownsMap Tryz.prog 244 heldE b n D/\KFor D K
theorem KmAt.lt {w:World} {b n:Nat} {K:Kn} (h:KmAt w b n K):b<w.heap.size:=by obtain ⟨D,h1,_⟩:=h;exact h1.lt
theorem KmAt.block {w w':World} {b n:Nat} {K:Kn} (h:KmAt w b n K) (hb:w'.heap[b]? = w.heap[b]?):KmAt w' b n K:=by
 obtain ⟨D,h1,h2⟩:=h;obtain ⟨es,clock,hb',r⟩:=h1;exact ⟨D,⟨es,clock,hb.trans hb',r⟩,h2⟩
theorem KmAt.later {w w':World} {b n:Nat} {K:Kn} (h:KmAt w b n K) (hb:Below w.heap.size w w'):KmAt w' b n K:=h.block (hb.block b h.lt)
theorem KmAt.made (w:World):KmAt (w.alloc (.map #[] 0)) w.heap.size 0 (fun _ _=>none):=⟨.map [],World.ownsMap_made w _ _ _,fun _ _ _ _=>⟨rfl,rfl⟩⟩
theorem zeroMg (w:World):(zeroValue 242).run Tryz.prog w = .ok mg0.val w:=by kernel_rfl
theorem KmAt.known {w:World} {b n:Nat} {K:Kn} (h:KmAt w b n K):KnAt w (.map (some b)) K:=by
 intro w' hb mod name h1 h2;obtain ⟨D,k1,k2⟩:=h.later hb;obtain ⟨v,ps,hrun,hv⟩:=k1.look_ok keyedRef Tryz.underlying187 (zeroMg w') (zd:=.held mg0.val) (zp:=[]) rfl (keyOf_ref mod name h1 h2);rw [(k2 mod name h1 h2).2] at hv;simp only [heldE,Option.some.injEq,Prod.mk.injEq,DataW.held.injEq] at hv;rw [hrun,hv.1,(k2 mod name h1 h2).1]
theorem KmAt.put {w:World} {b n:Nat} {K:Kn} (h:KmAt w b n K) (hn:n<maxLen) (mod name:ByteArray) (h1:mod.size<=maxLen) (h2:name.size<=maxLen) (x:Mg) :
 ∃ w',(Instr.mapUpdate 187 (.map (some b)) (.agg #[.string mod,.string name]) x.val).run Tryz.prog w = .ok () w'/\KmAt w' b (n+1) (updK K mod name x)/\w.grownBy w' (some b):=by
 obtain ⟨D,k1,k2⟩:=h;obtain ⟨w',r1,r2,r3⟩:=k1.update keyedRef Tryz.underlying187 hn (keyOf_ref mod name h1 h2) (val:=x.val) (d:=.held x.val) (ps:=[]) rfl;exact ⟨w',r1,⟨_,r2,k2.put k1.isMap mod name h1 h2 x⟩,r3⟩
theorem Keeps.grown {R:Nat} {w w1 w2:World} (h:Keeps R w w1) (hg:w1.grownBy w2 (some R)):Keeps R w w2:=
 h.trans ⟨hg.os,hg.tape,hg.output,hg.size,fun k h1 h2=>hg.block k h1 (fun e=>h2 (Option.some.inj e))⟩
def itMg (m:Int) (i:It):Mg:=⟨i.kind,i.n,m,i.at_⟩
def declK (K:Kn) (mod:ByteArray) (m:Int) (l:List It):Kn:=l.foldl (fun K i=>updK K mod i.name (itMg m i)) K
theorem declK_snoc (K:Kn) (mod:ByteArray) (m:Int) (l:List It) (i:It):declK K mod m (l++[i])=updK (declK K mod m l) mod i.name (itMg m i):=by
 unfold declK;rw [List.foldl_append];rfl
theorem declare_any (K:Kn) (b n:Nat) (mod:ByteArray) (mm:Int) (l:List It) (a:Option Addr) (cap:Nat) (w:World) (hK:KmAt w b n K) (hm:mod.size<=maxLen) (hI:Fx.ItemsAt w a l) (hF:Fx.AllFit l) (hl:l.length<=1000) (hn:n<=1000) (hab:∀ b' off,l≠[]->a=some ⟨b',off,none⟩->b'≠b) :
 Calls Tryz.prog 119 #[.agg #[.map (some b)],.string mod,.int .i64 mm,.slice a l.length cap] w fun e w'=>e = .returned (.tuple #[])/\KmAt w' b (n+l.length) (declK K mod mm l)/\Keeps b w w':=by
 have HI:=hid hI;have HF:=hid hF;have HK:=hid hK;have HAB:=hid hab;have hbw:=hK.lt;clear hI hF hK hab;go_enter Tryz.func119,Tryz.ntmps119;go_wp2_with fail
 go_loopw [9,12] (fun _ i wr=>∃ j:Nat,j<=l.length/\i = .int .i64 j/\KmAt wr b (n+j) (declK K mod mm (l.take j))/\wr.heap[w.heap.size]? = some (.cells #[.map (some b)] 189)/\Keeps b w wr) (fun _ i _=>l.length - (intOf i).toNat)
 case atStart=>exact ⟨0,Nat.zero_le _,rfl,HK.out.later (al1 _ _),heap_newP _ _,(Keeps.refl _ _).alloc _⟩
 case round=>
  obtain ⟨j,hj,rfl,hk,hbx,hke⟩:=hrel;have HKj:=hid hk;have HX:=hid hbx;have HE:=hid hke;have hzr:=hke.size;have hxlt:=lt_of_heap hbx;clear hk hke
  by_cases hlt:j<l.length
  . obtain ⟨b2,off,rfl,hbl,c0,c1,c2,c3⟩:=HI.out.place hlt
    have hne:=HAB.out b2 off (fun h=>by rw [h] at hlt;simp at hlt) rfl;have d0:=(HE.out.cell (off:=off+j*4) hbl hne).trans c0;have d1:=(HE.out.cell (off:=off+j*4+1) hbl hne).trans c1;have d2:=(HE.out.cell (off:=off+j*4+2) hbl hne).trans c2;have d3:=(HE.out.cell (off:=off+j*4+3) hbl hne).trans c3;have hbl':b2<wr.heap.size:=Nat.lt_of_lt_of_le hbl hzr;have hnm:=HF.out l[j] (List.getElem_mem _)
    have HSn:Hid (updK (declK K mod mm (l.take j)) mod l[j].name (itMg mm l[j])=declK K mod mm (l.take (j+1))):=by
     show _=declK K mod mm (l.take (j+1));rw [List.take_succ_eq_append_getElem hlt,declK_snoc]
    generalize l[j]=x at *;obtain ⟨w2,hrun,hK2,hg2⟩:=(HKj.out.later (al1 _ (.cells #[.int .i64 x.kind,.int .i64 x.n,.int .i64 x.at_,.string x.name] 98))).put (by unfold maxLen;omega) mod x.name hm hnm (itMg mm x);simp only [Mg.val,itMg] at hrun;rw [HSn.out] at hK2;have HK2:=hid hK2;have HE2:=hid ((HE.out.alloc _).grown hg2);have HX2:Hid (w2.heap[w.heap.size]? = some (.cells #[.map (some b)] 189)):=(hg2.block _ (by simp;omega) (fun e=>by have:=Option.some.inj e;omega)).trans (heap_old HX.out)
    have k0:wr.cell? ⟨w.heap.size,0,none⟩=some (.map (some b)):=by rw [Lib.cell_of_heap HX.out];rfl
    clear c0 c1 c2 c3 hK2 hg2 hbx hnm;go_wp2_with fail;go_roundw
    case rel=>exact ⟨j+1,by omega,by go_num,by rw [← Nat.add_assoc];exact HK2.out,HX2.out,HE2.out⟩
    case measure=>simp [intOf];omega
  . obtain rfl:j=l.length:=by omega
    have HKl:Hid (KmAt wr b (n+l.length) (declK K mod mm l)):=by have:=HKj.out;rw [List.take_length] at this;exact this
    clear hbx;go_wp2_with fail;go_end0;exact ⟨rfl,HKl.out,HE.out⟩
end Go.Proofs.YtndkhgakfodldaaGreatDoor
