import Derived.Test.YtndkhgakfodldaaGreatDoorKc
namespace Go.Proofs.YtndkhgakfodldaaGreatDoor
set_option maxRecDepth 100000
set_option maxHeartbeats 3200000
open Go.RowKit Go.Maps Go.WideMaps
set_option linter.unusedSimpArgs false
set_option linter.unusedVariables false
structure UvAt (w:World) (u:Un) (x1:OA) (y1:Nat) (x2:OA) (y2:Nat) (x3:OA) (y3:Nat):Prop where
 wn:u.name.size<=maxLen
 uses:DAt w Tt x1 u.uses.length (zal u.uses)
 wd:(Lit.int .i64 u.data).wf=true
 parts:DAt w Tt x2 u.parts.length (zjt u.parts)
 main:DAt w Tt x3 u.main.length (zcg u.main)
theorem UvAt.later {w w':World} {u:Un} {x1:OA} {y1:Nat} {x2:OA} {y2:Nat} {x3:OA} {y3:Nat} (h:UvAt w u x1 y1 x2 y2 x3 y3) (hb:Below w.heap.size w w'):UvAt w' u x1 y1 x2 y2 x3 y3:=⟨h.wn,h.uses.later hb,h.wd,h.parts.later hb,h.main.later hb⟩
theorem UvAt.mo {w:World} {u:Un} {x1:OA} {y1:Nat} {x2:OA} {y2:Nat} {x3:OA} {y3:Nat} (h:UvAt w u x1 y1 x2 y2 x3 y3):MoAt w Tt ⟨u.name,u.uses,[],[],[]⟩ (.agg #[.string u.name,.slice x1 u.uses.length y1,.slice none 0 0,.slice none 0 0,.slice none 0 0]) x1 y1 none 0 none 0 none 0:=
 ⟨rfl,h.wn,h.uses,⟨vaa _,vad _,Or.inl rfl⟩,⟨vaa _,vad _,Or.inl rfl⟩,⟨vaa _,vad _,Or.inl rfl⟩⟩
theorem zlt (u:Un) (x1:OA) (y1:Nat) (x2:OA) (y2:Nat) (x3:OA) (y3:Nat) (w:World) (hU:UvAt w u x1 y1 x2 y2 x3 y3) :
 Calls Tryz.prog 127 #[.agg #[.string u.name,.slice x1 u.uses.length y1,.int .i64 u.data,.slice x2 u.parts.length y2,.slice x3 u.main.length y3]] w fun e w'=>e = .returned (.bool (zeh u))/\Below w.heap.size w w':=by
 have HC:=hid (zyh _ _ _ _ _ _ _ _ _ _ (w.alloc (.cells #[.string u.name,.slice x1 u.uses.length y1,.int .i64 u.data,.slice x2 u.parts.length y2,.slice x3 u.main.length y3] 42)) (hU.later (al1 _ _)).mo);have hpb:=hU.parts.bound;have HU:=hid hU;clear hU;have HQ:Hid (zeh u=(decide (chkM ⟨u.name,u.uses,[],[],[]⟩=0)&&(u.parts.all ptB&&(decide (0<=u.data/\u.data<=512)&&decide (u.parts.length<=6))))):=rfl
 go_enter Tryz.func127,Tryz.ntmps127;go_wp2_with fail;refine HC.out.mono ?_;rintro e w1 ⟨hend,hb1⟩;have HB1:=hid (thenB (al1 w _) hb1);have HX1:=hid ((hb1.block _ (by simp)).trans (heap_newP w (.cells #[.string u.name,.slice x1 u.uses.length y1,.int .i64 u.data,.slice x2 u.parts.length y2,.slice x3 u.main.length y3] 42)));have hz1:=zab HX1.out;unfold zpx at hend;clear hb1 HC
 rcases hend with ⟨hc,rfl⟩ | ⟨hc,af,cf,rfl,_⟩
 . have HF:Hid (zeh u=false):=by show _=_;rw [HQ.out,decide_eq_false hc];rfl
   generalize chkM ⟨u.name,u.uses,[],[],[]⟩=z at *;go_wp2_with fail;go_ret;exact ⟨zaa (by first | exact HF.out.symm | (rw [HF.out];first | (simp;omega) | (simp [*];done))),thenB HB1.out (al1 _ _)⟩
 . have HQ' : Hid (zeh u=(u.parts.all ptB&&(decide (0<=u.data/\u.data<=512)&&decide (u.parts.length<=6)))):=by show _=_;rw [HQ.out,decide_eq_true hc];rfl
   generalize shownIts ⟨u.name,u.uses,[],[],[]⟩=sh at *;obtain ⟨q0,q1,q2,q3,q4,_⟩:=zad HX1.out;clear hc HQ;go_wp2_with fail
   go_loopw [21] (fun i wr=>∃ j:Nat,j<=u.parts.length/\i = .int .i64 j/\(u.parts.take j).all ptB=true/\Below w.heap.size w wr/\wr.heap[w.heap.size]? = some (.cells #[.string u.name,.slice x1 u.uses.length y1,.int .i64 u.data,.slice x2 u.parts.length y2,.slice x3 u.main.length y3] 42)) (fun i _=>u.parts.length - (intOf i).toNat)
   case atStart=>exact ⟨0,vad _,rfl,rfl,thenB HB1.out (al1 _ _),zae HX1.out⟩
   case round=>
    clear q0 q1 q2 q3 q4;obtain ⟨j,hj,rfl,hall,hb,hB⟩:=hrel;obtain ⟨q0,q1,q2,q3,q4,_⟩:=zad hB;have qz:=zab hB;have HB:=hid hb;have HX:=hid hB;have HL:=hid hall;clear hall hB hb
    by_cases hlt:j<u.parts.length
    . obtain ⟨b,off,ab,cb,rfl,hx⟩:=((HU.out.later HB.out).parts).pt j hlt
      have HF:=hid (fun (h:ptB u.parts[j]=false)=>(by rw [HQ'.out,all_not u.parts ptB j hlt h];rfl:zeh u=false));have HT:=hid (fun (h:ptB u.parts[j]=true)=>(by rw [all_snoc u.parts _ j hlt,HL.out,h];rfl:(u.parts.take (j+1)).all ptB=true));obtain ⟨hbl,p0,p1,p2,_,_,_⟩:=hx;generalize u.parts[j]=p at *
      by_cases t1:p.params<0
      . have HF':=hid (HF.out (by unfold ptB;rw [decide_eq_false (by omega)];rfl))
        go_wp2_with fail;go_ret;exact ⟨zaa (by first | exact HF'.out.symm | (rw [HF'.out];first | (simp;omega) | (simp [*];done))),thenB HB.out (al1 _ _)⟩
      have t1':0<=p.params:=by omega
      by_cases t2:3<p.params
      . have HF':=hid (HF.out (by unfold ptB;rw [decide_eq_false (by omega)];rfl))
        clear t1;go_wp2_with fail;go_ret;exact ⟨zaa (by first | exact HF'.out.symm | (rw [HF'.out];first | (simp;omega) | (simp [*];done))),thenB HB.out (al1 _ _)⟩
      have t2':p.params<=3:=by omega
      by_cases t3:p.locals<0
      . have HF':=hid (HF.out (by unfold ptB;rw [decide_eq_true ⟨t1',t2'⟩,decide_eq_false (by omega)];rfl))
        clear t1 t2;go_wp2_with fail;go_ret;exact ⟨zaa (by first | exact HF'.out.symm | (rw [HF'.out];first | (simp;omega) | (simp [*];done))),thenB HB.out (al1 _ _)⟩
      have t3':0<=p.locals:=by omega
      by_cases t4:4<p.locals
      . have HF':=hid (HF.out (by unfold ptB;rw [decide_eq_true ⟨t1',t2'⟩,decide_eq_false (by omega)];rfl))
        clear t1 t2 t3;go_wp2_with fail;go_ret;exact ⟨zaa (by first | exact HF'.out.symm | (rw [HF'.out];first | (simp;omega) | (simp [*];done))),thenB HB.out (al1 _ _)⟩
      have t4':p.locals<=4:=by omega
      have HT':=hid (HT.out (by unfold ptB;rw [decide_eq_true ⟨t1',t2'⟩,decide_eq_true ⟨t3',t4'⟩];rfl));clear t1 t2 t3 t4;go_wp2_with fail;go_roundw
      case rel=>exact ⟨j+1,by omega,by go_num,HT'.out,thenB HB.out (al1 _ _),zae HX.out⟩
      case measure=>simp [intOf];omega
    . have HP:Hid (zeh u=(decide (0<=u.data/\u.data<=512)&&decide (u.parts.length<=6))):=by show _=_;rw [HQ'.out,zb1 HL.out hlt];rfl
      by_cases t1:0<=u.data
      . by_cases t2:u.data<=512
        . by_cases t3:u.parts.length<=6
          . have HR:Hid (zeh u=true):=by show _=_;rw [HP.out,decide_eq_true ⟨t1,t2⟩,decide_eq_true t3];rfl
            go_wp2_with fail;go_ret;exact ⟨zaa (by first | exact HR.out.symm | (rw [HR.out];first | (simp;omega) | (simp [*];done))),HB.out⟩
          . have HR:Hid (zeh u=false):=by show _=_;rw [HP.out,decide_eq_true ⟨t1,t2⟩,decide_eq_false t3];rfl
            have t3':6<u.parts.length:=by omega
            clear t3;go_wp2_with fail;go_ret;exact ⟨zaa (by first | exact HR.out.symm | (rw [HR.out];first | (simp;omega) | (simp [*];done))),HB.out⟩
        . have HR:Hid (zeh u=false):=by show _=_;rw [HP.out,decide_eq_false (by omega)];rfl
          have t2':512<u.data:=by omega
          clear t2;go_wp2_with fail;go_ret;exact ⟨zaa HR.out.symm,HB.out⟩
      . have HR:Hid (zeh u=false):=by show _=_;rw [HP.out,decide_eq_false (by omega)];rfl
        have t1':u.data<0:=by omega
        clear t1;go_wp2_with fail;go_ret;exact ⟨zaa HR.out.symm,HB.out⟩
theorem zhh {u:Un} (h:zeh u=true):0<=u.data/\u.data<=512:=by
 unfold zeh at h;simp only [vae,decide_eq_true_eq] at h;exact h.2.2.1
theorem zo0 {u:Un} (h:zeh u=true) (j:Nat) (hj:j<u.parts.length):(0<=u.parts[j].params/\u.parts[j].params<=3)/\0<=u.parts[j].locals/\u.parts[j].locals<=4:=by
 unfold zeh at h;simp only [vae,decide_eq_true_eq,vas] at h;have:=h.2.1 u.parts[j] (vah hj);unfold ptB at this;simpa only [vae,decide_eq_true_eq] using this
theorem zxd (u:Un) (num prt:Int->Int->Int->Bool) (x1:OA) (y1:Nat) (x2:OA) (y2:Nat) (x3:OA) (y3:Nat) (tI:TypeId) (vI:Value) (w:World) (hU:UvAt w u x1 y1 x2 y2 x3 y3)
 (hC:zeh u=true->∀ (lc:Int) (W:World),Below w.heap.size w W->CkAt W (zjv u num prt lc) (.agg #[.string u.name,.slice x1 u.uses.length y1,.int .i64 u.data,.slice x2 u.parts.length y2,.slice x3 u.main.length y3,.iface tI vI,.int .i64 lc])) :
 Calls Tryz.prog 77 #[.agg #[.string u.name,.slice x1 u.uses.length y1,.int .i64 u.data,.slice x2 u.parts.length y2,.slice x3 u.main.length y3],.iface tI vI] w fun e w'=>e = .returned (.bool (zka u num prt))/\Below w.heap.size w w':=by
 have HH:=hid (zlt u x1 y1 x2 y2 x3 y3 (w.alloc (.cells #[.string u.name,.slice x1 u.uses.length y1,.int .i64 u.data,.slice x2 u.parts.length y2,.slice x3 u.main.length y3] 42)) (hU.later (al1 _ _)));have hpb:=hU.parts.bound;have HU:=hid hU;have HC:=hid hC;have HQ:Hid (zka u num prt=(zeh u&&(u.parts.all (fun p=>zgh (zjv u num prt (p.params+p.locals)) 6 p.body)&&zgh (zjv u num prt 0) 6 u.main))):=rfl;clear hU hC;go_enter Tryz.func77,Tryz.ntmps77;go_wp2_with fail;refine HH.out.mono ?_
 cases hh:zeh u with
 | false=>
   rintro e w1 ⟨rfl,hb1⟩;have HB1:=hid (thenB (al1 w _) hb1)
   have HR:Hid (zka u num prt=false):=by show _=_;rw [HQ.out,hh];rfl
   clear hb1;go_wp2_with fail;go_ret;exact ⟨zaa HR.out.symm,HB1.out⟩
 | true =>
   rintro e w1 ⟨rfl,hb1⟩;have HB1:=hid (thenB (al1 w _) hb1);have HX1:=hid ((hb1.block _ (by simp)).trans (heap_newP w (.cells #[.string u.name,.slice x1 u.uses.length y1,.int .i64 u.data,.slice x2 u.parts.length y2,.slice x3 u.main.length y3] 42)));have HCk:=hid (HC.out hh);have HHd:=hid hh
   have HQ':Hid (zka u num prt=(u.parts.all (fun p=>zgh (zjv u num prt (p.params+p.locals)) 6 p.body)&&zgh (zjv u num prt 0) 6 u.main)):=by show _=_;rw [HQ.out,hh];rfl
   obtain ⟨q0,q1,q2,q3,q4,_⟩:=zad HX1.out;have qz:=zab HX1.out;clear hb1 HC HQ HH hh;go_wp2_with fail
   go_loopw [14] (fun i wr=>∃ j:Nat,j<=u.parts.length/\i = .int .i64 j/\(u.parts.take j).all (fun p=>zgh (zjv u num prt (p.params+p.locals)) 6 p.body)=true/\Below w.heap.size w wr/\wr.heap[w.heap.size]? = some (.cells #[.string u.name,.slice x1 u.uses.length y1,.int .i64 u.data,.slice x2 u.parts.length y2,.slice x3 u.main.length y3] 42)) (fun i _=>u.parts.length - (intOf i).toNat)
   case atStart=>exact ⟨0,vad _,rfl,rfl,HB1.out,HX1.out⟩
   case round=>
    clear q0 q1 q2 q3 q4 qz;obtain ⟨j,hj,rfl,hall,hb,hB⟩:=hrel;obtain ⟨q0,q1,q2,q3,q4,_⟩:=zad hB;have qz:=zab hB;have HB:=hid hb;have HX:=hid hB;have HL:=hid hall;clear hall hB hb
    by_cases hlt:j<u.parts.length
    . obtain ⟨b,off,ab,cb,rfl,hx⟩:=((HU.out.later HB.out).parts).pt j hlt
      have HF:=hid (fun (h:zgh (zjv u num prt (u.parts[j].params+u.parts[j].locals)) 6 u.parts[j].body=false)=>(by rw [HQ'.out,all_not u.parts (fun p=>zgh (zjv u num prt (p.params+p.locals)) 6 p.body) j hlt h];rfl:zka u num prt=false));have HT:=hid (fun (h:zgh (zjv u num prt (u.parts[j].params+u.parts[j].locals)) 6 u.parts[j].body=true)=>(by rw [all_snoc u.parts _ j hlt,HL.out,h];rfl:(u.parts.take (j+1)).all (fun p=>zgh (zjv u num prt (p.params+p.locals)) 6 p.body)=true));obtain ⟨⟨g1,g2⟩,g3,g4⟩:=zo0 HHd.out j hlt;obtain ⟨hbl,p0,p1,p2,hbo,_,_⟩:=hx;have HBo:=hid hbo;clear hbo;generalize u.parts[j]=p at *;go_wp2_with fail;refine (zd5 (zjv u num prt (p.params+p.locals)) u.name x1 y1 _ y2 x3 u.main.length y3 (.iface tI vI) 6 (by decide) p.body Tt ab cb 1 _ (by decide) (HBo.out.later (al2 _ _ _)) (HCk.out (p.params+p.locals) _ (thenB HB.out (al2 _ _ _)))).mono ?_
      cases h1:zgh (zjv u num prt (p.params+p.locals)) 6 p.body with
      | false=>
        rintro e w3 ⟨rfl,hb3⟩;have HB3:=hid (thenB HB.out (thenB (al2 _ _ _) hb3));have HF':=hid (HF.out h1);clear hb3;go_wp2_with fail;go_ret;exact ⟨zaa (by first | exact HF'.out.symm | (rw [HF'.out];first | (simp;omega) | (simp [*];done))),HB3.out⟩
      | true=>
        rintro e w3 ⟨rfl,hb3⟩;have HB3:=hid (thenB (al2 wr _ _) hb3);have HX3:=hid ((HB3.out.block _ (zab HX.out)).trans HX.out);have HT':=hid (HT.out h1);clear hb3;go_wp2_with fail;go_roundw
        case rel=>exact ⟨j+1,by omega,by go_num,HT'.out,thenB HB.out HB3.out,HX3.out⟩
        case measure=>simp [intOf];omega
    . have HR:Hid (zka u num prt=zgh (zjv u num prt 0) 6 u.main):=by show _=_;rw [HQ'.out,zb1 HL.out hlt];rfl
      go_wp2_with fail;refine (zd5 (zjv u num prt 0) u.name x1 y1 x2 y2 x3 u.main.length y3 (.iface tI vI) 6 (by decide) u.main Tt x3 y3 1 _ (by decide) (HU.out.later HB.out).main (HCk.out 0 _ HB.out)).mono ?_;rintro e w3 ⟨rfl,hb3⟩;have HB3:=hid (thenB HB.out hb3);clear hb3;go_wp2_with fail;go_ret;exact ⟨zaa HR.out.symm,HB3.out⟩
set_option maxHeartbeats 1600000
def zt8 (us:List Un) (m at_ n:Int):Bool:=match us[(m - 1).toNat]? with | some u=>zwf u.data at_ n | none=>false
def zo1 (us:List Un) (m at_ k:Int):Bool:=match us[(m - 1).toNat]? with | some u=>zpz u.parts at_ k | none=>false
theorem z1q {us:List Un} {i:Nat} (h:i<us.length):us[((i:Int)+1 - 1).toNat]? = some us[i]:=by
 rw [show ((i:Int)+1 - 1).toNat=i from by omega];exact vaj h
theorem znd (us:List Un) (a:OA) (cap i:Nat) (at_ n:Int) (w:World) (hD:DAt w Tt a us.length (zfs us)) (hi:i<us.length) (hb:∀ u ∈ us,0<=u.data/\u.data<=512) (ha:(Lit.int .i64 at_).wf=true) (h1:1<=n) (h2:n<=32) :
 Calls Tryz.prog 329 #[.slice a us.length cap,.int .i64 ((i:Int)+1),.int .i64 at_,.int .i64 n] w fun e w'=>e = .returned (.bool (zt8 us ((i:Int)+1) at_ n))/\Below w.heap.size w w':=by
 have hbd:=hD.bound;obtain ⟨b,off,a1,k1,a2,k2,a3,k3,rfl,hx⟩:=hD.un i hi
 have HR:Hid (zt8 us ((i:Int)+1) at_ n=zwf us[i].data at_ n):=by show _=_;unfold zt8;rw [z1q hi]
 have hbb:=hb us[i] (vah hi);obtain ⟨hbl,c0,c1,c2,c3,c4,_,_,_,_,_⟩:=hx;have HL:=hid (zn6 us[i].data at_ n w hbb.1 hbb.2 h1 h2 ha);generalize us[i]=u at *
 have hii:(i:Int)+1 - 1=i:=by omega
 clear hD hb hbb ha;go_enter Tryz.func329,Tryz.ntmps329;go_wp2_with fail;refine HL.out.mono ?_;rintro e w1 ⟨rfl,rfl⟩;go_wp2_with fail;go_ret;exact ⟨zaa HR.out.symm,Below.refl _ _⟩
theorem zlu (us:List Un) (a:OA) (cap i:Nat) (at_:Int) (k:Nat) (w:World) (hD:DAt w Tt a us.length (zfs us)) (hi:i<us.length) (ha:(Lit.int .i64 at_).wf=true) (hk:k<=17592186044416) :
 Calls Tryz.prog 330 #[.slice a us.length cap,.int .i64 ((i:Int)+1),.int .i64 at_,.int .i64 k] w fun e w'=>e = .returned (.bool (zo1 us ((i:Int)+1) at_ k))/\Below w.heap.size w w':=by
 have hbd:=hD.bound;obtain ⟨b,off,a1,k1,a2,k2,a3,k3,rfl,hx⟩:=hD.un i hi
 have HR:Hid (zo1 us ((i:Int)+1) at_ k=zpz us[i].parts at_ k):=by show _=_;unfold zo1;rw [z1q hi]
 obtain ⟨hbl,c0,c1,c2,c3,c4,_,hP,_,_,_⟩:=hx;have hpb:=hP.bound;have HP:=hid hP;generalize us[i]=u at *
 have hii:(i:Int)+1 - 1=i:=by omega
 clear hD hP ha
 by_cases t1:0<=at_
 . obtain ⟨j,rfl⟩:∃ j:Nat,at_=j:=⟨at_.toNat,by omega⟩
   by_cases t2:j<u.parts.length
   . obtain ⟨b2,off2,ab,cb,rfl,hx⟩:=HP.out.pt j t2
     have HQ:Hid (zpz u.parts j k=decide (u.parts[j].params=k)):=by show _=_;unfold zpz;rw [decide_eq_true t1,vbf,vaj t2];rfl
     obtain ⟨hbl2,p0,_,_,_,_,_⟩:=hx
     have t2':(j:Int)<u.parts.length:=by omega
     generalize u.parts[j].params=pp at *
     by_cases t3:pp=k
     . have HR':Hid (zo1 us ((i:Int)+1) j k=true):=by show _=_;rw [HR.out,HQ.out,decide_eq_true t3]
       subst t3;go_enter Tryz.func330,Tryz.ntmps330;go_wp2_with fail;go_ret;exact ⟨zaa HR'.out.symm,Below.refl _ _⟩
     . have HR':Hid (zo1 us ((i:Int)+1) j k=false):=by show _=_;rw [HR.out,HQ.out,decide_eq_false t3]
       go_enter Tryz.func330,Tryz.ntmps330;go_wp2_with fail;go_ret;exact ⟨zaa (by first | exact HR'.out.symm | (rw [HR'.out];first | (simp;omega) | (simp [*];done))),Below.refl _ _⟩
   . have HR':Hid (zo1 us ((i:Int)+1) j k=false):=by show _=_;rw [HR.out];unfold zpz;rw [vbf,vbi (by omega)];simp
     have t2':u.parts.length<=j:=by omega
     clear t2;go_enter Tryz.func330,Tryz.ntmps330;go_wp2_with fail;go_ret;exact ⟨zaa HR'.out.symm,Below.refl _ _⟩
 . have HR':Hid (zo1 us ((i:Int)+1) at_ k=false):=by show _=_;rw [HR.out];unfold zpz;rw [decide_eq_false t1];rfl
   have t1':at_<0:=by omega
   clear t1;go_enter Tryz.func330,Tryz.ntmps330;go_wp2_with fail;go_ret;exact ⟨zaa HR'.out.symm,Below.refl _ _⟩
theorem zqq {c:Ck} {m:Int} (h:zsy c m=true):∃ i:Nat,m=(i:Int)+1/\i<c.uses:=by
 have:=of_decide_eq_true h;exact ⟨(m - 1).toNat,by omega,by omega⟩
theorem zr4 {us:List Un} {a:OA} {cap:Nat} {w:World} (hD:DAt w Tt a us.length (zfs us)) (hb:∀ u ∈ us,0<=u.data/\u.data<=512) (u:Un) (hu:u.uses.length=us.length) (lc:Int) :
 UsAt w (zjv u (zt8 us) (zo1 us) lc) 329 330 (.slice a us.length cap):=by
 refine ⟨fun W hW m at_ n hm ha h1 h2=>?_,fun W hW m at_ k hm ha hk=>?_⟩
 . obtain ⟨i,rfl,hi⟩:=zqq hm
   exact znd us a cap i at_ n W (hD.later hW) (by rw [← hu];exact hi) hb ha h1 h2
 . obtain ⟨i,rfl,hi⟩:=zqq hm
   exact zlu us a cap i at_ k W (hD.later hW) (by rw [← hu];exact hi) ha hk
end Go.Proofs.YtndkhgakfodldaaGreatDoor
