/-
  Package units: a unit but for its statements; a unit.
-/
import Derived.Test.YtndkhgakfodldaaGreatDoorKc
import Derived.Test.YtndkhgakfodldaaGreatDoorUi
namespace Go.Proofs.YtndkhgakfodldaaGreatDoor
set_option maxRecDepth 100000
set_option maxHeartbeats 3200000
open Go.RowKit Go.Maps Go.WideMaps
set_option linter.unusedSimpArgs false
set_option linter.unusedVariables false
structure UvAt (w:World) (u:Un) (x1:OA) (y1:Nat) (x2:OA) (y2:Nat) (x3:OA) (y3:Nat):Prop where
 wn:u.name.size<=maxLen
 uses:DAt w Tt x1 u.uses.length (zam u.uses)
 wd:(Lit.int .i64 u.data).wf=true
 parts:DAt w Tt x2 u.parts.length (zlc u.parts)
 main:DAt w Tt x3 u.main.length (zed u.main)
theorem UvAt.later {w w':World} {u:Un} {x1:OA} {y1:Nat} {x2:OA} {y2:Nat} {x3:OA} {y3:Nat} (h:UvAt w u x1 y1 x2 y2 x3 y3) (hb:Below w.heap.size w w'):UvAt w' u x1 y1 x2 y2 x3 y3:=⟨h.wn,h.uses.later hb,h.wd,h.parts.later hb,h.main.later hb⟩
theorem UvAt.mo {w:World} {u:Un} {x1:OA} {y1:Nat} {x2:OA} {y2:Nat} {x3:OA} {y3:Nat} (h:UvAt w u x1 y1 x2 y2 x3 y3):MoAt w Tt ⟨u.name,u.uses,[],[],[]⟩ (.agg #[.string u.name,.slice x1 u.uses.length y1,.slice none 0 0,.slice none 0 0,.slice none 0 0]) x1 y1 none 0 none 0 none 0:=
 ⟨rfl,h.wn,h.uses,⟨vaa _,vae _,Or.inl rfl⟩,⟨vaa _,vae _,Or.inl rfl⟩,⟨vaa _,vae _,Or.inl rfl⟩⟩
theorem zoj (u:Un) (x1:OA) (y1:Nat) (x2:OA) (y2:Nat) (x3:OA) (y3:Nat) (w:World) (hU:UvAt w u x1 y1 x2 y2 x3 y3) :
 Calls Tryz.prog 127 #[.agg #[.string u.name,.slice x1 u.uses.length y1,.int .i64 u.data,.slice x2 u.parts.length y2,.slice x3 u.main.length y3]] w fun e w'=>e = .returned (.bool (zd1 u))/\Below w.heap.size w w':=by
 have HC:=hid (z1s _ _ _ _ _ _ _ _ _ _ (w.alloc (.cells #[.string u.name,.slice x1 u.uses.length y1,.int .i64 u.data,.slice x2 u.parts.length y2,.slice x3 u.main.length y3] 42)) (hU.later (al1 _ _)).mo);have hpb:=hU.parts.bound;have HU:=hid hU;clear hU;have HQ:Hid (zd1 u=(decide (chkM ⟨u.name,u.uses,[],[],[]⟩=0)&&(u.parts.all ptB&&(decide (0<=u.data/\u.data<=512)&&decide (u.parts.length<=6))))):=rfl
 go_enter Tryz.func127,Tryz.ntmps127;go_wp2_with fail;refine HC.out.mono ?_;rintro e w1 ⟨hend,hb1⟩;have HB1:=hid (thenB (al1 w _) hb1);have HX1:=hid ((hb1.block _ (by simp)).trans (heap_newP w (.cells #[.string u.name,.slice x1 u.uses.length y1,.int .i64 u.data,.slice x2 u.parts.length y2,.slice x3 u.main.length y3] 42)));have hz1:=zab HX1.out;unfold zss at hend;clear hb1 HC
 rcases hend with ⟨hc,rfl⟩ | ⟨hc,af,cf,rfl,_⟩
 . have HF:Hid (zd1 u=false):=by show _=_;rw [HQ.out,decide_eq_false hc];rfl
   generalize chkM ⟨u.name,u.uses,[],[],[]⟩=z at *;go_wp2_with fail;go_ret;exact ⟨zaa (by first | exact HF.out.symm | (rw [HF.out];first | (simp;omega) | (simp [*];done))),thenB HB1.out (al1 _ _)⟩
 . have HQ' : Hid (zd1 u=(u.parts.all ptB&&(decide (0<=u.data/\u.data<=512)&&decide (u.parts.length<=6)))):=by show _=_;rw [HQ.out,decide_eq_true hc];rfl
   generalize shownIts ⟨u.name,u.uses,[],[],[]⟩=sh at *;obtain ⟨q0,q1,q2,q3,q4,_⟩:=zad HX1.out;clear hc HQ;go_wp2_with fail
   go_loopw [21] (fun i wr=>∃ j:Nat,j<=u.parts.length/\i = .int .i64 j/\(u.parts.take j).all ptB=true/\Below w.heap.size w wr/\wr.heap[w.heap.size]? = some (.cells #[.string u.name,.slice x1 u.uses.length y1,.int .i64 u.data,.slice x2 u.parts.length y2,.slice x3 u.main.length y3] 42)) (fun i _=>u.parts.length - (intOf i).toNat)
   case atStart=>exact ⟨0,vae _,rfl,rfl,thenB HB1.out (al1 _ _),zae HX1.out⟩
   case round=>
    clear q0 q1 q2 q3 q4;obtain ⟨j,hj,rfl,hall,hb,hB⟩:=hrel;obtain ⟨q0,q1,q2,q3,q4,_⟩:=zad hB;have qz:=zab hB;have HB:=hid hb;have HX:=hid hB;have HL:=hid hall;clear hall hB hb
    by_cases hlt:j<u.parts.length
    . obtain ⟨b,off,ab,cb,rfl,hx⟩:=((HU.out.later HB.out).parts).pt j hlt
      have HF:=hid (fun (h:ptB u.parts[j]=false)=>(by rw [HQ'.out,all_not u.parts ptB j hlt h];rfl:zd1 u=false));have HT:=hid (fun (h:ptB u.parts[j]=true)=>(by rw [all_snoc u.parts _ j hlt,HL.out,h];rfl:(u.parts.take (j+1)).all ptB=true));obtain ⟨hbl,p0,p1,p2,_,_,_⟩:=hx;generalize u.parts[j]=p at *
      by_cases t1:p.params<0
      . have HF':=hid (HF.out (by unfold ptB;rw [decide_eq_false (by omega)];rfl))
        go_wp2_with fail;go_ret;exact ⟨zaa (by first | exact HF'.out.symm | (rw [HF'.out];first | (simp;omega) | (simp [*];done))),thenB HB.out (al1 _ _)⟩
      have t1':0<=p.params:=by omega
      by_cases t2:3<p.params
      . have HF':=hid (HF.out (by unfold ptB;rw [decide_eq_false (by omega)];rfl))
        clear t1;go_wp2_with fail;go_ret;exact ⟨zaa (by first | exact HF'.out.symm | (rw [HF'.out];first | (simp;omega) | (simp [*];done))),thenB HB.out (al1 _ _)⟩
      have t2':p.params<=3:=by omega
      by_cases t3:p.locals<0
      . have HF':=hid (HF.out (by unfold ptB;rw [decide_eq_true ⟨t1',t2'⟩,decide_eq_false (by omega)];rfl))
        clear t1 t2;go_wp2_with fail;go_ret;exact ⟨zaa (by first | exact HF'.out.symm | (rw [HF'.out];first | (simp;omega) | (simp [*];done))),thenB HB.out (al1 _ _)⟩
      have t3':0<=p.locals:=by omega
      by_cases t4:4<p.locals
      . have HF':=hid (HF.out (by unfold ptB;rw [decide_eq_true ⟨t1',t2'⟩,decide_eq_false (by omega)];rfl))
        clear t1 t2 t3;go_wp2_with fail;go_ret;exact ⟨zaa (by first | exact HF'.out.symm | (rw [HF'.out];first | (simp;omega) | (simp [*];done))),thenB HB.out (al1 _ _)⟩
      have t4':p.locals<=4:=by omega
      have HT':=hid (HT.out (by unfold ptB;rw [decide_eq_true ⟨t1',t2'⟩,decide_eq_true ⟨t3',t4'⟩];rfl));clear t1 t2 t3 t4;go_wp2_with fail;go_roundw
      case rel=>exact ⟨j+1,by omega,by go_num,HT'.out,thenB HB.out (al1 _ _),zae HX.out⟩
      case measure=>simp [intOf];omega
    . have HP:Hid (zd1 u=(decide (0<=u.data/\u.data<=512)&&decide (u.parts.length<=6))):=by show _=_;rw [HQ'.out,zc3 HL.out hlt];rfl
      by_cases t1:0<=u.data
      . by_cases t2:u.data<=512
        . by_cases t3:u.parts.length<=6
          . have HR:Hid (zd1 u=true):=by show _=_;rw [HP.out,decide_eq_true ⟨t1,t2⟩,decide_eq_true t3];rfl
            go_wp2_with fail;go_ret;exact ⟨zaa (by first | exact HR.out.symm | (rw [HR.out];first | (simp;omega) | (simp [*];done))),HB.out⟩
          . have HR:Hid (zd1 u=false):=by show _=_;rw [HP.out,decide_eq_true ⟨t1,t2⟩,decide_eq_false t3];rfl
            have t3':6<u.parts.length:=by omega
            clear t3;go_wp2_with fail;go_ret;exact ⟨zaa (by first | exact HR.out.symm | (rw [HR.out];first | (simp;omega) | (simp [*];done))),HB.out⟩
        . have HR:Hid (zd1 u=false):=by show _=_;rw [HP.out,decide_eq_false (by omega)];rfl
          have t2':512<u.data:=by omega
          clear t2;go_wp2_with fail;go_ret;exact ⟨zaa (by first | exact HR.out.symm | (rw [HR.out];first | (simp;omega) | (simp [*];done))),HB.out⟩
      . have HR:Hid (zd1 u=false):=by show _=_;rw [HP.out,decide_eq_false (by omega)];rfl
        have t1':u.data<0:=by omega
        clear t1;go_wp2_with fail;go_ret;exact ⟨zaa (by first | exact HR.out.symm | (rw [HR.out];first | (simp;omega) | (simp [*];done))),HB.out⟩
theorem ziz {u:Un} (h:zd1 u=true):0<=u.data/\u.data<=512:=by
 unfold zd1 at h;simp only [vad,decide_eq_true_eq] at h;exact h.2.2.1
theorem zrs {u:Un} (h:zd1 u=true) (j:Nat) (hj:j<u.parts.length):(0<=u.parts[j].params/\u.parts[j].params<=3)/\0<=u.parts[j].locals/\u.parts[j].locals<=4:=by
 unfold zd1 at h;simp only [vad,decide_eq_true_eq,vax] at h;have:=h.2.1 u.parts[j] (vap hj);unfold ptB at this;simpa only [vad,decide_eq_true_eq] using this
theorem z0k (u:Un) (num prt:Int->Int->Int->Bool) (x1:OA) (y1:Nat) (x2:OA) (y2:Nat) (x3:OA) (y3:Nat) (tI:TypeId) (vI:Value) (w:World) (hU:UvAt w u x1 y1 x2 y2 x3 y3)
 (hC:zd1 u=true->∀ (lc:Int) (W:World),Below w.heap.size w W->CkAt W (ziv u num prt lc) (.agg #[.string u.name,.slice x1 u.uses.length y1,.int .i64 u.data,.slice x2 u.parts.length y2,.slice x3 u.main.length y3,.iface tI vI,.int .i64 lc])) :
 Calls Tryz.prog 77 #[.agg #[.string u.name,.slice x1 u.uses.length y1,.int .i64 u.data,.slice x2 u.parts.length y2,.slice x3 u.main.length y3],.iface tI vI] w fun e w'=>e = .returned (.bool (zfc u num prt))/\Below w.heap.size w w':=by
 have HH:=hid (zoj u x1 y1 x2 y2 x3 y3 (w.alloc (.cells #[.string u.name,.slice x1 u.uses.length y1,.int .i64 u.data,.slice x2 u.parts.length y2,.slice x3 u.main.length y3] 42)) (hU.later (al1 _ _)));have hpb:=hU.parts.bound;have HU:=hid hU;have HC:=hid hC;have HQ:Hid (zfc u num prt=(zd1 u&&(u.parts.all (fun p=>ze0 (ziv u num prt (p.params+p.locals)) 6 p.body)&&ze0 (ziv u num prt 0) 6 u.main))):=rfl;clear hU hC;go_enter Tryz.func77,Tryz.ntmps77;go_wp2_with fail;refine HH.out.mono ?_
 cases hh:zd1 u with
 | false=>
   rintro e w1 ⟨rfl,hb1⟩;have HB1:=hid (thenB (al1 w _) hb1)
   have HR:Hid (zfc u num prt=false):=by show _=_;rw [HQ.out,hh];rfl
   clear hb1;go_wp2_with fail;go_ret;exact ⟨zaa (by first | exact HR.out.symm | (rw [HR.out];first | (simp;omega) | (simp [*];done))),HB1.out⟩
 | true =>
   rintro e w1 ⟨rfl,hb1⟩;have HB1:=hid (thenB (al1 w _) hb1);have HX1:=hid ((hb1.block _ (by simp)).trans (heap_newP w (.cells #[.string u.name,.slice x1 u.uses.length y1,.int .i64 u.data,.slice x2 u.parts.length y2,.slice x3 u.main.length y3] 42)));have HCk:=hid (HC.out hh);have HHd:=hid hh
   have HQ':Hid (zfc u num prt=(u.parts.all (fun p=>ze0 (ziv u num prt (p.params+p.locals)) 6 p.body)&&ze0 (ziv u num prt 0) 6 u.main)):=by show _=_;rw [HQ.out,hh];rfl
   obtain ⟨q0,q1,q2,q3,q4,_⟩:=zad HX1.out;have qz:=zab HX1.out;clear hb1 HC HQ HH hh;go_wp2_with fail
   go_loopw [14] (fun i wr=>∃ j:Nat,j<=u.parts.length/\i = .int .i64 j/\(u.parts.take j).all (fun p=>ze0 (ziv u num prt (p.params+p.locals)) 6 p.body)=true/\Below w.heap.size w wr/\wr.heap[w.heap.size]? = some (.cells #[.string u.name,.slice x1 u.uses.length y1,.int .i64 u.data,.slice x2 u.parts.length y2,.slice x3 u.main.length y3] 42)) (fun i _=>u.parts.length - (intOf i).toNat)
   case atStart=>exact ⟨0,vae _,rfl,rfl,HB1.out,HX1.out⟩
   case round=>
    clear q0 q1 q2 q3 q4 qz;obtain ⟨j,hj,rfl,hall,hb,hB⟩:=hrel;obtain ⟨q0,q1,q2,q3,q4,_⟩:=zad hB;have qz:=zab hB;have HB:=hid hb;have HX:=hid hB;have HL:=hid hall;clear hall hB hb
    by_cases hlt:j<u.parts.length
    . obtain ⟨b,off,ab,cb,rfl,hx⟩:=((HU.out.later HB.out).parts).pt j hlt
      have HF:=hid (fun (h:ze0 (ziv u num prt (u.parts[j].params+u.parts[j].locals)) 6 u.parts[j].body=false)=>(by rw [HQ'.out,all_not u.parts (fun p=>ze0 (ziv u num prt (p.params+p.locals)) 6 p.body) j hlt h];rfl:zfc u num prt=false));have HT:=hid (fun (h:ze0 (ziv u num prt (u.parts[j].params+u.parts[j].locals)) 6 u.parts[j].body=true)=>(by rw [all_snoc u.parts _ j hlt,HL.out,h];rfl:(u.parts.take (j+1)).all (fun p=>ze0 (ziv u num prt (p.params+p.locals)) 6 p.body)=true));obtain ⟨⟨g1,g2⟩,g3,g4⟩:=zrs HHd.out j hlt;obtain ⟨hbl,p0,p1,p2,hbo,_,_⟩:=hx;have HBo:=hid hbo;clear hbo;generalize u.parts[j]=p at *;go_wp2_with fail;refine (zfa (ziv u num prt (p.params+p.locals)) u.name x1 y1 _ y2 x3 u.main.length y3 (.iface tI vI) 6 (by decide) p.body Tt ab cb 1 _ (by decide) (HBo.out.later (al2 _ _ _)) (HCk.out (p.params+p.locals) _ (thenB HB.out (al2 _ _ _)))).mono ?_
      cases h1:ze0 (ziv u num prt (p.params+p.locals)) 6 p.body with
      | false=>
        rintro e w3 ⟨rfl,hb3⟩;have HB3:=hid (thenB HB.out (thenB (al2 _ _ _) hb3));have HF':=hid (HF.out h1);clear hb3;go_wp2_with fail;go_ret;exact ⟨zaa (by first | exact HF'.out.symm | (rw [HF'.out];first | (simp;omega) | (simp [*];done))),HB3.out⟩
      | true=>
        rintro e w3 ⟨rfl,hb3⟩;have HB3:=hid (thenB (al2 wr _ _) hb3);have HX3:=hid ((HB3.out.block _ (zab HX.out)).trans HX.out);have HT':=hid (HT.out h1);clear hb3;go_wp2_with fail;go_roundw
        case rel=>exact ⟨j+1,by omega,by go_num,HT'.out,thenB HB.out HB3.out,HX3.out⟩
        case measure=>simp [intOf];omega
    . have HR:Hid (zfc u num prt=ze0 (ziv u num prt 0) 6 u.main):=by show _=_;rw [HQ'.out,zc3 HL.out hlt];rfl
      go_wp2_with fail;refine (zfa (ziv u num prt 0) u.name x1 y1 x2 y2 x3 u.main.length y3 (.iface tI vI) 6 (by decide) u.main Tt x3 y3 1 _ (by decide) (HU.out.later HB.out).main (HCk.out 0 _ HB.out)).mono ?_;rintro e w3 ⟨rfl,hb3⟩;have HB3:=hid (thenB HB.out hb3);clear hb3;go_wp2_with fail;go_ret;exact ⟨zaa (by first | exact HR.out.symm | (rw [HR.out];first | (simp;omega) | (simp [*];done))),HB3.out⟩
set_option maxHeartbeats 1600000
theorem z0l:laidOutB Tryz.prog=true:=by kernel_rfl
theorem z0m:Tryz.prog.keyType 244=true:=by kernel_rfl
theorem zok:Keyed Tryz.prog 244:=Keyed.of_law (deep_law_laid z0l (m:=3) (by decide) (of_decide_eq_true (by kernel_rfl)) (by kernel_rfl) (by kernel_rfl))
def zjc (mod name:ByteArray):Lit:=.string (keyBytes [.string mod.data.toList,.string name.data.toList])
theorem zhw (mod name:ByteArray) (h1:mod.size<=maxLen) (h2:name.size<=maxLen):keyOf Tryz.prog 244 (.agg #[.string mod,.string name])=some (zjc mod name):=by
 have hf:(Value.agg #[.string mod,.string name]).formed Tryz.prog 244=true:=by kernel_rfl
 have hl:Tryz.prog.keyLits (Tryz.prog.types.size+1) 244 (Value.agg #[.string mod,.string name]).cells.toList=some [.string mod.data.toList,.string name.data.toList]:=by
  have h0:0<Tryz.prog.types.size:=of_decide_eq_true (by kernel_rfl)
  obtain ⟨k,hk⟩:∃ k,Tryz.prog.types.size=k+1:=⟨Tryz.prog.types.size - 1,by omega⟩
  rw [hk]
  have hs:∀ s:ByteArray,s.size<=maxLen->Tryz.prog.keyLits (k+1) 9 [.string s]=some [.string s.data.toList]:=fun s h=>by
   unfold Program.keyLits;rw [Tryz.underlying9];exact if_pos h
  have e:(Value.agg #[.string mod,.string name]).cells.toList=[.string mod,.string name]:=rfl
  have c2:Tryz.prog.cellsOf 244=2:=by kernel_rfl
  have c9:Tryz.prog.cellsOf 9=1:=by kernel_rfl
  rw [e];unfold Program.keyLits;rw [Tryz.underlying244];simp [c2,c9,hs mod h1,hs name h2]
 unfold keyOf;rw [Tryz.underlying244];simp only [z0m,hf,hl]
 rfl
theorem zxa {a b c d:ByteArray} (h1:a.size<=maxLen) (h2:b.size<=maxLen) (h3:c.size<=maxLen) (h4:d.size<=maxLen) (h:¬ (a=c/\b=d)):zjc a b≠zjc c d:=fun e=>by
 have k1:=zhw a b h1 h2;have k2:=zhw c d h3 h4;rw [← e] at k2;have:=zok.inj k1 k2
 injection this with this
 have:=congrArg Array.toList this;simp at this;exact h this
def z3h (K:Kn) (mod name:ByteArray) (x:Mg):Kn:=fun a b=>if a=mod/\b=name then some x else K a b
def z6g (D:DataW Value) (K:Kn):Prop:=∀ a b:ByteArray,a.size<=maxLen->b.size<=maxLen->has D (zjc a b)=(K a b).isSome/\D.atKey (zjc a b) (.held mg0.val) = .held ((K a b).getD mg0).val
theorem z6g.put {D:DataW Value} {K:Kn} (h:z6g D K) (hD:IsMap D) (mod name:ByteArray) (h1:mod.size<=maxLen) (h2:name.size<=maxLen) (x:Mg):z6g (D.put (zjc mod name) (.held x.val)) (z3h K mod name x):=by
 intro a b ha hb
 by_cases e:a=mod/\b=name
 . obtain ⟨rfl,rfl⟩:=e
   simp only [z3h,and_self,if_true];exact ⟨has_put_same (k:=zjc a b) hD trivial _,atKey_put_same (k:=zjc a b) hD trivial _ _⟩
 . have hne:=zxa ha hb h1 h2 e
   simp only [z3h,if_neg e];rw [has_put_other hne,atKey_put_other hne];exact h a b ha hb
def zl0 (w:World) (b n:Nat) (K:Kn):Prop:=∃ D,w.ownsMap Tryz.prog 244 zyk b n D/\z6g D K
theorem zl0.lt {w:World} {b n:Nat} {K:Kn} (h:zl0 w b n K):b<w.heap.size:=by obtain ⟨D,h1,_⟩:=h;exact h1.lt
theorem zl0.block {w w':World} {b n:Nat} {K:Kn} (h:zl0 w b n K) (hb:w'.heap[b]? = w.heap[b]?):zl0 w' b n K:=by
 obtain ⟨D,h1,h2⟩:=h;obtain ⟨es,clock,hb',r⟩:=h1;exact ⟨D,⟨es,clock,hb.trans hb',r⟩,h2⟩
theorem zl0.later {w w':World} {b n:Nat} {K:Kn} (h:zl0 w b n K) (hb:Below w.heap.size w w'):zl0 w' b n K:=h.block (hb.block b h.lt)
theorem zl0.made (w:World):zl0 (w.alloc (.map #[] 0)) w.heap.size 0 (fun _ _=>none):=⟨.map [],vew w _ _ _,fun _ _ _ _=>⟨rfl,rfl⟩⟩
theorem z5f (w:World):(zeroValue 242).run Tryz.prog w = .ok mg0.val w:=by kernel_rfl
theorem zl0.known {w:World} {b n:Nat} {K:Kn} (h:zl0 w b n K):zmi w (.map (some b)) K:=by
 intro w' hb mod name h1 h2;obtain ⟨D,k1,k2⟩:=h.later hb;obtain ⟨v,ps,hrun,hv⟩:=k1.look_ok zok Tryz.underlying187 (z5f w') (zd:=.held mg0.val) (zp:=[]) rfl (zhw mod name h1 h2);rw [(k2 mod name h1 h2).2] at hv;simp only [zyk,vbh,vee,veg] at hv;rw [hrun,hv.1,(k2 mod name h1 h2).1]
theorem zl0.put {w:World} {b n:Nat} {K:Kn} (h:zl0 w b n K) (hn:n<maxLen) (mod name:ByteArray) (h1:mod.size<=maxLen) (h2:name.size<=maxLen) (x:Mg) :
 ∃ w',(Instr.mapUpdate 187 (.map (some b)) (.agg #[.string mod,.string name]) x.val).run Tryz.prog w = .ok () w'/\zl0 w' b (n+1) (z3h K mod name x)/\w.grownBy w' (some b):=by
 obtain ⟨D,k1,k2⟩:=h;obtain ⟨w',r1,r2,r3⟩:=k1.update zok Tryz.underlying187 hn (zhw mod name h1 h2) (val:=x.val) (d:=.held x.val) (ps:=[]) rfl;exact ⟨w',r1,⟨_,r2,k2.put k1.isMap mod name h1 h2 x⟩,r3⟩
theorem Keeps.grown {R:Nat} {w w1 w2:World} (h:Keeps R w w1) (hg:w1.grownBy w2 (some R)):Keeps R w w2:=
 h.trans ⟨hg.os,hg.tape,hg.output,hg.size,fun k h1 h2=>hg.block k h1 (fun e=>h2 (vac e))⟩
def z5g (m:Int) (i:It):Mg:=⟨i.kind,i.n,m,i.at_⟩
def zi0 (K:Kn) (mod:ByteArray) (m:Int) (l:List It):Kn:=l.foldl (fun K i=>z3h K mod i.name (z5g m i)) K
theorem zu8 (K:Kn) (mod:ByteArray) (m:Int) (l:List It) (i:It):zi0 K mod m (l++[i])=z3h (zi0 K mod m l) mod i.name (z5g m i):=by
 unfold zi0;rw [vbn];rfl
theorem zkq (K:Kn) (b n:Nat) (mod:ByteArray) (mm:Int) (l:List It) (a:OA) (cap:Nat) (w:World) (hK:zl0 w b n K) (hm:mod.size<=maxLen) (hI:Fx.ItemsAt w a l) (hF:Fx.AllFit l) (hl:l.length<=1000) (hn:n<=1000) (hab:∀ b' off,l≠[]->a=some ⟨b',off,none⟩->b'≠b) :
 Calls Tryz.prog 119 #[.agg #[.map (some b)],.string mod,.int .i64 mm,.slice a l.length cap] w fun e w'=>e = .returned (.tuple #[])/\zl0 w' b (n+l.length) (zi0 K mod mm l)/\Keeps b w w':=by
 have HI:=hid hI;have HF:=hid hF;have HK:=hid hK;have HAB:=hid hab;have hbw:=hK.lt;clear hI hF hK hab;go_enter Tryz.func119,Tryz.ntmps119;go_wp2_with fail
 go_loopw [9,12] (fun _ i wr=>∃ j:Nat,j<=l.length/\i = .int .i64 j/\zl0 wr b (n+j) (zi0 K mod mm (l.take j))/\wr.heap[w.heap.size]? = some (.cells #[.map (some b)] 189)/\Keeps b w wr) (fun _ i _=>l.length - (intOf i).toNat)
 case atStart=>exact ⟨0,vae _,rfl,HK.out.later (al1 _ _),heap_newP _ _,(Keeps.refl _ _).alloc _⟩
 case round=>
  obtain ⟨j,hj,rfl,hk,hbx,hke⟩:=hrel;have HKj:=hid hk;have HX:=hid hbx;have HE:=hid hke;have hzr:=hke.size;have hxlt:=zab hbx;clear hk hke
  by_cases hlt:j<l.length
  . obtain ⟨b2,off,rfl,hbl,c0,c1,c2,c3⟩:=HI.out.place hlt
    have hne:=HAB.out b2 off (fun h=>by rw [h] at hlt;simp at hlt) rfl;have d0:=(HE.out.cell (off:=off+j*4) hbl hne).trans c0;have d1:=(HE.out.cell (off:=off+j*4+1) hbl hne).trans c1;have d2:=(HE.out.cell (off:=off+j*4+2) hbl hne).trans c2;have d3:=(HE.out.cell (off:=off+j*4+3) hbl hne).trans c3;have hbl':b2<wr.heap.size:=vah hbl hzr;have hnm:=HF.out l[j] (vap _)
    have HSn:Hid (z3h (zi0 K mod mm (l.take j)) mod l[j].name (z5g mm l[j])=zi0 K mod mm (l.take (j+1))):=by
     show _=zi0 K mod mm (l.take (j+1));rw [vag hlt,zu8]
    generalize l[j]=x at *;obtain ⟨w2,hrun,hK2,hg2⟩:=(HKj.out.later (al1 _ (.cells #[.int .i64 x.kind,.int .i64 x.n,.int .i64 x.at_,.string x.name] 98))).put (by unfold maxLen;omega) mod x.name hm hnm (z5g mm x);simp only [Mg.val,z5g] at hrun;rw [HSn.out] at hK2;have HK2:=hid hK2;have HE2:=hid ((HE.out.alloc _).grown hg2);have HX2:Hid (w2.heap[w.heap.size]? = some (.cells #[.map (some b)] 189)):=(hg2.block _ (by simp;omega) (fun e=>by have:=vac e;omega)).trans (zae HX.out)
    have k0:wr.cell? ⟨w.heap.size,0,none⟩=some (.map (some b)):=by rw [veq HX.out];rfl
    clear c0 c1 c2 c3 hK2 hg2 hbx hnm;go_wp2_with fail;go_roundw
    case rel=>exact ⟨j+1,by omega,by go_num,by rw [← vbt];exact HK2.out,HX2.out,HE2.out⟩
    case measure=>simp [intOf];omega
  . obtain rfl:j=l.length:=by omega
    have HKl:Hid (zl0 wr b (n+l.length) (zi0 K mod mm l)):=by have:=HKj.out;rw [vaz] at this;exact this
    clear hbx;go_wp2_with fail;go_end0;exact ⟨rfl,HKl.out,HE.out⟩
end Go.Proofs.YtndkhgakfodldaaGreatDoor
