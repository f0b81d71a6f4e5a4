/-
  How many tokens a right module has at the most.
-/
import Derived.Test.YtcekpobmbmnplaaGreatDoorQb
import Derived.Test.YtcekpobmbmnplaaGreatDoorPj
namespace Go.Proofs.YtcekpobmbmnplaaGreatDoor
open Go.RowKit
def TB:Nat->Nat
 | 0=>0
 | k+1=>3*TB k+7
def BB:Nat->Nat
 | 0=>0
 | k+1=>76700+20*BB k
theorem zma:∀ (xs:List (List Tk)) (t:Nat),(∀ x ∈ xs,x.length<=t)->(commas xs).length<=xs.length*(t+1)
 | [],_,_=>by simp [commas]
 | [x],t,h=>by
   have:=h x (by simp)
   simp [commas];omega
 | x :: y :: r,t,h=>by
   have h1:=h x (by simp);have h2:=zma (y :: r) t (fun z hz=>h z (by simp [hz]))
   have e:(x :: y :: r).length*(t+1)=(y :: r).length*(t+1)+(t+1):=by
    show ((y :: r).length+1)*(t+1)=_;rw [Nat.succ_mul]
   rw [e];simp only [commas,List.length_append,List.length_cons] at h2 ⊢;omega
theorem zkm {xs:List (List Tk)} {t:Nat} (h:∀ x ∈ xs,x.length<=t) (h3:xs.length<=3):(commas xs).length<=3*t+2:=by
 match xs,h3 with
 | [],_=>simp [commas]
 | [x],_=>
   have:=h x (by simp)
   simp [commas];omega
 | [x,y],_=>
   have h1:=h x (by simp);have h2:=h y (by simp)
   simp [commas];omega
 | [x,y,z],_=>
   have h1:=h x (by simp);have h2:=h y (by simp);have h4:=h z (by simp)
   simp [commas];omega
theorem zij {xs:List (List Tk)} {t:Nat} (h:∀ x ∈ xs,x.length<=t) (i:Nat):(xs.getD i []).length<=t:=by
 rw [List.getD_eq_getElem?_getD]
 rcases Nat.lt_or_ge i xs.length with hi | hi
 . rw [List.getElem?_eq_getElem hi];exact h _ (List.getElem_mem hi)
 . rw [List.getElem?_eq_none hi];simp
theorem zng (m n:ByteArray):(refT m n).length<=3:=by unfold refT;split<;>simp
theorem zvm {op n:Int} {m nm:ByteArray} {xs:List (List Tk)} {t:Nat} (h:∀ x ∈ xs,x.length<=t) (h3:xs.length<=3):(exTok op n m nm xs).length<=3*t+7:=by
 have a:=zng m nm;have b:=zkm h h3;have c:=zij h 0;have d:=zij h 1;unfold exTok
 split;· simp
 split;· simp
 split;· omega
 split;· simp only [List.length_append,List.length_cons,List.length_nil];omega
 split;· simp only [List.length_append,List.length_cons,List.length_nil];omega
 split;· simp only [List.length_cons];omega
 . simp only [List.length_append,List.length_cons,List.length_nil];omega
theorem zik:∀ (k:Nat) (l:List Ex),zao k l=false->(∀ x ∈ l,(tE x).length<=TB k)/\l.length<=3
 | 0,l,h=>by
   simp [zao] at h;rw [h];exact ⟨(fun x hx=>by cases hx),by simp⟩
 | k+1,l,h=>by
   simp only [zao,Bool.or_eq_false_iff] at h
   have h3:l.length<=3:=by have:=of_decide_eq_false h.1;omega
   refine ⟨fun x hx=>?_,h3⟩
   have a2:zao k x.args=false:=by
    have:=h.2;rw [List.any_eq_false] at this;simpa using this x hx
   obtain ⟨i1,i2⟩:=zik k x.args a2;obtain ⟨op,n,m,nm,args⟩:=x;simp only [tE]
   exact zvm (fun y hy=>by
    obtain ⟨z,hz,rfl⟩:=zho hy
    exact i1 z hz) (by rw [zgl];exact i2)
theorem zvn {op:Int} {m nm:ByteArray} {xs:List (List Tk)} {t:Nat} (h:∀ x ∈ xs,x.length<=t) (h3:xs.length<=3):(zb0 op m nm xs).length<=3*t+7:=by
 have a:=zng m nm;have b:=zkm h h3;have c:=zij h 0;have d:=zij h 1;unfold zb0
 split;· simp only [List.length_append,List.length_cons];omega
 split;· simp only [List.length_append,List.length_cons];omega
 split;· simp only [List.length_append,List.length_cons,List.length_nil];omega
 split;· simp only [List.length_cons];omega
 . simp only [List.length_cons];omega
theorem zvo {t:Nat}:∀ {l:List St},(∀ s ∈ l,(tS s).length<=t)->(tSs l).length<=l.length*t
 | [],_=>by simp [tSs]
 | s :: r,h=>by
   have h1:=h s (by simp);have h2:=zvo (l:=r) (fun x hx=>h x (by simp [hx]));simp only [tSs,List.length_append,List.length_cons]
   rw [Nat.succ_mul];omega
theorem zoo:∀ (k:Nat) (l:List St),zak k l=false->(tSs l).length<=BB k
 | 0,l,h=>by simp [zak] at h
 | k + 1,l,h=>by
   simp only [zak,Bool.or_eq_false_iff] at h
   have h10:l.length<=10:=by have:=of_decide_eq_false h.1;omega
   have key:∀ s ∈ l,(tS s).length<=7670+2*BB k:=by
    intro x hx;have a2:=h.2;rw [List.any_eq_false] at a2;have a2:=a2 x hx;simp only [Bool.not_eq_true,Bool.or_eq_false_iff,Bool.and_eq_false_iff] at a2;obtain ⟨op,m,nm,args,body,other⟩:=x;obtain ⟨i1,i2⟩:=zik 6 args a2.1
    have i1':∀ y ∈ tEs args,y.length<=2548:=fun y hy=>by
     obtain ⟨z,hz,rfl⟩:=zho hy;exact i1 z hz
    have ln:=zvn (op:=op) (m:=m) (nm:=nm) i1' (by rw [zgl];exact i2);have g0:=zij i1' 0
    have hb:(tSs body).length<=BB k:=by
     rcases a2.2.1 with h | h
     . have:body=[]:=znf h.2
       rw [this];simp [tSs]
     . exact zoo k body h
    have ho:(tSs other).length<=BB k:=by
     rcases a2.2.2 with h | h
     . have:other=[]:=znf h
       rw [this];simp [tSs]
     . exact zoo k other h
    simp only [tS];unfold zbv brT;split
    . split
      . simp only [List.length_append,List.length_cons,List.length_nil];omega
      . simp only [List.length_append,List.length_cons,List.length_nil];omega
    split
    . simp only [List.length_append,List.length_cons,List.length_nil];omega
    . simp only [List.length_append,List.length_cons,List.length_nil];omega
   have h1:=zvo key;have h2:l.length*(7670+2*BB k)<=10*(7670+2*BB k):=Nat.mul_le_mul_right _ h10;show _<=76700+20*BB k;omega
theorem zg5 {α:Type} (f:α->List Tk) (t:Nat):∀ (l:List α),(∀ x ∈ l,(f x).length<=t)->(l.flatMap f).length<=l.length*t
 | [],_=>by simp
 | x :: r,h=>by
   have h1:=h x (by simp);have h2:=zg5 f t r (fun y hy=>h y (by simp [hy]));simp only [List.flatMap_cons,List.length_append,List.length_cons]
   rw [Nat.succ_mul];omega
theorem zrn (b:Bool):(pubT b).length<=1:=by unfold pubT;split<;>simp
theorem z1t (d:De):(tD d).length<=7:=by
 have:=zrn d.pub;unfold tD;rw [List.length_append];split
 . simp only [List.length_cons,List.length_nil];omega
 split
 . simp only [List.length_cons,List.length_nil];omega
 . simp only [List.length_cons,List.length_nil];omega
theorem zyr {m:Mo} (h:m.many=false):(tM m).length<=2000000000000:=by
 unfold Mo.many at h;simp only [Bool.or_eq_false_iff] at h;obtain ⟨h1,h2,h3,h4,h5⟩:=h;rw [List.any_eq_false] at h4 h5
 have u1:m.uses.length<=3:=by have:=of_decide_eq_false h1;omega
 have u2:m.decls.length<=10:=by have:=of_decide_eq_false h2;omega
 have u3:m.procs.length<=6:=by have:=of_decide_eq_false h3;omega
 have bb:BB 6=258357890700:=by decide
 have hb:∀ b ∈ m.bodies,(tSs b).length<=258357890700:=fun b hb=>by
  have:=zoo 6 b (by simpa using h5 b hb);omega
 have k1:(zb8 tUse m.uses).length<=m.uses.length*3:=zg5 _ 3 _ (fun _ _=>by simp);have k2:(m.decls.flatMap tD).length<=m.decls.length*7:=zg5 _ 7 _ (fun d _=>z1t d)
 have k3:(m.procs.flatMap tP).length<=m.procs.length*258357890800:=zg5 _ _ _ (fun p hp=>by
  have q:=h4 p hp;simp only [Bool.not_eq_true,Bool.or_eq_false_iff] at q
  have q1:p.params.length<=3:=by have:=of_decide_eq_false q.1;omega
  have q2:p.locals.length<=4:=by have:=of_decide_eq_false q.2;omega
  have q3:=hb p.body (by unfold Mo.bodies;simp;exact Or.inl ⟨p,hp,rfl⟩);have q4:(zb8 zar p.locals).length<=p.locals.length*3:=zg5 _ 3 _ (fun _ _=>by simp)
  have q5:(zaz p.params).length<=3*1+2:=zkm (fun x hx=>by
   obtain ⟨n,_,rfl⟩:=List.mem_map.1 hx
   simp) (by simpa using q1)
  have q6:=zrn p.pub;unfold tP brT;simp only [List.length_append,List.length_cons,List.length_nil]
  omega)
 have k4:=hb m.main (by unfold Mo.bodies;simp);have k5:m.procs.length*258357890800<=6*258357890800:=Nat.mul_le_mul_right _ u3;unfold tM brT;simp only [List.length_append,List.length_cons,List.length_nil];omega
theorem znh {l:List ByteArray} (h:∀ n ∈ l,zae n=true):zam (zaz l):=zii _ (fun x hx=>by
 obtain ⟨n,hn,rfl⟩:=List.mem_map.1 hx
 exact zgc (h n hn))
theorem zmb {α:Type} (f:α->List Tk):∀ (l:List α),(∀ x ∈ l,zam (f x))->zam (l.flatMap f)
 | [],_=>.nil
 | x :: r,h=>by
   simp only [List.flatMap_cons];exact (h x (by simp)).append (zmb f r (fun y hy=>h y (by simp [hy])))
theorem zvp {t:ByteArray} (ht:zam [kTk t]) {l:List ByteArray} (h:∀ n ∈ l,zae n=true):zam (zb8 t l):=zmb _ _ (fun n hn=>.cons ht (.cons (zgc (h n hn)) (zby (by decide))))
theorem zz5 (b:Bool):zam (pubT b):=by
 unfold pubT;split
 . exact zby (by decide)
 . exact .nil
theorem z3g {d:De} (h:zae d.name=true/\zc7 d=true/\1<=d.kind/\d.kind<=3):zam (tD d):=by
 obtain ⟨h1,h2,h3,h4⟩:=h;refine (zz5 _).append ?_;unfold zc7 at h2;split
 . rename_i hk
   rw [if_pos hk] at h2;unfold ze8 at h2;simp at h2;exact .cons (zby (by decide)) (.cons (zgc h1) (.cons (zby (by decide)) (.cons (zz4 h2.1 h2.2) (zby (by decide)))))
 split
 . exact .cons (zby (by decide)) (.cons (zgc h1) (zby (by decide)))
 . rename_i hk1 hk2
   rw [if_neg hk1,if_pos (by omega)] at h2;simp at h2;exact .cons (zby (by decide)) (.cons (zgc h1) (.cons (zby (by decide)) (.cons (zz4 (by omega) (by omega)) (.cons (zby (by decide)) (zby (by decide))))))
theorem z27 {p:Pr} (h:zae p.name=true/\(∀ n ∈ p.params,zae n=true)/\(∀ n ∈ p.locals,zae n=true)/\(∀ s ∈ p.body,stOk s)):zam (tP p):=
 (zz5 _).append (.cons (zby (by decide)) (.cons (zgc h.1) (.cons (zby (by decide)) ((znh h.2.1).append (.cons (zby (by decide)) ((zvp (zby (by decide)) h.2.2.1).append (zxw (zjb h.2.2.2))))))))
theorem z28 {m:Mo} (h:moOk m):zam (tM m):=
 .cons (zby (by decide)) (.cons (zgc h.name) (.cons (zby (by decide)) ((zvp (zby (by decide)) h.uses).append ((zmb _ _ (fun d hd=>z3g (h.decls d hd))).append ((zmb _ _ (fun p hp=>z27 (h.procs p hp))).append (.cons (zby (by decide)) ((zxw (zjb h.main)).append (zby (by decide)))))))))
end Go.Proofs.YtcekpobmbmnplaaGreatDoor

namespace Go.Proofs.YtcekpobmbmnplaaGreatDoor
set_option maxRecDepth 100000
set_option maxHeartbeats 3200000
open Go.RowKit Go.Shelf
theorem zna (R cap:Nat) (a:Option Addr) (ts l:List Tk) (w:World) (h:Rd R a cap ts w l) :
 Calls Tryz.prog 85 #[.pointer (some ⟨R,0,none⟩)] w fun e w'=>e = .returned (.bool (zib l))/\Below w.heap.size w w':=by
 have HR:Hid (Rd R a cap ts w l):=h;have hf2:=zq8 (hd l).kind (hd l).n (hd l).text;have hf3:=zq8 (l.getD 1 noTk).kind (l.getD 1 noTk).n (l.getD 1 noTk).text
 have HS:Hid (skB l tPub=((hd l).text.toList == [112,117,98])):=by show skB l tPub=_;unfold skB;rw [Lib.toList_data tPub]
 have HD:Hid (zib l=((if skB l tPub then (l.getD 1 noTk).text else (hd l).text).toList == [99,111,110,115,116]||(if skB l tPub then (l.getD 1 noTk).text else (hd l).text).toList == [118,97,114]||(if skB l tPub then (l.getD 1 noTk).text else (hd l).text).toList == [97,114,114,97,121])):=by
  show zib l=_;unfold zib;rw [Lib.toList_data tConst,Lib.toList_data tVar,Lib.toList_data tArray]
 have HG:Hid (∀ w',Rd R a cap ts w' l->Calls Tryz.prog 117 #[.pointer (some ⟨R,0,none⟩),.int .i64 1] w' fun e w''=>e = .returned (.agg #[.int .i64 (l.getD 1 noTk).kind,.int .i64 (l.getD 1 noTk).n,.string (l.getD 1 noTk).text])/\Below w'.heap.size w' w''):=fun w' h'=>zoi R cap 1 a ts l w' (by omega) h'
 clear h;go_enter Tryz.func85,Tryz.ntmps85;go_wp2_with fail;refine (zoj R cap a ts l w HR.out).mono ?_;rintro e w1 ⟨rfl,hb1⟩
 by_cases hp:((hd l).text.toList == [112,117,98])=true
 . have HS':Hid (skB l tPub=true):=HS.out.trans hp
   generalize l.getD 1 noTk=T at *;go_wp2_with fail;refine (HG.out w1 (HR.out.later hb1)).mono ?_;rintro e w2 ⟨rfl,hb2⟩;go_wp2_with fail
   all_goals go_ret
   all_goals refine ⟨zaa ?_,hb1.trans (hb2.mono hb1.size)⟩
   all_goals rw [HD.out,HS'.out];simp_all
 . have hp':((hd l).text.toList == [112,117,98])=false:=by simpa using hp
   have HS':Hid (skB l tPub=false):=HS.out.trans hp';clear hp;generalize hd l=T at *;go_wp2_with fail
   all_goals go_ret
   all_goals refine ⟨zaa ?_,hb1⟩
   all_goals rw [HD.out,HS'.out];simp_all
def zvd (d:De) (_:World) (v:Value):Prop:=v = .agg #[.int .i64 d.kind,.string d.name,.bool d.pub,.int .i64 d.n]/\d.name.size<=maxLen
abbrev set4 (w:World) (b:Nat) (v0 v1 v2 v3:Value):World:=(((w.setCell ⟨b,0,none⟩ v0).setCell ⟨b,1,none⟩ v1).setCell ⟨b,2,none⟩ v2).setCell ⟨b,3,none⟩ v3
theorem Keeps.set4 {R b:Nat} {w w1:World} (h:Keeps R w w1) (hp:w.heap.size<=b) (v0 v1 v2 v3:Value):Keeps R w (set4 w1 b v0 v1 v2 v3):=(((h.set hp v0).set hp v1).set hp v2).set hp v3
theorem Rd.set4 {R cap b:Nat} {w0 w1:World} {a:Option Addr} {ts l l0:List Tk} (h:Rd R a cap ts w1 l) (h0:Rd R a cap ts w0 l0) (hp:w0.heap.size<=b) (v0 v1 v2 v3:Value):Rd R a cap ts (set4 w1 b v0 v1 v2 v3) l:=(((h.setAbove h0 hp v0).setAbove h0 hp v1).setAbove h0 hp v2).setAbove h0 hp v3
abbrev zd5:Obj:=.cells #[.int .i64 0,.string ⟨#[]⟩,.bool false,.int .i64 0] 58 (0,0)
abbrev zcv (k:Int) (nm:ByteArray) (p:Bool) (n:Int):Obj:=.cells #[.int .i64 k,.string nm,.bool p,.int .i64 n] 58 (0,0)
theorem zrf (R cap:Nat) (a:Option Addr) (ts l:List Tk) (w:World) (h:Rd R a cap ts w l) :
 Calls Tryz.prog 86 #[.pointer (some ⟨R,0,none⟩)] w (zeo R a cap ts w (zcj l) zvd):=by
 have HR:Hid (Rd R a cap ts w l):=h;have hRw:=h.lt;clear h;go_enter Tryz.func86,Tryz.ntmps86;go_wp2_with fail;refine (zm3 R cap a ts l tPub _ (by decide) (HR.out.alloc _)).mono ?_;rintro e w1 ⟨rfl,RD,KK⟩;have HRw1:Hid (Rd R a cap ts w1 (zhw l)):=RD;have HKw1:Hid (Keeps R w w1):=((Keeps.refl R w).alloc _).trans KK;have hz1:=KK.size;simp at hz1;have HB1:Hid (w1.heap[w.heap.size]? = some zd5):=(KK.block w.heap.size (by simp) (by omega)).trans (heap_newP _ _);clear RD KK;go_wp2_with fail
 obtain ⟨w2,hw2⟩:∃ w2,w2=w1.alloc (zcv 0 ⟨#[]⟩ (skB l tPub) 0):=⟨_,rfl⟩
 have HRw2:Hid (Rd R a cap ts w2 (zhw l)):=by rw [hw2];exact HRw1.out.alloc _
 have HKw2:Hid (Keeps R w w2):=by rw [hw2];exact HKw1.out.alloc _
 have HBw2:Hid (w2.heap[w.heap.size]? = some zd5):=by rw [hw2];exact zai HB1.out
 have HCw2:Hid (w2.heap[w1.heap.size]? = some (zcv 0 ⟨#[]⟩ (skB l tPub) 0)):=by rw [hw2];exact heap_newP _ _
 have hz2:w2.heap.size=w1.heap.size+1:=by rw [hw2];simp
 rw [← hw2];clear hw2 HRw1 HKw1 HB1;refine (z1l R cap _ a ts (zhw l) tConst tVar tArray w2 hz2.symm HRw2.out (by decide) (by decide) (by decide)).mono ?_;rintro e w3 ⟨KK,hr3⟩;have hz3:=KK.size;have HKw3:Hid (Keeps R w w3):=HKw2.out.trans KK;have HBw3:Hid (w3.heap[w.heap.size]? = some zd5):=(KK.block w.heap.size (by omega) (by omega)).trans HBw2.out;have HCw3:Hid (w3.heap[w1.heap.size]? = some (zcv 0 ⟨#[]⟩ (skB l tPub) 0)):=(KK.block w1.heap.size (by omega) (by omega)).trans HCw2.out;clear KK HRw2 HKw2 HBw2 HCw2
 rcases hr3 with ⟨s1,s2,s3,rfl⟩ | ⟨s1,rfl,RD⟩ | ⟨s1,s2,rfl,RD⟩ | ⟨s1,s2,s3,rfl,RD⟩
 . exact ⟨rfl,HKw3.out,Or.inl ⟨by unfold zcj;rw [s1,s2,s3];rfl,rfl⟩⟩
 . have HRw3:Hid (Rd R a cap ts w3 (zhw l).tail):=RD
   clear RD;go_wp2_with fail;refine (zcu R cap a ts (zhw l).tail w3 HRw3.out).mono ?_;rintro e w4 ⟨KK,⟨hn,rfl⟩ | ⟨nm,l4,v,hn,rfl,⟨rfl,hnm⟩,RD⟩⟩
   . exact ⟨rfl,HKw3.out.trans KK,Or.inl ⟨by unfold zcj;rw [if_pos s1,hn],rfl⟩⟩
   have HP4:Hid (zcj l=if skB l4 tEq then (match zh9 l4.tail with | none=>none | some (k,l2)=>if skB l2 tSem then some (⟨1,nm,skB l tPub,k⟩,l2.tail) else none) else none):=by show zcj l=_;unfold zcj;rw [if_pos s1,hn]<;>rfl
   clear hn;have HRw4:Hid (Rd R a cap ts w4 l4):=RD;have HKw4:Hid (Keeps R w w4):=HKw3.out.trans KK;have HBw4:Hid (w4.heap[w.heap.size]? = some zd5):=(KK.block w.heap.size (by omega) (by omega)).trans HBw3.out;have HCw4:Hid (w4.heap[w1.heap.size]? = some (zcv 0 ⟨#[]⟩ (skB l tPub) 0)):=(KK.block w1.heap.size (by omega) (by omega)).trans HCw3.out;have hzw4:=KK.size;clear RD KK HRw3 HKw3 HBw3 HCw3;have HRw5:Hid (Rd R a cap ts ((w4.setCell ⟨w1.heap.size,1,none⟩ (.string nm)).setCell ⟨w1.heap.size,0,none⟩ (.int .i64 1)) l4):=((HRw4.out).setAbove HR.out (by show _<=w1.heap.size;omega) _).setAbove HR.out (by show _<=w1.heap.size;omega) _;have HKw5:Hid (Keeps R w ((w4.setCell ⟨w1.heap.size,1,none⟩ (.string nm)).setCell ⟨w1.heap.size,0,none⟩ (.int .i64 1))):=((HKw4.out).set (by show _<=w1.heap.size;omega) _).set (by show _<=w1.heap.size;omega) _
   have HBw5:Hid (((w4.setCell ⟨w1.heap.size,1,none⟩ (.string nm)).setCell ⟨w1.heap.size,0,none⟩ (.int .i64 1)).heap[w.heap.size]? = some zd5):=(zag (by show w.heap.size≠w1.heap.size;omega) _).trans ((zag (by show w.heap.size≠w1.heap.size;omega) _).trans (HBw4.out));have HCw5:Hid (((w4.setCell ⟨w1.heap.size,1,none⟩ (.string nm)).setCell ⟨w1.heap.size,0,none⟩ (.int .i64 1)).heap[w1.heap.size]? = some (zcv 1 nm (skB l tPub) 0)):=zan (zan (HCw4.out) _) _
   have hzw5:((w4.setCell ⟨w1.heap.size,1,none⟩ (.string nm)).setCell ⟨w1.heap.size,0,none⟩ (.int .i64 1)).heap.size=w4.heap.size:=by simp only [World.size_setCell]
   obtain ⟨h0,h1,h2,h3,h4⟩:=zbk HCw4.out
   have hqw4:w1.heap.size<w4.heap.size:=by omega
   go_wp2_with fail;generalize (w4.setCell ⟨w1.heap.size,1,none⟩ (.string nm)).setCell ⟨w1.heap.size,0,none⟩ (.int .i64 1)=w5 at *;clear h0 h1 h2 h3 h4 HRw4 HKw4 HBw4 HCw4;refine (zfz R cap _ a ts l4 tEq w5 (by omega) HRw5.out (by decide)).mono ?_;rintro e w6 ⟨KK,⟨zs,rfl⟩ | ⟨zs,rfl,RD⟩⟩
   . exact ⟨rfl,HKw5.out.trans KK,Or.inl ⟨by rw [HP4.out,if_neg (by simp [zs])],rfl⟩⟩
   have HP6:Hid (zcj l=(match zh9 l4.tail with | none=>none | some (k,l2)=>if skB l2 tSem then some (⟨1,nm,skB l tPub,k⟩,l2.tail) else none)):=by show zcj l=_;rw [HP4.out,if_pos zs]
   clear zs;have HRw6:Hid (Rd R a cap ts w6 l4.tail):=RD;have HKw6:Hid (Keeps R w w6):=HKw5.out.trans KK;have HBw6:Hid (w6.heap[w.heap.size]? = some zd5):=(KK.block w.heap.size (by omega) (by omega)).trans HBw5.out;have HCw6:Hid (w6.heap[w1.heap.size]? = some (zcv 1 nm (skB l tPub) 0)):=(KK.block w1.heap.size (by omega) (by omega)).trans HCw5.out;have hzw6:=KK.size;clear RD KK HRw5 HKw5 HBw5 HCw5;go_wp2_with fail;refine (zhm R cap a ts l4.tail w6 HRw6.out).mono ?_;rintro e w7 ⟨KK,⟨hn,rfl⟩ | ⟨num,l7,v,hn,rfl,rfl,RD⟩⟩
   . exact ⟨rfl,HKw6.out.trans KK,Or.inl ⟨by rw [HP6.out,hn],rfl⟩⟩
   have HP7:Hid (zcj l=if skB l7 tSem then some (⟨1,nm,skB l tPub,num⟩,l7.tail) else none):=by show zcj l=_;rw [HP6.out,hn]
   clear hn;have HRw7:Hid (Rd R a cap ts w7 l7):=RD;have HKw7:Hid (Keeps R w w7):=HKw6.out.trans KK;have HBw7:Hid (w7.heap[w.heap.size]? = some zd5):=(KK.block w.heap.size (by omega) (by omega)).trans HBw6.out;have HCw7:Hid (w7.heap[w1.heap.size]? = some (zcv 1 nm (skB l tPub) 0)):=(KK.block w1.heap.size (by omega) (by omega)).trans HCw6.out;have hzw7:=KK.size;clear RD KK HRw6 HKw6 HBw6 HCw6;have HRw8:Hid (Rd R a cap ts (w7.setCell ⟨w1.heap.size,3,none⟩ (.int .i64 num)) l7):=(HRw7.out).setAbove HR.out (by show _<=w1.heap.size;omega) _;have HKw8:Hid (Keeps R w (w7.setCell ⟨w1.heap.size,3,none⟩ (.int .i64 num))):=(HKw7.out).set (by show _<=w1.heap.size;omega) _;have HBw8:Hid ((w7.setCell ⟨w1.heap.size,3,none⟩ (.int .i64 num)).heap[w.heap.size]? = some zd5):=(zag (by show w.heap.size≠w1.heap.size;omega) _).trans (HBw7.out);have HCw8:Hid ((w7.setCell ⟨w1.heap.size,3,none⟩ (.int .i64 num)).heap[w1.heap.size]? = some (zcv 1 nm (skB l tPub) num)):=zan (HCw7.out) _
   have hzw8:(w7.setCell ⟨w1.heap.size,3,none⟩ (.int .i64 num)).heap.size=w7.heap.size:=by simp only [World.size_setCell]
   obtain ⟨h0,h1,h2,h3,h4⟩:=zbk HCw7.out
   have hqw7:w1.heap.size<w7.heap.size:=by omega
   go_wp2_with fail;generalize w7.setCell ⟨w1.heap.size,3,none⟩ (.int .i64 num)=w8 at *;clear h0 h1 h2 h3 h4 HRw7 HKw7 HBw7 HCw7;refine (zfz R cap _ a ts l7 tSem w8 (by omega) HRw8.out (by decide)).mono ?_;rintro e z1 ⟨ZK,⟨zs,rfl⟩ | ⟨zs,rfl,ZR⟩⟩
   . exact ⟨rfl,HKw8.out.trans ZK,Or.inl ⟨by rw [HP7.out,if_neg (by simp [zs])],rfl⟩⟩
   have zz:=ZK.size
   have HP:Hid (zcj l=some (⟨1,nm,skB l tPub,num⟩,l7.tail)):=by show zcj l=_;rw [HP7.out,if_pos zs]
   have ZB:Hid (z1.heap[w.heap.size]? = some zd5):=(ZK.block w.heap.size (by omega) (by omega)).trans HBw8.out;have ZC:Hid (z1.heap[w1.heap.size]? = some (zcv 1 nm (skB l tPub) num)):=(ZK.block w1.heap.size (by omega) (by omega)).trans HCw8.out;obtain ⟨h0,h1,h2,h3,h4⟩:=zbk ZB.out;obtain ⟨g0,g1,g2,g3,g4⟩:=zbk ZC.out
   have HF:Hid (zeo R a cap ts w (zcj l) zvd (.returned (.agg #[.int .i64 1,.string nm,.bool (skB l tPub),.int .i64 num])) (set4 z1 w.heap.size (.int .i64 1) (.string nm) (.bool (skB l tPub)) (.int .i64 num))):=
    ⟨(HKw8.out.trans ZK).set4 (Nat.le_refl _) _ _ _ _,Or.inr ⟨⟨1,nm,skB l tPub,num⟩,l7.tail,_,HP.out,rfl,⟨rfl,hnm⟩,ZR.set4 HR.out (Nat.le_refl _) _ _ _ _⟩⟩
   clear ZK ZR zs;go_wp2_with fail;refine bodyPost_ret (v:=.agg #[.int .i64 1,.string nm,.bool (skB l tPub),.int .i64 num]) (by simp [results,Tryz.results86,go_sem,h0,h1,h2,h3]) rfl HF.out
 . have HRw3:Hid (Rd R a cap ts w3 (zhw l).tail):=RD
   clear RD;go_wp2_with fail;refine (zcu R cap a ts (zhw l).tail w3 HRw3.out).mono ?_;rintro e w4 ⟨KK,⟨hn,rfl⟩ | ⟨nm,l4,v,hn,rfl,⟨rfl,hnm⟩,RD⟩⟩
   . exact ⟨rfl,HKw3.out.trans KK,Or.inl ⟨by unfold zcj;rw [if_neg (by simp [s1]),if_pos s2,hn],rfl⟩⟩
   have HP4:Hid (zcj l=if skB l4 tSem then some (⟨2,nm,skB l tPub,0⟩,l4.tail) else none):=by show zcj l=_;unfold zcj;rw [if_neg (by simp [s1]),if_pos s2,hn]<;>rfl
   clear hn;have HRw4:Hid (Rd R a cap ts w4 l4):=RD;have HKw4:Hid (Keeps R w w4):=HKw3.out.trans KK;have HBw4:Hid (w4.heap[w.heap.size]? = some zd5):=(KK.block w.heap.size (by omega) (by omega)).trans HBw3.out;have HCw4:Hid (w4.heap[w1.heap.size]? = some (zcv 0 ⟨#[]⟩ (skB l tPub) 0)):=(KK.block w1.heap.size (by omega) (by omega)).trans HCw3.out;have hzw4:=KK.size;clear RD KK HRw3 HKw3 HBw3 HCw3;have HRw5:Hid (Rd R a cap ts ((w4.setCell ⟨w1.heap.size,1,none⟩ (.string nm)).setCell ⟨w1.heap.size,0,none⟩ (.int .i64 2)) l4):=((HRw4.out).setAbove HR.out (by show _<=w1.heap.size;omega) _).setAbove HR.out (by show _<=w1.heap.size;omega) _;have HKw5:Hid (Keeps R w ((w4.setCell ⟨w1.heap.size,1,none⟩ (.string nm)).setCell ⟨w1.heap.size,0,none⟩ (.int .i64 2))):=((HKw4.out).set (by show _<=w1.heap.size;omega) _).set (by show _<=w1.heap.size;omega) _
   have HBw5:Hid (((w4.setCell ⟨w1.heap.size,1,none⟩ (.string nm)).setCell ⟨w1.heap.size,0,none⟩ (.int .i64 2)).heap[w.heap.size]? = some zd5):=(zag (by show w.heap.size≠w1.heap.size;omega) _).trans ((zag (by show w.heap.size≠w1.heap.size;omega) _).trans (HBw4.out));have HCw5:Hid (((w4.setCell ⟨w1.heap.size,1,none⟩ (.string nm)).setCell ⟨w1.heap.size,0,none⟩ (.int .i64 2)).heap[w1.heap.size]? = some (zcv 2 nm (skB l tPub) 0)):=zan (zan (HCw4.out) _) _
   have hzw5:((w4.setCell ⟨w1.heap.size,1,none⟩ (.string nm)).setCell ⟨w1.heap.size,0,none⟩ (.int .i64 2)).heap.size=w4.heap.size:=by simp only [World.size_setCell]
   obtain ⟨h0,h1,h2,h3,h4⟩:=zbk HCw4.out
   have hqw4:w1.heap.size<w4.heap.size:=by omega
   go_wp2_with fail;generalize (w4.setCell ⟨w1.heap.size,1,none⟩ (.string nm)).setCell ⟨w1.heap.size,0,none⟩ (.int .i64 2)=w5 at *;clear h0 h1 h2 h3 h4 HRw4 HKw4 HBw4 HCw4;refine (zfz R cap _ a ts l4 tSem w5 (by omega) HRw5.out (by decide)).mono ?_;rintro e z1 ⟨ZK,⟨zs,rfl⟩ | ⟨zs,rfl,ZR⟩⟩
   . exact ⟨rfl,HKw5.out.trans ZK,Or.inl ⟨by rw [HP4.out,if_neg (by simp [zs])],rfl⟩⟩
   have zz:=ZK.size
   have HP:Hid (zcj l=some (⟨2,nm,skB l tPub,0⟩,l4.tail)):=by show zcj l=_;rw [HP4.out,if_pos zs]
   have ZB:Hid (z1.heap[w.heap.size]? = some zd5):=(ZK.block w.heap.size (by omega) (by omega)).trans HBw5.out;have ZC:Hid (z1.heap[w1.heap.size]? = some (zcv 2 nm (skB l tPub) 0)):=(ZK.block w1.heap.size (by omega) (by omega)).trans HCw5.out;obtain ⟨h0,h1,h2,h3,h4⟩:=zbk ZB.out;obtain ⟨g0,g1,g2,g3,g4⟩:=zbk ZC.out
   have HF:Hid (zeo R a cap ts w (zcj l) zvd (.returned (.agg #[.int .i64 2,.string nm,.bool (skB l tPub),.int .i64 0])) (set4 z1 w.heap.size (.int .i64 2) (.string nm) (.bool (skB l tPub)) (.int .i64 0))):=
    ⟨(HKw5.out.trans ZK).set4 (Nat.le_refl _) _ _ _ _,Or.inr ⟨⟨2,nm,skB l tPub,0⟩,l4.tail,_,HP.out,rfl,⟨rfl,hnm⟩,ZR.set4 HR.out (Nat.le_refl _) _ _ _ _⟩⟩
   clear ZK ZR zs;go_wp2_with fail;refine bodyPost_ret (v:=.agg #[.int .i64 2,.string nm,.bool (skB l tPub),.int .i64 0]) (by simp [results,Tryz.results86,go_sem,h0,h1,h2,h3]) rfl HF.out
 . have HRw3:Hid (Rd R a cap ts w3 (zhw l).tail):=RD
   clear RD;go_wp2_with fail;refine (zcu R cap a ts (zhw l).tail w3 HRw3.out).mono ?_;rintro e w4 ⟨KK,⟨hn,rfl⟩ | ⟨nm,l4,v,hn,rfl,⟨rfl,hnm⟩,RD⟩⟩
   . exact ⟨rfl,HKw3.out.trans KK,Or.inl ⟨by unfold zcj;rw [if_neg (by simp [s1]),if_neg (by simp [s2]),if_pos s3,hn],rfl⟩⟩
   have HP4:Hid (zcj l=if skB l4 tLs then (match zh9 l4.tail with | none=>none | some (k,l2)=>if skB l2 tRs then (if skB l2.tail tSem then some (⟨3,nm,skB l tPub,k⟩,l2.tail.tail) else none) else none) else none):=by show zcj l=_;unfold zcj;rw [if_neg (by simp [s1]),if_neg (by simp [s2]),if_pos s3,hn]<;>rfl
   clear hn;have HRw4:Hid (Rd R a cap ts w4 l4):=RD;have HKw4:Hid (Keeps R w w4):=HKw3.out.trans KK;have HBw4:Hid (w4.heap[w.heap.size]? = some zd5):=(KK.block w.heap.size (by omega) (by omega)).trans HBw3.out;have HCw4:Hid (w4.heap[w1.heap.size]? = some (zcv 0 ⟨#[]⟩ (skB l tPub) 0)):=(KK.block w1.heap.size (by omega) (by omega)).trans HCw3.out;have hzw4:=KK.size;clear RD KK HRw3 HKw3 HBw3 HCw3;have HRw5:Hid (Rd R a cap ts ((w4.setCell ⟨w1.heap.size,1,none⟩ (.string nm)).setCell ⟨w1.heap.size,0,none⟩ (.int .i64 3)) l4):=((HRw4.out).setAbove HR.out (by show _<=w1.heap.size;omega) _).setAbove HR.out (by show _<=w1.heap.size;omega) _;have HKw5:Hid (Keeps R w ((w4.setCell ⟨w1.heap.size,1,none⟩ (.string nm)).setCell ⟨w1.heap.size,0,none⟩ (.int .i64 3))):=((HKw4.out).set (by show _<=w1.heap.size;omega) _).set (by show _<=w1.heap.size;omega) _
   have HBw5:Hid (((w4.setCell ⟨w1.heap.size,1,none⟩ (.string nm)).setCell ⟨w1.heap.size,0,none⟩ (.int .i64 3)).heap[w.heap.size]? = some zd5):=(zag (by show w.heap.size≠w1.heap.size;omega) _).trans ((zag (by show w.heap.size≠w1.heap.size;omega) _).trans (HBw4.out));have HCw5:Hid (((w4.setCell ⟨w1.heap.size,1,none⟩ (.string nm)).setCell ⟨w1.heap.size,0,none⟩ (.int .i64 3)).heap[w1.heap.size]? = some (zcv 3 nm (skB l tPub) 0)):=zan (zan (HCw4.out) _) _
   have hzw5:((w4.setCell ⟨w1.heap.size,1,none⟩ (.string nm)).setCell ⟨w1.heap.size,0,none⟩ (.int .i64 3)).heap.size=w4.heap.size:=by simp only [World.size_setCell]
   obtain ⟨h0,h1,h2,h3,h4⟩:=zbk HCw4.out
   have hqw4:w1.heap.size<w4.heap.size:=by omega
   go_wp2_with fail;generalize (w4.setCell ⟨w1.heap.size,1,none⟩ (.string nm)).setCell ⟨w1.heap.size,0,none⟩ (.int .i64 3)=w5 at *;clear h0 h1 h2 h3 h4 HRw4 HKw4 HBw4 HCw4;refine (zfz R cap _ a ts l4 tLs w5 (by omega) HRw5.out (by decide)).mono ?_;rintro e w6 ⟨KK,⟨zs,rfl⟩ | ⟨zs,rfl,RD⟩⟩
   . exact ⟨rfl,HKw5.out.trans KK,Or.inl ⟨by rw [HP4.out,if_neg (by simp [zs])],rfl⟩⟩
   have HP6:Hid (zcj l=(match zh9 l4.tail with | none=>none | some (k,l2)=>if skB l2 tRs then (if skB l2.tail tSem then some (⟨3,nm,skB l tPub,k⟩,l2.tail.tail) else none) else none)):=by show zcj l=_;rw [HP4.out,if_pos zs]
   clear zs;have HRw6:Hid (Rd R a cap ts w6 l4.tail):=RD;have HKw6:Hid (Keeps R w w6):=HKw5.out.trans KK;have HBw6:Hid (w6.heap[w.heap.size]? = some zd5):=(KK.block w.heap.size (by omega) (by omega)).trans HBw5.out;have HCw6:Hid (w6.heap[w1.heap.size]? = some (zcv 3 nm (skB l tPub) 0)):=(KK.block w1.heap.size (by omega) (by omega)).trans HCw5.out;have hzw6:=KK.size;clear RD KK HRw5 HKw5 HBw5 HCw5;go_wp2_with fail;refine (zhm R cap a ts l4.tail w6 HRw6.out).mono ?_;rintro e w7 ⟨KK,⟨hn,rfl⟩ | ⟨num,l7,v,hn,rfl,rfl,RD⟩⟩
   . exact ⟨rfl,HKw6.out.trans KK,Or.inl ⟨by rw [HP6.out,hn],rfl⟩⟩
   have HP7:Hid (zcj l=if skB l7 tRs then (if skB l7.tail tSem then some (⟨3,nm,skB l tPub,num⟩,l7.tail.tail) else none) else none):=by show zcj l=_;rw [HP6.out,hn]
   clear hn;have HRw7:Hid (Rd R a cap ts w7 l7):=RD;have HKw7:Hid (Keeps R w w7):=HKw6.out.trans KK;have HBw7:Hid (w7.heap[w.heap.size]? = some zd5):=(KK.block w.heap.size (by omega) (by omega)).trans HBw6.out;have HCw7:Hid (w7.heap[w1.heap.size]? = some (zcv 3 nm (skB l tPub) 0)):=(KK.block w1.heap.size (by omega) (by omega)).trans HCw6.out;have hzw7:=KK.size;clear RD KK HRw6 HKw6 HBw6 HCw6;have HRw8:Hid (Rd R a cap ts (w7.setCell ⟨w1.heap.size,3,none⟩ (.int .i64 num)) l7):=(HRw7.out).setAbove HR.out (by show _<=w1.heap.size;omega) _;have HKw8:Hid (Keeps R w (w7.setCell ⟨w1.heap.size,3,none⟩ (.int .i64 num))):=(HKw7.out).set (by show _<=w1.heap.size;omega) _;have HBw8:Hid ((w7.setCell ⟨w1.heap.size,3,none⟩ (.int .i64 num)).heap[w.heap.size]? = some zd5):=(zag (by show w.heap.size≠w1.heap.size;omega) _).trans (HBw7.out);have HCw8:Hid ((w7.setCell ⟨w1.heap.size,3,none⟩ (.int .i64 num)).heap[w1.heap.size]? = some (zcv 3 nm (skB l tPub) num)):=zan (HCw7.out) _
   have hzw8:(w7.setCell ⟨w1.heap.size,3,none⟩ (.int .i64 num)).heap.size=w7.heap.size:=by simp only [World.size_setCell]
   obtain ⟨h0,h1,h2,h3,h4⟩:=zbk HCw7.out
   have hqw7:w1.heap.size<w7.heap.size:=by omega
   go_wp2_with fail;generalize w7.setCell ⟨w1.heap.size,3,none⟩ (.int .i64 num)=w8 at *;clear h0 h1 h2 h3 h4 HRw7 HKw7 HBw7 HCw7;refine (zfz R cap _ a ts l7 tRs w8 (by omega) HRw8.out (by decide)).mono ?_;rintro e w9 ⟨KK,⟨zs,rfl⟩ | ⟨zs,rfl,RD⟩⟩
   . exact ⟨rfl,HKw8.out.trans KK,Or.inl ⟨by rw [HP7.out,if_neg (by simp [zs])],rfl⟩⟩
   have HP9:Hid (zcj l=if skB l7.tail tSem then some (⟨3,nm,skB l tPub,num⟩,l7.tail.tail) else none):=by show zcj l=_;rw [HP7.out,if_pos zs]
   clear zs;have HRw9:Hid (Rd R a cap ts w9 l7.tail):=RD;have HKw9:Hid (Keeps R w w9):=HKw8.out.trans KK;have HBw9:Hid (w9.heap[w.heap.size]? = some zd5):=(KK.block w.heap.size (by omega) (by omega)).trans HBw8.out;have HCw9:Hid (w9.heap[w1.heap.size]? = some (zcv 3 nm (skB l tPub) num)):=(KK.block w1.heap.size (by omega) (by omega)).trans HCw8.out;have hzw9:=KK.size;clear RD KK HRw8 HKw8 HBw8 HCw8;go_wp2_with fail;refine (zfz R cap _ a ts l7.tail tSem w9 (by omega) HRw9.out (by decide)).mono ?_;rintro e z1 ⟨ZK,⟨zs,rfl⟩ | ⟨zs,rfl,ZR⟩⟩
   . exact ⟨rfl,HKw9.out.trans ZK,Or.inl ⟨by rw [HP9.out,if_neg (by simp [zs])],rfl⟩⟩
   have zz:=ZK.size
   have HP:Hid (zcj l=some (⟨3,nm,skB l tPub,num⟩,l7.tail.tail)):=by show zcj l=_;rw [HP9.out,if_pos zs]
   have ZB:Hid (z1.heap[w.heap.size]? = some zd5):=(ZK.block w.heap.size (by omega) (by omega)).trans HBw9.out;have ZC:Hid (z1.heap[w1.heap.size]? = some (zcv 3 nm (skB l tPub) num)):=(ZK.block w1.heap.size (by omega) (by omega)).trans HCw9.out;obtain ⟨h0,h1,h2,h3,h4⟩:=zbk ZB.out;obtain ⟨g0,g1,g2,g3,g4⟩:=zbk ZC.out
   have HF:Hid (zeo R a cap ts w (zcj l) zvd (.returned (.agg #[.int .i64 3,.string nm,.bool (skB l tPub),.int .i64 num])) (set4 z1 w.heap.size (.int .i64 3) (.string nm) (.bool (skB l tPub)) (.int .i64 num))):=
    ⟨(HKw9.out.trans ZK).set4 (Nat.le_refl _) _ _ _ _,Or.inr ⟨⟨3,nm,skB l tPub,num⟩,l7.tail.tail,_,HP.out,rfl,⟨rfl,hnm⟩,ZR.set4 HR.out (Nat.le_refl _) _ _ _ _⟩⟩
   clear ZK ZR zs;go_wp2_with fail;refine bodyPost_ret (v:=.agg #[.int .i64 3,.string nm,.bool (skB l tPub),.int .i64 num]) (by simp [results,Tryz.results86,go_sem,h0,h1,h2,h3]) rfl HF.out
end Go.Proofs.YtcekpobmbmnplaaGreatDoor
