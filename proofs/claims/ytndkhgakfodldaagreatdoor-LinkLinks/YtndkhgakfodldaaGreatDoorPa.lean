import Derived.Test.YtndkhgakfodldaaGreatDoorTd
import Derived.BigQuiet
set_option maxRecDepth 100000
set_option maxHeartbeats 3200000
open Go.Proofs.Tryz
namespace Go.Proofs.YtndkhgakfodldaaGreatDoor
open Go.RowKit
variable {A q:Nat->Prop} {P:Program} {T:Exit->Act->World->Prop} {R b a9 I g k K:Nat} {a Y:OA} {cs:Array Value} {l c d:List Tk} {o:Oper} {ops:Array Oper} {p:Addr} {O:Option (fg × List Tk)} {t:TypeId} {w r eq w2:World} {x y:fg} {af E ae H aj:Value} {α:Type}
structure eI (R:Nat) (w w':World):Prop where
 os:w'.os=w.os
 tape:w'.tape=w.tape
 output:w'.output=w.output
 size:w.heap.size<=w'.heap.size
 block:∀ k,k<w.heap.size->k≠R->w'.heap[k]? = w.heap[k]?
theorem eI.refl (R:Nat) (w:World):eI R w w:=⟨rfl,rfl,rfl,eD _,fun _ _ _=>rfl⟩
theorem eI.trans {a b c:World} (h:eI R a b) (k:eI R b c):eI R a c:=
 ⟨k.os.trans h.os,k.tape.trans h.tape,k.output.trans h.output,iC h.size k.size,fun i G J=>(k.block i (gl G h.size) J).trans (h.block i G J)⟩
theorem eI.of_below (h:et w r) (R:Nat):eI R w r:=⟨h.os,h.tape,h.output,h.size,fun k G _=>h.block k G⟩
theorem eI.setCell (R:Nat) (w:World) (j:Nat) (u:Value):eI R w (w.setCell (ep R j) u):=
 ⟨rfl,rfl,rfl,by rw [gU];exact eD _,fun k _ J=>Below.heap_setCell w (ep R j) u k J⟩
theorem eI.stays (h:eI R w r) (bb:R<K):jV K w r:=⟨h.size,fun k G J=>h.block k J (by omega)⟩
theorem eI.cell (h:eI R w r) {C:Nat} (G:b<w.heap.size) (J:b≠R):r.cell? (ep b C)=w.cell? (ep b C):=
 md (w:=w) (h.block b G J)
theorem eI.later (h:eI R w eq) (F:et eq w2):eI R w w2:=h.trans (eI.of_below F R)
theorem eI.alloc (h:eI R w eq) (o:Obj):eI R w (eq.alloc o):=h.later ((Below.refl _ _).alloc (eD _) o)
theorem eI.own (h:eI R w eq) (j:Nat) (u:Value):eI R w (eq.setCell (ep R j) u):=h.trans (eI.setCell R eq j u)
theorem eI.set (h:eI R w eq) (az:w.heap.size<=p.block) (u:Value):eI R w (eq.setCell p u):=
 ⟨h.os,h.tape,h.output,by rw [gU];exact h.size,fun k G J=>(Below.heap_setCell eq p u k (by omega)).trans (h.block k G J)⟩
structure eG (R:Nat) (a:OA) (cap:Nat) (ts:List Tk) (w:World) (l:List Tk):Prop where
 idx:∃ k:Nat,k<=ts.length/\l=ts.drop k/\w.heap[R]? = some (.cells #[.slice a ts.length cap,em k] 239 (0,0))
 toks:jD w a ts
 ne:ts=[]\/∀ b off,a=some (ep b off)->b≠R
 len:ts.length<=4096
theorem jD.keeps (h:jD w a d) (N:eI R w r) (aV:d=[]\/∀ b C,a=some (ep b C)->b≠R):jD r a d:=by
 rcases aV with a3 | aV
 . exact Or.inl a3
 rcases h with h | ⟨b,C,ab,h⟩
 . exact Or.inl h
 . have F:=aV b C ab
   have a2:=h.lt;exact Or.inr ⟨b,C,ab,gl a2 N.size,fun i X=>(N.cell a2 F).trans (h.kind i X),fun i X=>(N.cell a2 F).trans (h.num i X),fun i X=>(N.cell a2 F).trans (h.text i X),h.fits⟩
section
variable {R I:Nat} {a:OA} {d l:List Tk} {w r:World}
theorem eG.lt (h:eG R a I d w l):R<w.heap.size:=by obtain ⟨k,_,_,F⟩:=h.idx;exact lt_of_heap F
theorem eG.later (h:eG R a I d w l) (F:et w r):eG R a I d r l:=by
 obtain ⟨k,G,J,S⟩:=h.idx;exact ⟨⟨k,G,J,(F.block R (lt_of_heap S)).trans S⟩,h.toks.later F,h.ne,h.len⟩
theorem eG.at_ {j:Nat} (h:eG R a I d w l) (N:eI R w r) (ac:j<=d.length) (a2:c=d.drop j) (F:r.heap[R]? = some (.cells #[.slice a d.length I,em j] 239 (0,0))):eG R a I d r c:=
 ⟨⟨j,ac,a2,F⟩,h.toks.keeps N h.ne,h.ne,h.len⟩
theorem eG.still (h:eG R a I d w l) (N:eI R w r) (F:r.heap[R]? = w.heap[R]?):eG R a I d r l:=by
 obtain ⟨k,G,J,S⟩:=h.idx;exact ⟨⟨k,G,J,F.trans S⟩,h.toks.keeps N h.ne,h.ne,h.len⟩
theorem eG.set (h:eG R a I d w l) (az:p.block≠R) (aj:∀ b C,a=some (ep b C)->p.block≠b) (u:Value):eG R a I d (w.setCell p u) l:=by
 obtain ⟨k,G,J,S⟩:=h.idx;refine ⟨⟨k,G,J,(Below.heap_setCell w p u R (ru az)).trans S⟩,?_,h.ne,h.len⟩
 rcases h.toks with a6 | ⟨b,C,ab,a6⟩
 . exact Or.inl a6
 . have e:∀ j,(w.setCell p u).cell? (ep b j)=w.cell? (ep b j):=fun j=>md (w:=w) (Below.heap_setCell w p u b (ru (aj b C ab)))
   exact Or.inr ⟨b,C,ab,by rw [gU];exact a6.lt,fun i X=>(e _).trans (a6.kind i X),fun i X=>(e _).trans (a6.num i X),fun i X=>(e _).trans (a6.text i X),a6.fits⟩
theorem eG.alloc (h:eG R a I d w l) (o:Obj):eG R a I d (w.alloc o) l:=h.later ((Below.refl _ _).alloc (eD _) o)
theorem eG.setAbove {w0:World} {g:List Tk} (h:eG R a I d w l) (a3:eG R a I d w0 g) (az:w0.heap.size<=p.block) (u:Value):eG R a I d (w.setCell p u) l:=by
 refine ⟨?_,?_,h.ne,h.len⟩
 . obtain ⟨k,G,J,S⟩:=h.idx
   exact ⟨k,G,J,(Below.heap_setCell w p u R (by have:=lt_of_heap a3.idx.choose_spec.2.2;omega)).trans S⟩
 rcases a3.toks with a6 | ⟨b,C,ab,a6⟩
 . exact Or.inl a6
 . rcases h.toks with ap | ⟨bA,cf,v,ap⟩
   . exact Or.inl ap
   . have c:bA=b:=by rw [ab] at v;injection v with v;injection v with aw aE;exact aw.symm
     subst c
     have e:∀ j,(w.setCell p u).cell? (ep bA j)=w.cell? (ep bA j):=fun j=>md (w:=w) (Below.heap_setCell w p u bA (by have:=a6.lt;omega))
     exact Or.inr ⟨bA,cf,v,by rw [gU];exact ap.lt,fun i X=>(e _).trans (ap.kind i X),fun i X=>(e _).trans (ap.num i X),fun i X=>(e _).trans (ap.text i X),ap.fits⟩
theorem eG.adv (h:eG R a I d w (d.drop k)) (N:k<d.length) (F:w.heap[R]? = some (.cells #[.slice a d.length I,em k] 239 (0,0))) :
 eG R a I d (w.setCell (ep R 1) (em ((k:Int)+1))) (d.drop (k+1)):=by
 refine ⟨⟨k+1,by omega,rfl,?_⟩,h.toks.keeps (eI.setCell R w 1 _) h.ne,h.ne,h.len⟩;simp [World.setCell,Array.getElem?_modify,F]
end
theorem Ae (R I n:Nat) (a:OA) (d l:List Tk) (w:World) (U:n<=1) (h:eG R a I d w l) :
 ew 252 #[eL R 0,em n] w fun e r=>e = .returned (Tk.val (l.getD n kg))/\et w r:=by
 obtain ⟨k,N,rfl,F⟩:=h.idx
 have ao:w.cell? (ep R 0)=some (.slice a d.length I):=by rw [fU F];rfl
 have aM:w.cell? (ep R 1)=some (em k):=by rw [fU F];rfl
 have a0:=h.lt;have aT:=h.len
 by_cases c:k+n<d.length
 . have ae:Hid (Tk.val ((d.drop k).getD n kg) = .agg #[em d[k+n].kind,em d[k+n].n,.string d[k+n].text]):=by
    show Tk.val _=_;rw [lJ,gb (by rw [nM];omega),Option.getD_some,wX]
    rfl
   obtain ⟨b,C,rfl,u⟩:=h.toks.place c;have A:=u.kind (k+n) c;have au:=u.num (k+n) c;have s:=u.text (k+n) c;have ap:=u.lt;clear u h F;go_enter func252,ntmps252;go_wp2_with fail
   go_quiet ((fail))
   go_wp2_with fail
   go_region
   go_wp2_with fail;refine bodyPost_ret (v:=.agg #[em d[k+n].kind,em d[k+n].n,.string d[k+n].text]) (by simp [results,results252,go_sem]) rfl ⟨by rw [ae.out],?_⟩;exact (((below_drewN ((Below.refl _ _).alloc (eD _) _) _).setCell (p:=(ep w.heap.size 0)) (eD _) _).setCell (p:=(ep w.heap.size 1)) (eD _) _).setCell (p:=(ep w.heap.size 2)) (eD _) _
 . have ae:Hid (Tk.val ((d.drop k).getD n kg) = .agg #[em 0,em 0,.string ⟨#[]⟩]):=by
    show Tk.val _=_;rw [lJ,pm (by rw [nM];omega)]
    rfl
   clear h F;go_enter func252,ntmps252;go_wp2_with fail
   go_quiet ((fail))
   go_wp2_with fail;refine bodyPost_ret (v:=.agg #[em 0,em 0,.string ⟨#[]⟩]) (by simp [results,results252,go_sem]) rfl ⟨by rw [ae.out],?_⟩;exact (((below_drewN ((Below.refl _ _).alloc (eD _) _) _).setCell (p:=(ep w.heap.size 0)) (eD _) _).setCell (p:=(ep w.heap.size 1)) (eD _) _).setCell (p:=(ep w.heap.size 2)) (eD _) _
theorem FM (h:k<d.length):ez (d.drop k)=d[k]:=by
 unfold ez;rw [lJ,gb (by rw [nM];omega),Option.getD_some,wX]
 rfl
theorem Af (h:¬ k<d.length):ez (d.drop k)=kg:=by
 rw [tT (by omega)];rfl
theorem FN {t:ByteArray} (aj:0<t.size) (h:eF (d.drop k) t=true):k<d.length:=by
 by_cases N:k<d.length
 . exact N
 . unfold eF at h
   rw [Af N,iB,iB] at h
   have:t.data.toList=[]:=by simpa [kg] using (beq_iff_eq.1 h).symm
   have:=Lx.za0 t;simp_all
theorem sm (R I:Nat) (a:OA) (d l:List Tk) (w:World) (h:eG R a I d w l) :
 ew 252 #[eL R 0,em 0] w fun e r=>e = .returned (.agg #[em (ez l).kind,em (ez l).n,.string (ez l).text])/\et w r:=
 Ae R I 0 a d l w (by omega) h
theorem Ag (k n:Int) (t:ByteArray):∀ w:World,(Instr.field 184 (.agg #[em k,em n,.string t]) 0).run prog w = .ok (em k) w:=fun _=>by kernel_rfl
theorem tK (k n:Int) (t:ByteArray):∀ w:World,(Instr.field 184 (.agg #[em k,em n,.string t]) 2).run prog w = .ok (.string t) w:=fun _=>by kernel_rfl
theorem jR (R I:Nat) (a:OA) (d l:List Tk) (t:ByteArray) (w:World) (aj:0<t.size) (h:eG R a I d w l) (Z:eF l t=true) :
 ew 197 #[eL R 0,.string t] w fun e r=>e = .returned (.bool true)/\eG R a I d r l.tail/\eI R w r:=by
 obtain ⟨k,N,rfl,F⟩:=h.idx;have a0:=FN aj Z;have z:Hid (eG R a I d w (d.drop k)):=h;have ar:Hid (ew 252 #[eL R 0,em 0] w fun e r=>e = .returned (.agg #[em (ez (d.drop k)).kind,em (ez (d.drop k)).n,.string (ez (d.drop k)).text])/\et w r):=sm R I a d (d.drop k) w h
 have P:Hid ((d.drop k).tail=d.drop (k+1)):=by show List.tail _=_;rw [List.tail_drop]
 have b9:=h.len;have o:((ez (d.drop k)).text.toList == t.toList)=true:=Z;have ad:Hid (w.heap[R]? = some (.cells #[.slice a d.length I,em k] 239 (0,0))):=F;clear h Z F;generalize ez (d.drop k)=x at *;have K:=tK x.kind x.n x.text;go_enter func197,ntmps197;go_wp2_with fail;refine ar.mono ?_;rintro e eq ⟨rfl,ai⟩;have B:Hid (eq.heap[R]? = some (.cells #[.slice a d.length I,em k] 239 (0,0))):=(ai.block R z.lt).trans ad
 have aM:eq.cell? (ep R 1)=some (em k):=by rw [fU B.out];rfl
 have y:eq.frozen? (ep R 1)=false:=ih B 1;clear ar;go_wp2_with fail;go_ret;refine ⟨rfl,?_,(eI.of_below ai R).trans (eI.setCell R eq 1 _)⟩;rw [P.out];exact (z.later ai).adv a0 B
theorem jS (R I:Nat) (a:OA) (d l:List Tk) (t:ByteArray) (w:World) (h:eG R a I d w l) (Z:eF l t=false) :
 ew 197 #[eL R 0,.string t] w fun e r=>e = .returned (.bool false)/\eG R a I d r l/\eI R w r:=by
 have z:Hid (eG R a I d w l):=h;have ar:Hid (ew 252 #[eL R 0,em 0] w fun e r=>e = .returned (.agg #[em (ez l).kind,em (ez l).n,.string (ez l).text])/\et w r):=sm R I a d l w h;have o:((ez l).text.toList == t.toList)=false:=Z;clear h Z;generalize ez l=x at *;have K:=tK x.kind x.n x.text;go_enter func197,ntmps197;go_wp2_with fail;refine ar.mono ?_;rintro e eq ⟨rfl,ai⟩;clear ar;go_wp2_with fail;go_ret;exact ⟨rfl,z.later ai,eI.of_below ai R⟩
theorem take_any (R I:Nat) (a:OA) (d l:List Tk) (w:World) (h:eG R a I d w l) :
 ew 251 #[eL R 0] w fun e r=>e = .returned (.agg #[em (ez l).kind,em (ez l).n,.string (ez l).text])/\(l≠[]->eG R a I d r l.tail)/\eI R w r:=by
 obtain ⟨k,N,rfl,F⟩:=h.idx;have z:Hid (eG R a I d w (d.drop k)):=h;have b9:=h.len
 have aF:Hid (d.drop k≠[]->k<d.length):=fun aV=>by
  by_cases N:k<d.length
  . exact N
  . exact absurd (tT (by omega)) aV
 have P:Hid ((d.drop k).tail=d.drop (k+1)):=by show List.tail _=_;rw [List.tail_drop]
 have ad:Hid (w.heap[R]? = some (.cells #[.slice a d.length I,em k] 239 (0,0))):=F
 have ar:Hid (∀ w:World,eG R a I d w (d.drop k)->ew 252 #[eL R 0,em 0] w fun e r=>e = .returned (.agg #[em (ez (d.drop k)).kind,em (ez (d.drop k)).n,.string (ez (d.drop k)).text])/\et w r):=fun w h=>sm R I a d (d.drop k) w h
 clear h F;generalize ez (d.drop k)=x at *;go_enter func251,ntmps251;go_wp2_with fail;refine (ar _ (z.later ((Below.refl _ _).alloc (eD _) _))).mono ?_;rintro e eq ⟨rfl,ai⟩;have Q:et w eq:=((Below.refl _ _).alloc (eD _) _).trans (ai.mono (by simp));have c:=z.lt;have b0:=ai.size;simp at b0;have B:Hid (eq.heap[R]? = some (.cells #[.slice a d.length I,em k] 239 (0,0))):=(Q.block R c).trans ad
 have aM:eq.cell? (ep R 1)=some (em k):=by rw [fU B.out];rfl
 have y:eq.frozen? (ep R 1)=false:=ih B 1;have j:eq.heap[w.heap.size]? = some (.cells #[em 0,em 0,.string ⟨#[]⟩] 184):=(ai.block w.heap.size (by simp)).trans (_root_.Go.heap_alloc_new w _)
 have A:eq.cell? (ep w.heap.size 0)=some (em 0):=by rw [fU j];rfl
 have au:eq.cell? (ep w.heap.size 1)=some (em 0):=by rw [fU j];rfl
 have s:eq.cell? (ep w.heap.size 2)=some (.string ⟨#[]⟩):=by rw [fU j];rfl
 have b:eq.frozen? (ep w.heap.size 0)=false:=ih j 0;have d2:eq.frozen? (ep w.heap.size 1)=false:=ih j 1;have f:eq.frozen? (ep w.heap.size 2)=false:=ih j 2;clear j
 have ak:R<eq.heap.size:=by omega
 have i:w.heap.size<eq.heap.size:=by omega
 have aV:w.heap.size≠R:=by omega
 go_wp2_with fail;refine bodyPost_ret (v:=.agg #[em x.kind,em x.n,.string x.text]) (by simp [results,results251,go_sem,A,au,s,i]) rfl ⟨rfl,fun g=>?_,?_⟩
 . rw [P.out]
   exact (((((z.later Q).adv (aF g) B).setAbove z (eD _) _).setAbove z (eD _) _).setAbove z (eD _) _).alloc _
 . exact ((((eI.of_below Q R).own 1 _).set (eD _) _).set (eD _) _).set (eD _) _ |>.alloc _
theorem Ah (s:ByteArray) (w:World) :
 ew 237 #[.string s] w fun e r=>e = .returned (.bool (oF s))/\r=w:=by
 go_enter func237,ntmps237;go_wp2_with fail
 all_goals go_ret
 all_goals exact ⟨ret_bool (by simp_all [oF,xr]),rfl⟩
def gk (R:Nat) (a:OA) (I:Nat) (d:List Tk) (w:World) (O:Option (α × List Tk)) (g:α->World->Value->Prop) (e:Ending) (r:World):Prop:=
 eI R w r/\((O=none/\e = .panicked gL)\/∃ x l v,O=some (x,l)/\e = .returned v/\g x r v/\eG R a I d r l)
theorem eG.fit (h:eG R a I d w l):(ez l).text.size<=maxLen:=by
 obtain ⟨k,N,rfl,F⟩:=h.idx
 by_cases a0:k<d.length
 . rw [FM a0]
   obtain ⟨b,C,_,u⟩:=h.toks.place a0;exact u.fits k a0
 . rw [Af a0];exact eY _
theorem kN (R I:Nat) (a:OA) (d l:List Tk) (w:World) (h:eG R a I d w l) :
 ew 196 #[eL R 0] w (gk R a I d w (hS l) fun x _ v=>v = .string x/\x.size<=maxLen):=by
 have P:Hid (ew 251 #[eL R 0] w fun e r=>e = .returned (.agg #[em (ez l).kind,em (ez l).n,.string (ez l).text])/\(l≠[]->eG R a I d r l.tail)/\eI R w r):=take_any R I a d l w h;have p:Hid ((ez l).text.size<=maxLen):=h.fit;go_enter func196,ntmps196;go_wp2_with fail;refine P.mono ?_;rintro e eq ⟨rfl,bh,H⟩
 by_cases N:(ez l).kind=1
 . have aF:Hid (hS l=if !oF (ez l).text then some ((ez l).text,l.tail) else none):=by show hS l=_;unfold hS;simp [N]
   have b8:Hid (l≠[]):=sG (by rw [N];decide)
   by_cases az:oF (ez l).text=true
   . go_wp2_with (go_at_call 237;refine (Ah _ _).mono ?_;rintro e r ⟨rfl,rfl⟩)
     exact ⟨rfl,H.alloc _,Or.inl ⟨by rw [aF.out,az];rfl,rfl⟩⟩
   . have b:oF (ez l).text=false:=by simpa using az
     clear az
     go_wp2_with (go_at_call 237;refine (Ah _ _).mono ?_;rintro e r ⟨rfl,rfl⟩)
     go_ret;exact ⟨H.alloc _,Or.inr ⟨_,_,_,by rw [aF.out,b];rfl,rfl,⟨rfl,p⟩,(bh b8).alloc _⟩⟩
 . have aF:Hid (hS l=none):=by show hS l=_;unfold hS;simp [N]
   go_wp2_with fail;exact ⟨rfl,H.alloc _,Or.inl ⟨aF,rfl⟩⟩
theorem ww (R I:Nat) (a:OA) (d l:List Tk) (w:World) (h:eG R a I d w l) :
 ew 253 #[eL R 0] w (gk R a I d w (pNum l) fun x _ v=>v=em x):=by
 have P:Hid (ew 251 #[eL R 0] w fun e r=>e = .returned (.agg #[em (ez l).kind,em (ez l).n,.string (ez l).text])/\(l≠[]->eG R a I d r l.tail)/\eI R w r):=take_any R I a d l w h;go_enter func253,ntmps253;go_wp2_with fail;refine P.mono ?_;rintro e eq ⟨rfl,bh,H⟩
 by_cases N:(ez l).kind=2
 . have aF:Hid (pNum l=some ((ez l).n,l.tail)):=by show pNum l=_;unfold pNum;simp [N]
   have b8:Hid (l≠[]):=sG (by rw [N];decide);go_wp2_with fail;go_ret;exact ⟨H.alloc _,Or.inr ⟨_,_,_,aF,rfl,rfl,(bh b8).alloc _⟩⟩
 . have aF:Hid (pNum l=none):=by show pNum l=_;unfold pNum;simp [N]
   go_wp2_with fail;exact ⟨rfl,H.alloc _,Or.inl ⟨aF,rfl⟩⟩
theorem FO {p:α->Bool}:∀ {l:List α},(l.take l.length).all (fun x=>!p x)=true->l.find? p=none:=by
 intro l h;rw [iA] at h;rw [List.find?_eq_none];intro x Q;have:=hJ.1 h x Q;simpa using this
theorem wx {p:α->Bool}:∀ {l:List α} {k:Nat} (N:k<l.length),(l.take k).all (fun x=>!p x)=true->p l[k]=true->l.find? p=some l[k]
 | [],k,N,_,_=>by simp at N
 | x :: O,0,N,_,h=>by simp at h;simp [h]
 | x :: O,k+1,N,ab,h=>by
   simp only [List.take_succ_cons,oz,fs] at ab
   have Q:p x=false:=by simpa using ab.1
   rw [qv,Q];exact wx (by simpa using N) ab.2 h
theorem tL (R I b c:Nat) (a:OA) (d l:List Tk) (f:List ByteArray) (w:World) (h:eG R a I d w l) (F:b<w.heap.size) (g:b≠R) (U:f.length<=100)
 (a1:∀ i (h:i<f.length),w.cell? (ep b i)=some (.string f[i])) (az:∀ i (h:i<f.length),0<f[i].size) :
 ew 195 #[eL R 0,.slice (some (ep b 0)) f.length c] w (gk R a I d w ((mA l f).map fun t=>(t,l.tail)) fun x _ v=>v = .string x):=by
 have z:Hid (eG R a I d w l):=h;have ao:Hid (∀ i (h:i<f.length),w.cell? (ep b i)=some (.string f[i])):=a1;have A:Hid (∀ i (h:i<f.length),0<f[i].size):=az;clear h a1 az;go_enter func195,ntmps195;go_wp2_with fail
 go_loopw [9,6] (fun i _ wr=>∃ k:Nat,k<=f.length/\i=em k/\(f.take k).all (fun t=>!eF l t)=true/\eG R a I d wr l/\eI R w wr) (fun i _ _=>f.length - (intOf i).toNat)
 case atStart=>exact ⟨0,eY _,rfl,rfl,z,eI.refl _ _⟩
 case round=>
  obtain ⟨k,N,rfl,aO,j,aa⟩:=hrel;have ar:Hid ((f.take k).all (fun t=>!eF l t)=true):=aO;have aK:Hid (eG R a I d wr l):=j;clear aO j
  by_cases a0:k<f.length
  . have cx:wr.cell? (ep b k)=some (.string f[k]):=(aa.cell F g).trans (ao k a0)
    by_cases Z:eF l f[k]=true
    . have aJ:Hid (ew 197 #[eL R 0,.string f[k]] wr fun e r=>e = .returned (.bool true)/\eG R a I d r l.tail/\eI R wr r):=jR R I a d l f[k] wr (A k a0) aK Z
      have aq:Hid (mA l f=some f[k]):=wx a0 ar Z
      go_wp2_with (go_at_call 197;refine aJ.mono ?_;rintro e w2 ⟨rfl,aZ,X⟩)
      go_ret;exact ⟨aa.trans X,Or.inr ⟨_,_,_,by rw [aq.out];rfl,rfl,rfl,aZ⟩⟩
    . have o:eF l f[k]=false:=by simpa using Z
      have aJ:Hid (ew 197 #[eL R 0,.string f[k]] wr fun e r=>e = .returned (.bool false)/\eG R a I d r l/\eI R wr r):=jS R I a d l f[k] wr aK o
      go_wp2_with (go_at_call 197;refine aJ.mono ?_;rintro e w2 ⟨rfl,aZ,X⟩)
      go_roundw
      case rel=>exact ⟨k+1,by omega,by go_num,by rw [all_snoc f _ k a0,ar.out,o];rfl,aZ,aa.trans X⟩
      case measure=>simp [intOf];omega
  . have m:k=f.length:=by omega
    subst m;have aq:Hid (mA l f=none):=FO ar;go_wp2_with fail;exact ⟨rfl,aa,Or.inl ⟨by rw [aq.out];rfl,rfl⟩⟩
theorem jE (R I n:Nat) (a:OA) (d l:List Tk) (t:ByteArray) (w:World) (U:n=w.heap.size) (h:eG R a I d w l) (aj:0<t.size) :
 ew 195 #[eL R 0,.slice (some (ep n 0)) 1 1] (w.alloc (.cells #[.string t] 9)) fun e r=>eI R w r/\((eF l t=false/\e = .panicked gL)\/(eF l t=true/\e = .returned (.string t)/\eG R a I d r l.tail)):=by
 have a0:=h.lt;subst U;refine (tL R I w.heap.size 1 a d l [t] _ (h.alloc _) (by simp) (by omega) (by simp) (fun i X=>?_) (fun i X=>?_)).mono ?_
 . obtain rfl:i=0:=by simp at X;omega
   simp
 . obtain rfl:i=0:=by simp at X;omega
   exact aj
 . rintro e r ⟨N,W⟩
   refine ⟨((eI.refl R w).alloc _).trans N,?_⟩
   have a8:mA l [t]=if eF l t then some t else none:=by unfold mA;rw [qv];cases eF l t<;>rfl
   rw [a8] at W
   cases Z:eF l t
   . rw [Z] at W
     rcases W with ⟨_,rfl⟩ | ⟨x,c,v,W,_⟩
     . exact Or.inl ⟨rfl,rfl⟩
     . simp at W
   . rw [Z] at W
     rcases W with ⟨W,_⟩ | ⟨x,c,v,W,rfl,rfl,bb⟩
     . simp at W
     . simp at W
       obtain ⟨rfl,rfl⟩:=W;exact Or.inr ⟨rfl,rfl,bb⟩
theorem wy (R I:Nat) (a:OA) (d l:List Tk) (t:ByteArray) (w:World) (aj:0<t.size) (h:eG R a I d w l) :
 ew 197 #[eL R 0,.string t] w fun e r=>e = .returned (.bool (eF l t))/\eG R a I d r (if eF l t then l.tail else l)/\eI R w r:=by
 cases Z:eF l t
 . exact jS R I a d l t w h Z
 . exact jR R I a d l t w aj h Z
theorem heap_set {i:Nat} {f:Nat × Nat} (h:w.heap[b]? = some (.cells cs t f)) (u:Value):(w.setCell (ep b i) u).heap[b]? = some (.cells (cs.setIfInBounds i u) t f):=by
 simp [World.setCell,Array.getElem?_modify,h]
theorem fa (h:b≠p.block) (u:Value):(w.setCell p u).heap[b]? = w.heap[b]?:=Below.heap_setCell w p u b h
theorem fF {x o:Obj} (h:w.heap[b]? = some x):(w.alloc o).heap[b]? = some x:=((Below.refl w.heap.size w).alloc (eD _) o |>.block b (lt_of_heap h)).trans h
theorem eT (w:World) (o:Obj):(w.alloc o).heap[w.heap.size]? = some o:=_root_.Go.heap_alloc_new w o
theorem fi (h:w.heap[b]? = some (.cells #[af,E,ae,H,aj] t (0,0))) :
 w.cell? (ep b 0)=some af/\w.cell? (ep b 1)=some E/\w.cell? (ep b 2)=some ae/\w.cell? (ep b 3)=some H/\w.cell? (ep b 4)=some aj/\∀ i,w.frozen? (ep b i)=false:=by
 refine ⟨?_,?_,?_,?_,?_,fun i=>ih h i⟩<;>(rw [fU h];rfl)
theorem he {al:Value} (h:w.heap[b]? = some (.cells #[af,E,ae,H,aj,al] t (0,0))) :
 w.cell? (ep b 0)=some af/\w.cell? (ep b 1)=some E/\w.cell? (ep b 2)=some ae/\w.cell? (ep b 3)=some H/\w.cell? (ep b 4)=some aj/\w.cell? (ep b 5)=some al/\∀ i,w.frozen? (ep b i)=false:=by
 refine ⟨?_,?_,?_,?_,?_,?_,fun i=>ih h i⟩<;>(rw [fU h];rfl)
theorem mm (h:w.heap[b]? = some (.cells #[af,E,ae,H] t (0,0))) :
 w.cell? (ep b 0)=some af/\w.cell? (ep b 1)=some E/\w.cell? (ep b 2)=some ae/\w.cell? (ep b 3)=some H/\∀ i,w.frozen? (ep b i)=false:=by
 refine ⟨?_,?_,?_,?_,fun i=>ih h i⟩<;>(rw [fU h];rfl)
theorem eQ.keeps (h:eQ w A eq q) (N:eI R eq w2) (bb:∀ b,b<w.heap.size->A b->b≠R):eQ w A w2 q:=
 ⟨iC h.1 N.size,fun b F ab=>⟨(h.2 b F ab).1,(N.block b (gl F h.1) (bb b F ab)).trans (h.2 b F ab).2⟩⟩
theorem eQ.set (h:eQ w A eq q) (az:∀ b,b<w.heap.size->A b->b≠p.block) (u:Value):eQ w A (eq.setCell p u) q:=
 ⟨by rw [gU];exact h.1,fun b F ab=>⟨(h.2 b F ab).1,(Below.heap_setCell eq p u b (az b F ab)).trans (h.2 b F ab).2⟩⟩
theorem eQ.to {lo':Nat} (h:eQ w (K<=·) eq (K<=·)) (a2:lo'<=K):eQ w (K<=·) eq (lo'<=·):=h.trans (eQ.lower a2)
theorem eI.drew (h:eI R w eq):eI R w eq.drew:=⟨h.os,h.tape,h.output,h.size,h.block⟩
theorem eG.drew (h:eG R a I d w l):eG R a I d w.drew l:=h.still (eI.refl R w).drew rfl
theorem eQ.drew (h:eQ w A eq q):eQ w A eq.drew q:=⟨h.1,h.2⟩
abbrev set5 (w:World) (b:Nat) (Z aK aN aY be:Value):World:=((((w.setCell (ep b 0) Z).setCell (ep b 1) aK).setCell (ep b 2) aN).setCell (ep b 3) aY).setCell (ep b 4) be
abbrev set6 (w:World) (b:Nat) (Z aK aN aY be P:Value):World:=(set5 w b Z aK aN aY be).setCell (ep b 5) P
section
variable {R I b:Nat} {w w0 eq:World} {a:OA} {d l g:List Tk} {A q:Nat->Prop}
theorem eI.set5 (h:eI R w eq) (az:w.heap.size<=b) (Z aK aN aY be:Value):eI R w (set5 eq b Z aK aN aY be):=((((h.set az Z).set az aK).set az aN).set az aY).set az be
theorem eI.set6 (h:eI R w eq) (az:w.heap.size<=b) (Z aK aN aY be P:Value):eI R w (set6 eq b Z aK aN aY be P):=(h.set5 az Z aK aN aY be).set az P
theorem eG.set5 (h:eG R a I d eq l) (a3:eG R a I d w0 g) (az:w0.heap.size<=b) (Z aK aN aY be:Value):eG R a I d (set5 eq b Z aK aN aY be) l:=((((h.setAbove a3 az Z).setAbove a3 az aK).setAbove a3 az aN).setAbove a3 az aY).setAbove a3 az be
theorem eG.set6 (h:eG R a I d eq l) (a3:eG R a I d w0 g) (az:w0.heap.size<=b) (Z aK aN aY be P:Value):eG R a I d (set6 eq b Z aK aN aY be P) l:=(h.set5 a3 az Z aK aN aY be).setAbove a3 az P
theorem eQ.set5 (h:eQ w A eq q) (az:∀ k,k<w.heap.size->A k->k≠b) (Z aK aN aY be:Value):eQ w A (set5 eq b Z aK aN aY be) q:=((((h.set az Z).set az aK).set az aN).set az aY).set az be
theorem eQ.set6 (h:eQ w A eq q) (az:∀ k,k<w.heap.size->A k->k≠b) (Z aK aN aY be P:Value):eQ w A (set6 eq b Z aK aN aY be P) q:=(h.set5 az Z aK aN aY be).set az P
end
def ku (A:Nat->Prop) (x:fg) (w:World) (v:Value):Prop:=∃ a I,v = .agg #[em x.op,em x.n,.string x.mod,.string x.name,.slice a x.args.length I]/\x.mod.size<=maxLen/\x.name.size<=maxLen/\eU w A a x.args.length (ft x.args)
def oe (x:fg) (a:OA) (I:Nat):List Value:=[em x.op,em x.n,.string x.mod,.string x.name,.slice a x.args.length I]
theorem qi (G:x.mod.size<=maxLen) (J:x.name.size<=maxLen) (S:eU w A a x.args.length (ft x.args)):fG w A x.ds (oe x a I):=by
 cases x
 unfold fg.ds;exact .cons jX (.cons jX (.cons (mx G) (.cons (mx J) (.cons S.val .nil))))
theorem qj (G:x.mod.size<=maxLen) (J:x.name.size<=maxLen) (S:eU w A a x.args.length (ft x.args))
 (a8:eQ w A r q) (af:r.heap[g]? = some (.cells #[em x.op,em x.n,.string x.mod,.string x.name,.slice a x.args.length I] t (0,0))) (aT:q g):eU r q (some (ep g 0)) 1 (ft [x]):=by
 rw [uk];refine Or.inr ⟨g,0,oe x a I,rfl,aT,lt_of_heap af,fun j u ac=>?_,qi G J (S.moves a8)⟩;rw [hv,fU af];simpa [oe] using ac
theorem FP {B:Nat->Prop} {u:World} {b:OA} {dap:Nat} (h:x.mod.size<=maxLen/\x.name.size<=maxLen/\eU w A a x.args.length (ft x.args)) (k:y.mod.size<=maxLen/\y.name.size<=maxLen/\eU u B b y.args.length (ft y.args))
 (a8:eQ w A r q) (c:eQ u B r q) (af:r.heap[g]? = some (.cells #[em x.op,em x.n,.string x.mod,.string x.name,.slice a x.args.length I,em y.op,em y.n,.string y.mod,.string y.name,.slice b y.args.length dap] t (0,0))) (aT:q g):eU r q (some (ep g 0)) 2 (ft [x,y]):=by
 have e:ft [x,y]=x.ds++y.ds:=by simp [ft]
 rw [e];refine Or.inr ⟨g,0,oe x a I++oe y b dap,rfl,aT,lt_of_heap af,fun j u ac=>?_,(qi h.1 h.2.1 (h.2.2.moves a8)).append (qi k.1 k.2.1 (k.2.2.moves c))⟩;rw [hv,fU af];simpa [oe] using ac
theorem Ai (R I:Nat) (a:OA) (d l:List Tk) (w:World) (h:eG R a I d w l) :
 ew 294 #[eL R 0] w (gk R a I d w (mB l) fun x _ v=>v = .tuple #[.string x.1,.string x.2]/\x.1.size<=maxLen/\x.2.size<=maxLen):=by
 have aF:Hid (ew 196 #[eL R 0] w (gk R a I d w (hS l) fun x _ v=>v = .string x/\x.size<=maxLen)):=kN R I a d l w h;clear h;go_enter func294,ntmps294;go_wp2_with fail;refine aF.mono ?_;rintro e eq ⟨H,⟨U,rfl⟩ | ⟨x,j,v,U,rfl,⟨rfl,Q⟩,bh⟩⟩
 . exact ⟨rfl,H,Or.inl ⟨by unfold mB;rw [U],rfl⟩⟩
 have s:Hid (hS l=some (x,j)):=U;have aK:Hid (eG R a I d eq j):=bh;clear aF U bh;go_wp2_with fail
 by_cases Z:eF j qA=true
 . refine (jR R I a d j qA eq (by decide) aK Z).mono ?_
   rintro e w2 ⟨rfl,aZ,X⟩;go_wp2_with fail;refine (kN R I a d j.tail w2 aZ).mono ?_;rintro e eC ⟨ab,⟨K,rfl⟩ | ⟨y,a2,v,K,rfl,⟨rfl,z⟩,b3⟩⟩
   . exact ⟨rfl,(H.trans X).trans ab,Or.inl ⟨by unfold mB;rw [s.out];simp only [];rw [if_pos Z,K],rfl⟩⟩
   go_wp2_with fail;go_ret2;exact ⟨(H.trans X).trans ab,Or.inr ⟨(x,y),a2,_,by unfold mB;rw [s.out];simp only [];rw [if_pos Z,K],rfl,⟨rfl,Q,z⟩,b3⟩⟩
 . have o:eF j qA=false:=by simpa using Z
   refine (jS R I a d j qA eq aK o).mono ?_;rintro e w2 ⟨rfl,aZ,X⟩;go_wp2_with fail;go_ret2;exact ⟨H.trans X,Or.inr ⟨(⟨#[]⟩,x),j,_,by unfold mB;rw [s.out];simp only [];rw [if_neg Z],rfl,⟨rfl,eY _,Q⟩,aZ⟩⟩
theorem FQ (l:List Tk):(mA l jH=none/\mZ l=none)\/∃ k:Nat,∃ h:k<jH.length,mA l jH=some jH[k]/\mZ l=some k:=by
 unfold mZ mA
 cases ag:jH.findIdx? (fun t=>eF l t) with
 | none=>
   left
   rw [tQ] at ag;refine ⟨List.find?_eq_none.2 fun x Q=>by simpa using ag x Q,rfl⟩
 | some k=>
   right
   obtain ⟨N,J,S⟩:=rc.1 ag;refine ⟨k,N,?_,rfl⟩;refine wx N ?_ J;rw [hJ];intro x Q;obtain ⟨j,ac,rfl⟩:=List.mem_take_iff_getElem.1 Q
   have b:j<k:=by omega
   simpa using S j b
abbrev nK:ByteArray:=⟨#[38,124,43,45,42,47,37,61,60]⟩
theorem FR (w:World):ew 298 #[.string nK,.string ⟨#[]⟩] w fun e r=>∃ b,e = .returned (.slice (some (ep b 0)) 9 9)/\w.heap.size<=b/\b<r.heap.size/\(∀ i (h:i<jH.length),r.cell? (ep b i)=some (.string jH[i]))/\et w r:=by
 have a:∀ (j:Nat) b,nK.data.toList[j]? = some b->b.toNat<128:=by
  intro j b ac;have a8:=wT ac
  have aO:∀ x ∈ nK.data.toList,x.toNat<128:=by decide
  exact aO b a8
 refine (Tryz.strings_Split_chars nK ⟨#[]⟩ w rfl (by decide) a).mono ?_;rintro e r ⟨rfl,rfl⟩;refine ⟨_,rfl,by simp [World.iter],by simp [World.iter],fun i X=>?_,?_⟩
 . have f:Lib.charsB nK=jH:=by decide +kernel
   rw [f,fU (eT _ _)];simp [X]
 . exact ((Below.refl w.heap.size w).alloc (eD _) _).alloc (by simp) _
theorem FS (R I b:Nat) (a:OA) (d l:List Tk) (w:World) (h:eG R a I d w l) (F:b<w.heap.size) (g:b≠R) (a1:∀ i (h:i<jH.length),w.cell? (ep b i)=some (.string jH[i])) :
 ew 195 #[eL R 0,.slice (some (ep b 0)) 9 9] w fun e r=>eI R w r/\((mZ l=none/\e = .panicked gL)\/∃ (k:Nat) (c:UInt8),mZ l=some k/\k<9/\Lib.indexByte nK.data.toList c=k/\e = .returned (.string ⟨#[c]⟩)/\eG R a I d r l.tail):=by
 refine (tL R I b 9 a d l jH w h F g (by decide) a1 (by decide)).mono ?_;rintro e r ⟨N,W⟩;refine ⟨N,?_⟩
 rcases FQ l with ⟨a8,aa⟩ | ⟨k,N,a8,aa⟩
 . rw [a8] at W
   rcases W with ⟨_,rfl⟩ | ⟨_,_,_,a3,_⟩
   . exact Or.inl ⟨aa,rfl⟩
   . cases a3
 . rw [a8] at W
   rcases W with ⟨a3,_⟩ | ⟨ak,a2,aY,a3,rfl,rfl,b3⟩
   . cases a3
   . obtain ⟨rfl,rfl⟩:=fD (fe a3)
     right
     have Z:∀ k (h:k<jH.length),∃ c:UInt8,jH[k]=⟨#[c]⟩/\Lib.indexByte nK.data.toList c=k:=by
      intro k N;have f:k<9:=N
      obtain rfl | rfl | rfl | rfl | rfl | rfl | rfl | rfl | rfl:k=0\/k=1\/k=2\/k=3\/k=4\/k=5\/k=6\/k=7\/k=8:=by omega
      all_goals exact ⟨_,rfl,by decide +kernel⟩
     obtain ⟨c,aM,b1⟩:=Z k N;exact ⟨k,c,aa,N,b1,by rw [aM],b3⟩
theorem Tryz.infoP80:(prog.info? 174).map (fun i=>(i.zero,i.size,i.bytes))=some (some (.agg #[em 0,em 0,.string ⟨#[]⟩,.string ⟨#[]⟩,eu]),5,72):=by kernel_rfl
theorem Tryz.infoP48:(prog.info? 176).map (fun i=>(i.zero,i.size,i.bytes))=some (some (.agg #[em 0,.string ⟨#[]⟩,.string ⟨#[]⟩,eu,eu,eu]),6,112):=by kernel_rfl
theorem Tryz.infoP56:(prog.info? 170).map (fun i=>(i.zero,i.size,i.bytes))=some (some (.agg #[em 0,.string ⟨#[]⟩,.bool false,em 0]),4,40):=by kernel_rfl
theorem Tryz.infoP60:(prog.info? 118).map (fun i=>(i.zero,i.size,i.bytes))=some (some (.agg #[.string ⟨#[]⟩,.bool false,eu,eu,eu]),5,96):=by kernel_rfl
theorem Tryz.infoP9:(prog.info? 9).map (fun i=>(i.zero,i.size,i.bytes))=some (some (.string ⟨#[]⟩),1,16):=by kernel_rfl
theorem FT {Y:Nat} {e:TypeId} {size:Nat} {v:Value} {n:Nat} {ae:List Value} (h:w.ownsRow Y e size v n ae) (N:eI R w r) (bb:R<Y):r.ownsRow Y e size v n ae:=by
 refine ⟨h.1,?_⟩
 rcases h.2 with J | ⟨g,I,o,G,F,af,W⟩
 . exact Or.inl J
 . exact Or.inr ⟨g,I,o,G,F,(N.block g (lt_of_heap af) (by omega)).trans af,W⟩
def ld (K:Nat) (v:Value) (b:Nat):Prop:=K<=b/\v.ownBlock≠some b
def Row (Y:Nat) (e:TypeId) (size:Nat) (w:World) (v:Value) (n:Nat) (ds:List D):Prop:=∃ ae,w.ownsRow Y e size v n ae/\fG w (ld Y v) ds ae
section
variable {Y:Nat} {e:TypeId} {size:Nat} {w r:World} {v:Value} {n R:Nat} {ds:List D}
theorem Row.nil (Y:Nat) (e:TypeId) (size:Nat) (w:World):Row Y e size w (eu) 0 []:=⟨[],ko _ _ _ _,.nil⟩
theorem Row.keeps (h:Row Y e size w v n ds) (N:eI R w r) (bb:R<Y):Row Y e size r v n ds:=by
 obtain ⟨ae,G,J⟩:=h;refine ⟨ae,FT G N bb,J.moves ((eQ.refl w _).keeps N ?_)⟩
 intro b _ F;have:=F.1;omega
theorem Row.later (h:Row Y e size w v n ds) (F:et w r):Row Y e size r v n ds:=by
 obtain ⟨ae,G,J⟩:=h;exact ⟨ae,ownsRow_later G F,J.moves (eQ.of_below F _)⟩
theorem Row.alloc (h:Row Y e size w v n ds) (o:Obj):Row Y e size (w.alloc o) v n ds:=h.later ((Below.refl _ _).alloc (eD _) o)
theorem Row.set (h:Row Y e size w v n ds) (az:p.block<Y) (u:Value):Row Y e size (w.setCell p u) v n ds:=by
 obtain ⟨ae,G,J⟩:=h;refine ⟨ae,ownsRow_setCell_below G az u,J.moves ((eQ.refl w _).set ?_ u)⟩
 intro b _ F;have:=F.1;omega
theorem Row.slice (h:Row Y e size w v n ds):∃ a I,v = .slice a n I/\eU w (Y<=·) a n ds:=by
 obtain ⟨ae,G,J⟩:=h
 have a8:eQ w (ld Y v) w (Y<=·):=⟨eD _,fun b _ F=>⟨F.1,rfl⟩⟩
 rcases G.2 with ⟨rfl,rfl⟩ | ⟨g,I,o,rfl,_⟩
 . exact ⟨none,0,rfl,Or.inl rfl⟩
 . exact ⟨_,I,rfl,eU.of_own G (fun _ h=>h) (J.moves a8)⟩
theorem Row.lt (h:Row Y e size w v n ds):∀ k,v.ownBlock=some k->Y<=k/\k<w.heap.size:=by
 obtain ⟨ae,G,_⟩:=h;exact G.lt
theorem Row.one (af:w.heap[g]? = some (.cells cs e (0,0))) (F:Y<=g) (Z:cs.size=size) (ez:fG w A ds cs.toList) (aT:∀ b,b<w.heap.size->A b->Y<=b/\b≠g) :
 Row Y e size w (.slice (some (ep g 0)) 1 1) 1 ds:=by
 refine ⟨cs.toList,⟨by simp [Z],Or.inr ⟨g,1,cs,rfl,F,af,eD _,by unfold maxLen;omega,by omega,by rw [rt,← Z];exact kw (by simp)⟩⟩,ez.moves ⟨eD _,fun b G J=>⟨⟨(aT b G J).1,fun h=>(aT b G J).2 ?_⟩,rfl⟩⟩⟩;simp only [Value.ownBlock] at h;exact (fe h).symm
theorem Row.first (ez:fG w A ds cs.toList) (aT:∀ b,b<w.heap.size->A b->Y<=b) (F:Y<=w.heap.size) (Z:cs.size=size) :
 Row Y e size (w.alloc (.cells cs e)) (.slice (some (ep w.heap.size 0)) 1 1) 1 ds:=by
 refine Row.one (eT w _) F Z (A:=fun b=>A b/\b<w.heap.size) (ez.moves ⟨by simp,fun b G J=>⟨⟨J,G⟩,((Below.refl w.heap.size w).alloc (eD _) (.cells cs e)).block b G⟩⟩) ?_;intro b _ J;exact ⟨aT b J.2 J.1,by omega⟩
end
theorem mP {rest:List Oper} {a:Act} (m:o.guard=none) (s x:Operand) (t:TypeId)
 (aa:o.op = .call { callee:=.builtin .append,args:=#[s,x],argTypes:=#[t,t] }) (Y:Nat) (e:TypeId) (z:Value) (size bytes:Nat) (aj:P.underlying t=some (.slice e))
 (X:(P.info? e).map (fun i=>(i.zero,i.size,i.bytes))=some (some z,size,bytes)) (C:z.cells.size=size) (O:0<size) (w:World) (v:Value) (n:Nat) (ds cL:List D) (Z:a.eval s=v) (ba:Row Y e size w v n ds)
 (cs:Array Value) (H:Nat) (c:H=w.heap.size) (Q:a.eval x = .slice (some (ep H 0)) 1 1) (R:cs.size=size) (A:Nat->Prop) (B:fG w A cL cs.toList) (aT:∀ b,b<w.heap.size->A b->ld Y v b)
 (U:n<=5000) (a4:bytes<=200) (p:Y<=w.heap.size)
 (h:∀ g I r,Row Y e size r (.slice (some (ep g 0)) (n+1) I) (n+1) (ds++cL)->Below Y w r->w.heap.size<r.heap.size->wpList P ops T rest (a.put o.dst (.slice (some (ep g 0)) (n+1) I)) r) :
 wpList P ops T (o :: rest) a (w.alloc (.cells cs e)):=by
 obtain ⟨bx,X,al,b0,bl⟩:=info_parts X;obtain ⟨ae,aW,bg⟩:=ba
 have a6:(w.alloc (.cells cs e)).heap.size=w.heap.size+1:=by simp
 refine wpList_append_lies (w.alloc (.cells cs e)) m s x t aa Y e bx z size bytes aj X al b0 bl C O v n ae Z (aW.alloc _) (ep H 0) 1 1 cs.toList Q (by simp [R]) ?_ B.one (by omega) (by unfold maxLen;omega) ?_ (by omega) _ rfl ?_
 . intro j u ac
   subst c
   have:((ep w.heap.size 0):Addr).add j=(ep w.heap.size j):=by unfold Addr.add;split<;>simp_all
   rw [this,fU (eT w _)];simpa using ac
 . have:(n+1)*bytes<=5001*200:=ua (by omega) a4
   omega
 . intro g I r d f a5 a0
   have y:Below Y w r:=((Below.refl Y w).alloc p _).grown f (by omega) (fun k N=>(aW.lt k N).1);have J:=f.size;refine h g I r ⟨ae++cs.toList,d,?_⟩ y (by omega)
   have W:∀ q:Nat->Prop,(∀ b,b<w.heap.size->q b->ld Y v b)->eQ w q r (ld Y (.slice (some (ep g 0)) (n+1) I)):=by
    intro q hA';refine ⟨by omega,fun b F ab=>⟨⟨(hA' b F ab).1,fun l=>?_⟩,?_⟩⟩
    . have L:g=b:=by simpa [Value.ownBlock] using l
      rcases a5 with G | G
      . exact (hA' b F ab).2 (by rw [G,L])
      . omega
    . refine (f.block b (by omega) (fun h=>(hA' b F ab).2 h.symm)).trans ?_
      exact ((Below.refl w.heap.size w).alloc (eD _) (.cells cs e)).block b F
   exact (bg.moves (W _ (fun _ _ h=>h))).append (B.moves (W A aT))
theorem qk {a:Act} {K:Act->World->Prop} {E:Prop} (m:o.guard=none) (s x:Operand) (t:TypeId)
 (aa:o.op = .call { callee:=.builtin .append,args:=#[s,x],argTypes:=#[t,t] }) (Y:Nat) (e:TypeId) (z:Value) (size bytes:Nat) (aj:P.underlying t=some (.slice e))
 (X:(P.info? e).map (fun i=>(i.zero,i.size,i.bytes))=some (some z,size,bytes)) (C:z.cells.size=size) (O:0<size) (w:World) (v:Value) (n:Nat) (ds cL:List D) (Z:a.eval s=v) (ba:Row Y e size w v n ds)
 (cs:Array Value) (H:Nat) (c:H=w.heap.size) (Q:a.eval x = .slice (some (ep H 0)) 1 1) (R:cs.size=size) (A:Nat->Prop) (B:fG w A cL cs.toList) (aT:∀ b,b<w.heap.size->A b->ld Y v b)
 (U:n<=5000) (a4:bytes<=200) (p:Y<=w.heap.size)
 (h:∀ g I r,Row Y e size r (.slice (some (ep g 0)) (n+1) I) (n+1) (ds++cL)->Below Y w r->w.heap.size<r.heap.size->K (a.put o.dst (.slice (some (ep g 0)) (n+1) I)) r) :
 if Region.wanted o (yielded ops a.tmps)=true then Oper.wp P o a (w.alloc (.cells cs e)) K T else E:=by
 obtain ⟨bx,X,al,b0,bl⟩:=info_parts X;obtain ⟨ae,aW,bg⟩:=ba
 have a6:(w.alloc (.cells cs e)).heap.size=w.heap.size+1:=by simp
 refine step_append_lies (w.alloc (.cells cs e)) m s x t aa Y e bx z size bytes aj X al b0 bl C O v n ae Z (aW.alloc _) (ep H 0) 1 1 cs.toList Q (by simp [R]) ?_ B.one (by omega) (by unfold maxLen;omega) ?_ (by omega) _ rfl ?_
 . intro j u ac
   subst c
   have:((ep w.heap.size 0):Addr).add j=(ep w.heap.size j):=by unfold Addr.add;split<;>simp_all
   rw [this,fU (eT w _)];simpa using ac
 . have:(n+1)*bytes<=5001*200:=ua (by omega) a4
   omega
 . intro g I r d f a5 a0
   have y:Below Y w r:=((Below.refl Y w).alloc p _).grown f (by omega) (fun k N=>(aW.lt k N).1);have J:=f.size;refine h g I r ⟨ae++cs.toList,d,?_⟩ y (by omega)
   have W:∀ q:Nat->Prop,(∀ b,b<w.heap.size->q b->ld Y v b)->eQ w q r (ld Y (.slice (some (ep g 0)) (n+1) I)):=by
    intro q hA';refine ⟨by omega,fun b F ab=>⟨⟨(hA' b F ab).1,fun l=>?_⟩,?_⟩⟩
    . have L:g=b:=by simpa [Value.ownBlock] using l
      rcases a5 with G | G
      . exact (hA' b F ab).2 (by rw [G,L])
      . omega
    . refine (f.block b (by omega) (fun h=>(hA' b F ab).2 h.symm)).trans ?_
      exact ((Below.refl w.heap.size w).alloc (eD _) (.cells cs e)).block b F
   exact (bg.moves (W _ (fun _ _ h=>h))).append (B.moves (W A aT))
section
variable {R I:Nat} {a:OA} {d l g:List Tk} {w w0 r:World}
theorem eG.belowOf (h:eG R a I d w l) (a3:eG R a I d w0 g) (F:Below w0.heap.size w r):eG R a I d r l:=by
 refine ⟨?_,?_,h.ne,h.len⟩
 . obtain ⟨k,G,J,S⟩:=h.idx
   exact ⟨k,G,J,(F.block R a3.lt).trans S⟩
 . rcases a3.toks with a6 | ⟨b,C,ab,a6⟩
   . exact Or.inl a6
   . rcases h.toks with ap | ⟨bA,cf,v,ap⟩
     . exact Or.inl ap
     . have c:bA=b:=by rw [ab] at v;injection v with v;injection v with aw aE;exact aw.symm
       subst c;exact Or.inr ⟨bA,cf,v,ap.below F a6.lt⟩
theorem eI.belowOf (h:eI R w0 w) (F:Below w0.heap.size w r):eI R w0 r:=
 ⟨F.os.trans h.os,F.tape.trans h.tape,F.output.trans h.output,iC h.size F.size,fun k G J=>(F.block k G).trans (h.block k G J)⟩
end
def lf (R n:Nat) (w:World):Nat:=match w.cell? ⟨R,1,none⟩ with | some (.int _ k)=>n - k.toNat | _=>0
theorem eG.left (h:eG R a I d w l):lf R d.length w=l.length:=by
 obtain ⟨k,N,rfl,F⟩:=h.idx;unfold lf;rw [fU F];simp
def wz (A:Nat->Prop) (ae:List fg) (w:World) (v:Value):Prop:=∃ a I,v = .slice a ae.length I/\eU w A a ae.length (ft ae)
structure ql (R cap:Nat) (a:OA) (ts:List Tk) (f:Nat):Prop where
 expr:∀ (l:List Tk) (w:World),eG R a cap ts w l->3*l.length+1<=f->ew 283 #[eL R 0] w (gk R a cap ts w (gz f l) (ku (w.heap.size<=·)))
 pair:∀ (l:List Tk) (w:World),eG R a cap ts w l->3*l.length+2<=f->ew 293 #[eL R 0] w (gk R a cap ts w (kh f l) (ku (w.heap.size<=·)))
 args:∀ (l:List Tk) (w:World),eG R a cap ts w l->3*l.length+2<=f->ew 295 #[eL R 0] w (gk R a cap ts w (iK f l) (wz (w.heap.size<=·)))
theorem FU (R I:Nat) (a:OA) (d:List Tk) (f:Nat) (u:ql R I a d f) (l:List Tk) (w:World) (h:eG R a I d w l) (ag:3*l.length+2<=f+1) :
 ew 293 #[eL R 0] w (gk R a I d w (kh (f+1) l) (ku (w.heap.size<=·))):=by
 have az:Hid (ql R I a d f):=u;have z:Hid (eG R a I d w l):=h;have ad:=h.lt;clear u h;go_enter func293,ntmps293;go_wp2_with fail;refine (az.expr l _ (z.alloc _) (by omega)).mono ?_;rintro e eq ⟨H,⟨U,rfl⟩ | ⟨x,j,v,U,rfl,⟨Y,a9,rfl,ac,V,hx3⟩,bh⟩⟩
 . exact ⟨rfl,((eI.refl R w).alloc _).trans H,Or.inl ⟨by unfold kh;rw [U],rfl⟩⟩
 have s:Hid (gz f l=some (x,j)):=U
 have g:Hid (x.mod.size<=maxLen/\x.name.size<=maxLen/\eU eq ((w.heap.size+1)<=·) Y x.args.length (ft x.args)):=⟨ac,V,by simpa using hx3⟩
 have n:Hid (eG R a I d eq j):=bh;have d4:=mD _ _ _ _ U;have b0:=H.size;simp at b0;clear U ac V hx3 bh;have a1:Hid (eI R w eq):=((eI.refl R w).alloc _).trans H;have B:Hid (eq.heap[w.heap.size]? = some (.cells #[em 0,em 0,.string ⟨#[]⟩,.string ⟨#[]⟩,eu] 174 (0,0))):=(H.block w.heap.size (by simp) (by omega)).trans (eT _ _);clear H;go_wp2_with fail;refine (FR _).mono ?_;rintro e w2 ⟨b,rfl,ai,aB,hbc,aM⟩;have X:Hid (eI R eq w2):=((eI.refl R eq).alloc _).later aM;have aZ:Hid (eG R a I d w2 j):=(n.alloc _).later aM;have bB:Hid (w2.heap[eq.heap.size]? = some (.cells #[em x.op,em x.n,.string x.mod,.string x.name,.slice Y x.args.length a9] 174 (0,0))):=(aM.block eq.heap.size (by simp)).trans (eT _ _);have bl:=aM.size;simp at bl ai;clear aM;go_wp2_with fail
 refine (FS R I b a d j w2 aZ aB (by omega) hbc).mono ?_;rintro e eC ⟨ab,⟨aa,rfl⟩ | ⟨k,c,aa,t,m,rfl,b3⟩⟩
 . exact ⟨rfl,(a1.trans X).trans ab,Or.inl ⟨by unfold kh;rw [s.out];simp only [];rw [aa],rfl⟩⟩
 have bE:=ab.size;have aq:Hid (mZ j=some k):=aa;have E:Hid (Lib.indexByte nK.data.toList c=k):=m;have bx:=rB (Be aa);have P:Hid (eI R w eC):=(a1.trans X).trans ab;have bI:Hid (eC.heap[eq.heap.size]? = some (.cells #[em x.op,em x.n,.string x.mod,.string x.name,.slice Y x.args.length a9] 174 (0,0))):=(ab.block eq.heap.size (by omega) (by omega)).trans bB;have o:Hid (eQ eq (w.heap.size+1<=·) eC (w.heap.size+1<=·)):=((eQ.refl eq _).keeps X (by intro b;omega)).keeps ab (by intro b;omega);clear aa hbc bB aZ m;have Z:Hid (eG R a I d eC j.tail):=b3;clear b3;go_wp2_with fail;refine (az.expr j.tail eC Z (by omega)).mono ?_;rintro e eA ⟨C,⟨U,rfl⟩ | ⟨y,i,v,U,rfl,⟨ay,am,rfl,al,a7,aL⟩,b4⟩⟩
 . exact ⟨rfl,P.trans C,Or.inl ⟨by unfold kh;rw [s.out];simp only [];rw [aq.out];simp only [];rw [U],rfl⟩⟩
 have aE:Hid (gz f j.tail=some (y,i)):=U
 have L:Hid (y.mod.size<=maxLen/\y.name.size<=maxLen/\eU eA (eC.heap.size<=·) ay y.args.length (ft y.args)):=⟨al,a7,aL⟩
 have W:Hid (eG R a I d eA i):=b4;have O:Hid (eI R w eA):=P.trans C;have q:Hid (eQ eq (w.heap.size+1<=·) eA (w.heap.size+1<=·)):=o.keeps C (by intro b;omega);have aF:Hid (eA.heap[eq.heap.size]? = some (.cells #[em x.op,em x.n,.string x.mod,.string x.name,.slice Y x.args.length a9] 174 (0,0))):=(C.block eq.heap.size (by omega) (by omega)).trans bI;have bp:=C.size;have b1:Hid (eA.heap[w.heap.size]? = some (.cells #[em 0,em 0,.string ⟨#[]⟩,.string ⟨#[]⟩,eu] 174 (0,0))):=(C.block w.heap.size (by omega) (by omega)).trans ((ab.block w.heap.size (by omega) (by omega)).trans ((X.block w.heap.size (by omega) (by omega)).trans B));clear U al a7 aL b4 C bI o P Z;go_wp2_with fail;refine (jE R I _ a d i ib _ (by simp) (W.alloc _) (by decide)).mono ?_;rintro e eJ ⟨ar,⟨D,rfl⟩ | ⟨D,rfl,bu⟩⟩
 . exact ⟨rfl,(O.alloc _).trans ar,Or.inl ⟨by unfold kh;rw [s.out];simp only [];rw [aq.out];simp only [];rw [aE.out];simp only [];rw [if_neg (by simp [D])],rfl⟩⟩
 have A:Hid (kh (f+1) l=some (.mk (7+k) 0 ⟨#[]⟩ ⟨#[]⟩ [x,y],i.tail)):=by show kh (f+1) l=_;unfold kh;rw [s.out];simp only [];rw [aq.out];simp only [];rw [aE.out];simp only [];rw [if_pos D]
 have bK:=ar.size;simp at bK;have aG:Hid (eJ.heap[eq.heap.size]? = some (.cells #[em x.op,em x.n,.string x.mod,.string x.name,.slice Y x.args.length a9] 174 (0,0))):=(ar.block eq.heap.size (by simp;omega) (by omega)).trans (fF aF);have Q:Hid (eJ.heap[eA.heap.size]? = some (.cells #[em y.op,em y.n,.string y.mod,.string y.name,.slice ay y.args.length am] 174 (0,0))):=(ar.block eA.heap.size (by simp) (by omega)).trans (eT _ _);have bb:Hid (eJ.heap[w.heap.size]? = some (.cells #[em 0,em 0,.string ⟨#[]⟩,.string ⟨#[]⟩,eu] 174 (0,0))):=(ar.block w.heap.size (by simp;omega) (by omega)).trans (fF b1);obtain ⟨bJ,bk,bm,b5,bP,F⟩:=fi aG;obtain ⟨bM,ax,bf,aQ,bn,bs⟩:=fi Q;obtain ⟨a3,G,J,S,a6,ap⟩:=fi bb;have an:Hid (eQ eq (w.heap.size+1<=·) eJ (w.heap.size+1<=·)):=(q.alloc _).keeps ar (by intro b;omega)
 have a0:Hid (eQ eA (eC.heap.size<=·) eJ (eC.heap.size<=·)):=((eQ.refl eA _).alloc _).keeps ar (by intro b;omega);have aR:Hid (eG R a I d eJ i.tail):=bu;have aj:Hid (eI R w eJ):=(O.alloc _).trans ar;clear ar bu D aF q W
 have K:Hid (∀ w:World,ew 299 #[.string nK,.string ⟨#[c]⟩] w fun e r=>e = .returned (em k)/\r=w):=fun w=>by rw [← E.out];exact Tryz.strings_Index_one nK c w
 have aT:w.heap.size<eJ.heap.size:=by omega
 have bX:eq.heap.size<eJ.heap.size:=by omega
 have bH:eA.heap.size<eJ.heap.size:=by omega
 clear E
 have c9:IntKind.i64.wrap (7+(k:Int))=7+k:=by simp only [IntKind.wrap,IntKind.bits,IntKind.signed];simp;omega
 have p:∀ M:World,M=(((((eJ.setCell (ep w.heap.size 0) (em (7+k))).setCell (ep w.heap.size 1) (em 0)).setCell (ep w.heap.size 2) (.string ⟨#[]⟩)).setCell (ep w.heap.size 3) (.string ⟨#[]⟩)).setCell (ep w.heap.size 4) (.slice (some (ep eJ.heap.size 0)) 2 2)).alloc (.cells #[em x.op,em x.n,.string x.mod,.string x.name,.slice Y x.args.length a9,em y.op,em y.n,.string y.mod,.string y.name,.slice ay y.args.length am] 174)->
  gk R a I d w (kh (f+1) l) (ku (w.heap.size<=·)) (.returned (.agg #[em (7+k),em 0,.string ⟨#[]⟩,.string ⟨#[]⟩,.slice (some (ep eJ.heap.size 0)) 2 2])) M.drew:=by
  rintro M rfl;refine ⟨eI.drew (eI.alloc (((((aj.set (eD _) _).set (eD _) _).set (eD _) _).set (eD _) _).set (eD _) _) _),Or.inr ⟨_,_,_,A,rfl,⟨some (ep eJ.heap.size 0),2,rfl,eY _,eY _,?_⟩,eG.drew (eG.alloc (((((aR.setAbove z (eD _) _).setAbove z (eD _) _).setAbove z (eD _) _).setAbove z (eD _) _).setAbove z (eD _) _) _)⟩⟩;refine FP (t:=174) (I:=a9) (dap:=am) g L (eQ.drew (eQ.alloc (eQ.set (eQ.set (eQ.set (eQ.set (eQ.set (an.to (by omega)) ?_ _) ?_ _) ?_ _) ?_ _) ?_ _) _)) (eQ.drew (eQ.alloc (eQ.set (eQ.set (eQ.set (eQ.set (eQ.set (a0.to (by omega)) ?_ _) ?_ _) ?_ _) ?_ _) ?_ _) _)) ?_ (by omega)
  all_goals first | (intro b;simp only [];omega) | skip
  have e:=eT (((((eJ.setCell (ep w.heap.size 0) (em (7+k))).setCell (ep w.heap.size 1) (em 0)).setCell (ep w.heap.size 2) (.string ⟨#[]⟩)).setCell (ep w.heap.size 3) (.string ⟨#[]⟩)).setCell (ep w.heap.size 4) (.slice (some (ep eJ.heap.size 0)) 2 2)) (.cells #[em x.op,em x.n,.string x.mod,.string x.name,.slice Y x.args.length a9,em y.op,em y.n,.string y.mod,.string y.name,.slice ay y.args.length am] 174);simp only [gU] at e;exact e
 have N:Hid _:=p;clear p;go_wp2_with fail
 go_region_with (go_at_call 299;refine (K _).mono ?_;rintro e r ⟨rfl,rfl⟩)
 all_goals go_wp2_with fail
 all_goals refine bodyPost_ret (v:=.agg #[em (7+k),em 0,.string ⟨#[]⟩,.string ⟨#[]⟩,.slice (some (ep eJ.heap.size 0)) 2 2]) (by simp [results,results293,go_sem,a3,G,J,S,a6,aT]) rfl ?_
 all_goals exact N.out _ rfl
theorem FV (l:List Tk) (t u:ByteArray):mA l [t,u]=if eF l t then some t else if eF l u then some u else none:=by
 unfold mA;rw [qv,qv];cases eF l t<;>cases eF l u<;>rfl
theorem Aj (R I n:Nat) (a:OA) (d l:List Tk) (t u:ByteArray) (w:World) (U:n=w.heap.size) (h:eG R a I d w l) (aj:0<t.size) (aI:0<u.size) :
 ew 195 #[eL R 0,.slice (some (ep n 0)) 2 2] (w.alloc (.cells #[.string t,.string u] 9)) fun e r=>eI R w r/\((eF l t=false/\eF l u=false/\e = .panicked gL)\/(eF l t=true/\e = .returned (.string t)/\eG R a I d r l.tail)\/(eF l t=false/\eF l u=true/\e = .returned (.string u)/\eG R a I d r l.tail)):=by
 have a0:=h.lt;subst U;refine (tL R I w.heap.size 2 a d l [t,u] _ (h.alloc _) (by simp) (by omega) (by simp) (fun i X=>?_) (fun i X=>?_)).mono ?_
 . obtain rfl | rfl:i=0\/i=1:=by simp at X;omega
   all_goals simp
 . obtain rfl | rfl:i=0\/i=1:=by simp at X;omega
   . exact aj
   . exact aI
 . rintro e r ⟨N,W⟩
   refine ⟨((eI.refl R w).alloc _).trans N,?_⟩;rw [FV] at W
   cases Z:eF l t<;>cases E:eF l u<;>rw [Z,E] at W<;>simp only [sv,if_false,if_true,Option.map_none,Option.map_some] at W
   . rcases W with ⟨_,rfl⟩ | ⟨x,c,v,W,_⟩
     . exact Or.inl ⟨rfl,rfl,rfl⟩
     . cases W
   . rcases W with ⟨W,_⟩ | ⟨x,c,v,W,rfl,rfl,bb⟩
     . cases W
     . obtain ⟨rfl,rfl⟩:=fD (fe W)
       exact Or.inr (Or.inr ⟨rfl,rfl,rfl,bb⟩)
   all_goals
    rcases W with ⟨W,_⟩ | ⟨x,c,v,W,rfl,rfl,bb⟩
    . cases W
    . obtain ⟨rfl,rfl⟩:=fD (fe W)
      exact Or.inr (Or.inl ⟨rfl,rfl,bb⟩)
theorem FW (R I:Nat) (a:OA) (d:List Tk) (f:Nat) (u:∀ g,g<=f->ql R I a d g) (l:List Tk) (w:World) (h:eG R a I d w l) (ag:3*l.length+2<=f+1) :
 ew 295 #[eL R 0] w (gk R a I d w (iK (f+1) l) (wz (w.heap.size<=·))):=by
 have az:Hid (∀ g,g<=f->ql R I a d g):=u;have z:Hid (eG R a I d w l):=h;have ad:=h.lt
 have bD:l.length<=4096:=by
  obtain ⟨k,_,rfl,_⟩:=h.idx;have:=h.len
  rw [nM];omega
 clear u h;go_enter func295,ntmps295;go_wp2_with fail
 by_cases Z:eF l ib=true
 . refine (jR R I a d l ib w (by decide) z Z).mono ?_
   rintro e eq ⟨rfl,bh,H⟩;go_wp2_with fail;go_ret;exact ⟨H,Or.inr ⟨[],l.tail,_,by unfold iK;rw [if_pos Z],rfl,⟨none,0,rfl,Or.inl rfl⟩,bh⟩⟩
 have o:eF l ib=false:=by simpa using Z
 refine (jS R I a d l ib w z o).mono ?_;rintro e eq ⟨rfl,bh,H⟩;have n:Hid (eG R a I d eq l):=bh;have a1:Hid (eI R w eq):=H;have b0:=H.size;clear bh H;go_wp2_with fail;refine ((az f (eD _)).expr l eq n (by omega)).mono ?_;rintro e w2 ⟨X,⟨U,rfl⟩ | ⟨x,t,v,U,rfl,⟨a5,a4,rfl,ac,V,hx3⟩,aZ⟩⟩
 . exact ⟨rfl,a1.trans X,Or.inl ⟨by unfold iK;rw [if_neg Z,U],rfl⟩⟩
 have Q:=mD _ _ _ _ U
 have A:Hid (iK (f+1) l=kE f [x] t):=by show iK (f+1) l=_;unfold iK;rw [if_neg Z,U]
 have ah:Hid (eG R a I d w2 t):=aZ;have r:Hid (eI R w w2):=a1.trans X;have aN:Hid (fG w2 (eq.heap.size<=·) x.ds (oe x a5 a4)):=qi ac V hx3;have bl:=X.size;clear U aZ X ac V hx3 Z o n a1;go_wp2_with fail
 go_loopw [3] (fun v wr=>∃ (g:Nat) (P:List fg) (c:List Tk),g<=f/\iK (f+1) l=kE g P c/\3*c.length+3<=g/\P.length+c.length<=l.length/\Row w.heap.size 174 5 wr v P.length (ft P)/\eG R a I d wr c/\eI R w wr) (fun _ wr=>lf R d.length wr)
 case atStart=>
  refine ⟨f,[x],t,eD _,A,by omega,by simp;omega,?_,ah.alloc _,r.alloc _⟩;rw [uk];exact Row.first (cs:=#[em x.op,em x.n,.string x.mod,.string x.name,.slice a5 x.args.length a4]) aN (fun b _ h=>by omega) (by omega) rfl
 case round=>
  obtain ⟨g,P,c,af,hpm,aT,hacc,ba,j,aa⟩:=hrel;have aE:Hid (iK (f+1) l=kE g P c):=hpm;have aG:Hid (Row w.heap.size 174 5 wr u3 P.length (ft P)):=ba;have aK:Hid (eG R a I d wr c):=j;have aH:Hid (eI R w wr):=aa;have bN:=aa.size
  obtain ⟨g,rfl⟩:∃ aj,g=aj+1:=⟨g - 1,by omega⟩
  clear hpm ba j aa A aN;go_wp2_with fail;refine (Aj R I _ a d c oE ib _ (by simp) aK (by decide) (by decide)).mono ?_;rintro e eC ⟨ab,⟨G,J,rfl⟩ | ⟨G,rfl,b3⟩ | ⟨G,J,rfl,b3⟩⟩
  . exact ⟨rfl,aH.trans ab,Or.inl ⟨by rw [aE.out];unfold kE;rw [if_neg (by simp [G]),if_neg (by simp [J])],rfl⟩⟩
  . have bx:=fN (by decide) G
    have bE:=ab.size;go_wp2_with fail;refine ((az g (by omega)).expr c.tail eC b3 (by omega)).mono ?_;rintro e eA ⟨C,⟨U,rfl⟩ | ⟨y,i,v,U,rfl,⟨ay,am,rfl,ac,V,hx3⟩,b4⟩⟩
    . exact ⟨rfl,(aH.trans ab).trans C,Or.inl ⟨by rw [aE.out];unfold kE;rw [if_pos G,U],rfl⟩⟩
    have b9:=mD _ _ _ _ U
    have A:Hid (iK (f+1) l=kE g (P++[y]) i):=by show iK (f+1) l=_;rw [aE.out];unfold kE;rw [if_pos G,U];cases g<;>rfl
    have L:Hid (fG eA (eC.heap.size<=·) y.ds (oe y ay am)):=qi ac V hx3;have W:Hid (eG R a I d eA i):=b4;have O:Hid (eI R w eA):=(aH.trans ab).trans C;have a3:Hid (Row w.heap.size 174 5 eA u3 P.length (ft P)):=(aG.keeps ab ad).keeps C ad;have bp:=C.size
    have b8:Hid (∀ k,u3.ownBlock=some k->k<eC.heap.size):=fun k N=>((aG.keeps ab ad).lt k N).2
    have an:=aK.left;clear U b3 b4 ab C ac V hx3
    go_wp2_with (at_builtin;refine mP rfl (.tmp 13) (.tmp 16) 172 rfl w.heap.size 174 _ 5 72 Tryz.underlying172 Tryz.infoP80 rfl (by decide) eA u3 P.length (ft P) y.ds rfl a3 _ _ rfl rfl rfl (eC.heap.size<=·) L ?_ (by omega) (by decide) (by omega) ?_)
    . intro b _ F
      exact ⟨by omega,fun h=>by have:=b8 b h;omega⟩
    . intro bs aX eJ s bb bK
      have a2:Hid (Row w.heap.size 174 5 eJ (.slice (some (ep bs 0)) (P.length+1) aX) (P.length+1) (ft P++y.ds)):=s;have bu:Hid (eG R a I d eJ i):=W.belowOf z bb;have ar:Hid (eI R w eJ):=O.belowOf bb;have aS:=bu.left;clear s bb a3 W O L;go_wp2_with fail;go_roundw
      case rel=>exact ⟨g,P++[y],i,by omega,A,by omega,by simp;omega,by rw [xd,uk,gn];exact a2,bu,ar⟩
      case measure=>rw [aS,an];omega
  . have A:Hid (iK (f+1) l=some (P,c.tail)):=by show iK (f+1) l=_;rw [aE.out];unfold kE;rw [if_neg (by simp [G]),if_pos J]
    have aq:Hid (Row w.heap.size 174 5 eC u3 P.length (ft P)):=aG.keeps ab ad;go_wp2_with fail;go_ret;exact ⟨aH.trans ab,Or.inr ⟨P,c.tail,_,A,rfl,aq.slice,b3⟩⟩
abbrev je:Obj:=.cells #[em 0,em 0,.string ⟨#[]⟩,.string ⟨#[]⟩,eu] 174 (0,0)
theorem q1 (a3:eG R a I d w l) (W:O=some (x,c)) (N:eI R w eq) (j:eG R a I d eq c)
 (ac:x.mod.size<=maxLen) (V:x.name.size<=maxLen) (Q:eU eq (K<=·) Y x.args.length (ft x.args)) (M:w.heap.size<K) :
 gk R a I d w O (ku (w.heap.size<=·)) (.returned (.agg #[em x.op,em x.n,.string x.mod,.string x.name,.slice Y x.args.length a9])) (set5 eq w.heap.size (em x.op) (em x.n) (.string x.mod) (.string x.name) (.slice Y x.args.length a9)):=by
 refine ⟨N.set5 (eD _) _ _ _ _ _,Or.inr ⟨x,c,_,W,rfl,⟨Y,a9,rfl,ac,V,?_⟩,j.set5 a3 (eD _) _ _ _ _ _⟩⟩;exact Q.moves (((eQ.refl eq (K<=·)).set5 (by intro b _ F;omega) _ _ _ _ _).to (by omega))
theorem FX {p n:Int} {s u:ByteArray} (a3:eG R a I d w l) (W:O=some (.mk p n s u [y],c)) (N:eI R w eq) (j:eG R a I d eq c)
 (ac:s.size<=maxLen) (V:u.size<=maxLen) (al:y.mod.size<=maxLen) (a7:y.name.size<=maxLen) (z:eU eq (K<=·) Y y.args.length (ft y.args)) (M:w.heap.size<K) (f:K<=eq.heap.size) :
 gk R a I d w O (ku (w.heap.size<=·)) (.returned (.agg #[em p,em n,.string s,.string u,.slice (some (ep eq.heap.size 0)) 1 1])) ((set5 eq w.heap.size (em p) (em n) (.string s) (.string u) (.slice (some (ep eq.heap.size 0)) 1 1)).alloc (i1 y.op y.n y.mod y.name Y y.args.length a9)):=by
 refine ⟨(N.set5 (eD _) _ _ _ _ _).alloc _,Or.inr ⟨.mk p n s u [y],c,_,W,rfl,⟨_,_,rfl,ac,V,?_⟩,(j.set5 a3 (eD _) _ _ _ _ _).alloc _⟩⟩;refine qj (t:=174) (I:=a9) al a7 z ((((eQ.refl eq (K<=·)).set5 (b:=w.heap.size) (by intro b _ F;omega) _ _ _ _ _).alloc _).to (by omega)) ?_ (by omega);have e:=eT (set5 eq w.heap.size (em p) (em n) (.string s) (.string u) (.slice (some (ep eq.heap.size 0)) 1 1)) (i1 y.op y.n y.mod y.name Y y.args.length a9);simp only [gU] at e;exact e
theorem FY (R I:Nat) (a:OA) (d:List Tk) (f:Nat) (u:ql R I a d f) (l:List Tk) (w:World) (h:eG R a I d w l) (ag:3*l.length+1<=f+1) :
 ew 283 #[eL R 0] w (gk R a I d w (gz (f+1) l) (ku (w.heap.size<=·))):=by
 have az:Hid (ql R I a d f):=u;have z:Hid (eG R a I d w l):=h;have ad:=h.lt;have a2:=Ag (ez l).kind (ez l).n (ez l).text;clear u h;go_enter func283,ntmps283;go_wp2_with fail;refine (sm R I a d l _ (z.alloc _)).mono ?_;rintro e eq ⟨rfl,ai⟩;have bh:Hid (eG R a I d eq l):=(z.alloc _).later ai;have H:Hid (eI R w eq):=((eI.refl R w).alloc _).later ai;have B:Hid (eq.heap[w.heap.size]? = some je):=(ai.block w.heap.size (by simp)).trans (eT _ _);have b0:=ai.size;simp at b0;clear ai
 by_cases N:(ez l).kind=2
 . have A:Hid (gz (f+1) l=some (.mk 1 (ez l).n ⟨#[]⟩ ⟨#[]⟩ [],l.tail)):=by show gz (f+1) l=_;unfold gz;rw [if_pos N]
   have b2:Hid (pNum l=some ((ez l).n,l.tail)):=by show pNum l=_;unfold pNum;rw [if_pos N]
   have aF:=Ag 2 (ez l).n (ez l).text;go_wp2_with fail;refine (ww R I a d l eq bh).mono ?_;rintro e w2 ⟨X,⟨U,rfl⟩ | ⟨n,t,v,U,rfl,rfl,aZ⟩⟩
   . rw [b2.out] at U;cases U
   rw [b2.out] at U;obtain ⟨rfl,rfl⟩:=fD (fe U);have aM:Hid (w2.heap[w.heap.size]? = some je):=(X.block w.heap.size (by omega) (by omega)).trans B;obtain ⟨a3,G,J,S,a6,ap⟩:=fi aM;have bl:=X.size
   have aT:w.heap.size<w2.heap.size:=by omega
   have p:Hid (gk R a I d w (gz (f+1) l) (ku (w.heap.size<=·)) (.returned (.agg #[em 1,em (ez l).n,.string ⟨#[]⟩,.string ⟨#[]⟩,eu])) (set5 w2 w.heap.size (em 1) (em (ez l).n) (.string ⟨#[]⟩) (.string ⟨#[]⟩) (eu))):=
    q1 (x:=.mk 1 (ez l).n ⟨#[]⟩ ⟨#[]⟩ []) z A (H.trans X) aZ (eY _) (eY _) (K:=w2.heap.size) (Or.inl rfl) aT
   clear U aZ X;go_wp2_with fail;refine bodyPost_ret (v:=.agg #[em 1,em (ez l).n,.string ⟨#[]⟩,.string ⟨#[]⟩,eu]) (by simp [results,results283,go_sem,a3,G,J,S,a6]) rfl p
 go_wp2_with fail
 by_cases E:eF l sE=true
 . refine (jR R I a d l sE eq (by decide) bh E).mono ?_
   rintro e w2 ⟨rfl,aZ,X⟩;have aM:Hid (w2.heap[w.heap.size]? = some je):=(X.block w.heap.size (by omega) (by omega)).trans B;obtain ⟨a3,G,J,S,a6,ap⟩:=fi aM;have bl:=X.size
   have aT:w.heap.size<w2.heap.size:=by omega
   have p:Hid (gk R a I d w (gz (f+1) l) (ku (w.heap.size<=·)) (.returned (.agg #[em 2,em 0,.string ⟨#[]⟩,.string ⟨#[]⟩,eu])) (set5 w2 w.heap.size (em 2) (em 0) (.string ⟨#[]⟩) (.string ⟨#[]⟩) (eu))):=
    q1 (x:=.mk 2 0 ⟨#[]⟩ ⟨#[]⟩ []) z (by unfold gz;rw [if_neg N,if_pos E]) (H.trans X) aZ (eY _) (eY _) (K:=w2.heap.size) (Or.inl rfl) aT
   clear aZ X;go_wp2_with fail;refine bodyPost_ret (v:=.agg #[em 2,em 0,.string ⟨#[]⟩,.string ⟨#[]⟩,eu]) (by simp [results,results283,go_sem,a3,G,J,S,a6]) rfl p
 refine (jS R I a d l sE eq bh (by simpa using E)).mono ?_;rintro e w2 ⟨rfl,aZ,X⟩;have ah:Hid (eG R a I d w2 l):=aZ;have r:Hid (eI R w w2):=H.trans X;have aM:Hid (w2.heap[w.heap.size]? = some je):=(X.block w.heap.size (by omega) (by omega)).trans B;have bl:=X.size;clear aZ X bh H B;go_wp2_with fail
 by_cases M:eF l sF=true
 . have bx:=fN (by decide) M
   refine (jR R I a d l sF w2 (by decide) ah M).mono ?_;rintro e eC ⟨rfl,b3,ab⟩;have bE:=ab.size;have aP:Hid (eC.heap[w.heap.size]? = some je):=(ab.block w.heap.size (by omega) (by omega)).trans aM;go_wp2_with fail;refine (az.expr l.tail eC b3 (by omega)).mono ?_;rintro e eA ⟨C,⟨U,rfl⟩ | ⟨y,i,v,U,rfl,⟨ay,am,rfl,al,a7,aL⟩,b4⟩⟩
   . exact ⟨rfl,(r.trans ab).trans C,Or.inl ⟨by unfold gz;rw [if_neg N,if_neg E,if_pos M,U],rfl⟩⟩
   have b1:Hid (eA.heap[w.heap.size]? = some je):=(C.block w.heap.size (by omega) (by omega)).trans aP;obtain ⟨a3,G,J,S,a6,ap⟩:=fi b1;have bp:=C.size
   have aT:w.heap.size<eA.heap.size:=by omega
   have p:Hid (gk R a I d w (gz (f+1) l) (ku (w.heap.size<=·)) (.returned (.agg #[em 6,em 0,.string ⟨#[]⟩,.string ⟨#[]⟩,.slice (some (ep eA.heap.size 0)) 1 1])) ((set5 eA w.heap.size (em 6) (em 0) (.string ⟨#[]⟩) (.string ⟨#[]⟩) (.slice (some (ep eA.heap.size 0)) 1 1)).alloc (i1 y.op y.n y.mod y.name ay y.args.length am))):=
    FX z (by unfold gz;rw [if_neg N,if_neg E,if_pos M,U]) ((r.trans ab).trans C) b4 (eY _) (eY _) al a7 aL (by omega) bp
   clear U b3 b4 ab C al a7 aL;go_wp2_with fail;refine bodyPost_ret (v:=.agg #[em 6,em 0,.string ⟨#[]⟩,.string ⟨#[]⟩,.slice (some (ep eA.heap.size 0)) 1 1]) (by simp [results,results283,go_sem,a3,G,J,S,a6,aT]) rfl p
 refine (jS R I a d l sF w2 ah (by simpa using M)).mono ?_;rintro e eC ⟨rfl,b3,ab⟩;have Z:Hid (eG R a I d eC l):=b3;have P:Hid (eI R w eC):=r.trans ab;have aP:Hid (eC.heap[w.heap.size]? = some je):=(ab.block w.heap.size (by omega) (by omega)).trans aM;have bE:=ab.size;clear b3 ab ah r aM;go_wp2_with fail
 by_cases o:eF l iU=true
 . have b9:=fN (by decide) o
   refine (jR R I a d l iU eC (by decide) Z o).mono ?_;rintro e eA ⟨rfl,b4,C⟩;have bp:=C.size;have b1:Hid (eA.heap[w.heap.size]? = some je):=(C.block w.heap.size (by omega) (by omega)).trans aP;go_wp2_with fail;refine (az.pair l.tail eA b4 (by omega)).mono ?_;rintro e eJ ⟨ar,⟨U,rfl⟩ | ⟨y,a0,v,U,rfl,⟨av,aX,rfl,al,a7,aL⟩,bu⟩⟩
   . exact ⟨rfl,(P.trans C).trans ar,Or.inl ⟨by unfold gz;rw [if_neg N,if_neg E,if_neg M,if_pos o,U],rfl⟩⟩
   have bb:Hid (eJ.heap[w.heap.size]? = some je):=(ar.block w.heap.size (by omega) (by omega)).trans b1;obtain ⟨a3,G,J,S,a6,ap⟩:=fi bb;have bK:=ar.size
   have p:Hid (gk R a I d w (gz (f+1) l) (ku (w.heap.size<=·)) (.returned (.agg #[em y.op,em y.n,.string y.mod,.string y.name,.slice av y.args.length aX])) (set5 eJ w.heap.size (em y.op) (em y.n) (.string y.mod) (.string y.name) (.slice av y.args.length aX))):=
    q1 (x:=y) z (by unfold gz;rw [if_neg N,if_neg E,if_neg M,if_pos o,U]) ((P.trans C).trans ar) bu al a7 (K:=eA.heap.size) aL (by omega)
   clear U b4 bu C ar al a7 aL;go_wp2_with fail;refine bodyPost_ret (v:=.agg #[em y.op,em y.n,.string y.mod,.string y.name,.slice av y.args.length aX]) (by simp [results,results283,go_sem,a3,G,J,S,a6]) rfl p
 refine (jS R I a d l iU eC Z (by simpa using o)).mono ?_;rintro e eA ⟨rfl,b4,C⟩;have W:Hid (eG R a I d eA l):=b4;have O:Hid (eI R w eA):=P.trans C;have b1:Hid (eA.heap[w.heap.size]? = some je):=(C.block w.heap.size (by omega) (by omega)).trans aP;have bp:=C.size
 have Y:Hid (gz (f+1) l=match mB l with
  | none=>none
  | some ((m,n),j)=>
    if eF j kT then (match gz f j.tail with | none=>none | some (x,t)=>if eF t kD then some (.mk 4 0 m n [x],t.tail) else none)
    else if eF j iU then (match iK f j.tail with | none=>none | some (ae,t)=>some (.mk 5 0 m n ae,t))
    else some (.mk 3 0 m n [],j)):=by
  show gz (f+1) l=_
  conv=>lhs;unfold gz
  rw [if_neg N,if_neg E,if_neg M,if_neg o]
  rfl
 clear b4 C Z P aP N E M o;go_wp2_with fail;refine (Ai R I a d l _ (W.alloc _)).mono ?_;rintro e eJ ⟨ar,⟨U,rfl⟩ | ⟨⟨m,n⟩,a0,v,U,rfl,⟨rfl,a8,ca⟩,bu⟩⟩
 . exact ⟨rfl,(O.alloc _).trans ar,Or.inl ⟨by rw [Y.out,U],rfl⟩⟩
 have aS:=xu U
 have Q:Hid (gz (f+1) l=if eF a0 kT then (match gz f a0.tail with | none=>none | some (x,t)=>if eF t kD then some (.mk 4 0 m n [x],t.tail) else none)
  else if eF a0 iU then (match iK f a0.tail with | none=>none | some (ae,t)=>some (.mk 5 0 m n ae,t))
  else some (.mk 3 0 m n [],a0)):=by
  show gz (f+1) l=_;rw [Y.out,U]
 have aR:Hid (eG R a I d eJ a0):=bu;have aj:Hid (eI R w eJ):=(O.alloc _).trans ar;have bb:Hid (eJ.heap[w.heap.size]? = some je):=(ar.block w.heap.size (by simp;omega) (by omega)).trans (fF b1);have aG:Hid (eJ.heap[eA.heap.size]? = some (.cells #[em 3,em 0,.string ⟨#[]⟩,.string ⟨#[]⟩,eu] 174 (0,0))):=(ar.block eA.heap.size (by simp) (by omega)).trans (eT _ _);have bK:=ar.size;simp at bK;obtain ⟨a3,G,J,S,a6,ap⟩:=fi aG;clear U bu ar Y W b1 O;have aB:Hid (eG R a I d ((eJ.setCell (ep eA.heap.size 2) (.string m)).setCell (ep eA.heap.size 3) (.string n)) a0):=(aR.setAbove z (by show _<=eA.heap.size;omega) _).setAbove z (by show _<=eA.heap.size;omega) _;have a5:Hid (eI R w ((eJ.setCell (ep eA.heap.size 2) (.string m)).setCell (ep eA.heap.size 3) (.string n))):=(aj.set (by show _<=eA.heap.size;omega) _).set (by show _<=eA.heap.size;omega) _
 have bO:Hid (((eJ.setCell (ep eA.heap.size 2) (.string m)).setCell (ep eA.heap.size 3) (.string n)).heap[w.heap.size]? = some je):=(fa (by show w.heap.size≠eA.heap.size;omega) _).trans ((fa (by show w.heap.size≠eA.heap.size;omega) _).trans bb);have aD:Hid (((eJ.setCell (ep eA.heap.size 2) (.string m)).setCell (ep eA.heap.size 3) (.string n)).heap[eA.heap.size]? = some (.cells #[em 3,em 0,.string m,.string n,eu] 174 (0,0))):=heap_set (heap_set aG _) _
 have bo:((eJ.setCell (ep eA.heap.size 2) (.string m)).setCell (ep eA.heap.size 3) (.string n)).heap.size=eJ.heap.size:=by simp only [gU]
 clear aR aj bb;go_wp2_with fail;generalize (eJ.setCell (ep eA.heap.size 2) (.string m)).setCell (ep eA.heap.size 3) (.string n)=eZ at *;clear a3 G J S a6 ap aG
 by_cases g:eF a0 kT=true
 . have bP:=fN (by decide) g
   refine (jR R I a d a0 kT eZ (by decide) aB g).mono ?_;rintro e eW ⟨rfl,HR7,aJ⟩;have b7:=aJ.size;have bD:Hid (eW.heap[w.heap.size]? = some je):=(aJ.block w.heap.size (by omega) (by omega)).trans bO;have an:Hid (eW.heap[eA.heap.size]? = some (.cells #[em 3,em 0,.string m,.string n,eu] 174 (0,0))):=(aJ.block eA.heap.size (by omega) (by omega)).trans aD;obtain ⟨a3,G,J,S,a6,ap⟩:=fi an;have a4:Hid (eG R a I d (eW.setCell (ep eA.heap.size 0) (em 4)) a0.tail):=HR7.setAbove z (by show _<=eA.heap.size;omega) _;have s:Hid (eI R w (eW.setCell (ep eA.heap.size 0) (em 4))):=(a5.trans aJ).set (by show _<=eA.heap.size;omega) _;have af:Hid ((eW.setCell (ep eA.heap.size 0) (em 4)).heap[w.heap.size]? = some je):=(fa (by show w.heap.size≠eA.heap.size;omega) _).trans bD
   have k:Hid ((eW.setCell (ep eA.heap.size 0) (em 4)).heap[eA.heap.size]? = some (.cells #[em 4,em 0,.string m,.string n,eu] 174 (0,0))):=heap_set an _
   have aK:(eW.setCell (ep eA.heap.size 0) (em 4)).heap.size=eW.heap.size:=by simp only [gU]
   clear HR7 aJ bD aB a5 bO aD;go_wp2_with fail;generalize eW.setCell (ep eA.heap.size 0) (em 4)=aY at *;clear a3 G J S a6 ap an;refine (az.expr a0.tail aY a4 (by omega)).mono ?_;rintro e bd ⟨q,⟨U,rfl⟩ | ⟨y,l9,v,U,rfl,⟨a9,L,rfl,al,a7,aL⟩,V⟩⟩
   . exact ⟨rfl,s.trans q,Or.inl ⟨by rw [Q.out,if_pos g,U],rfl⟩⟩
   have co:=q.size;have bv:Hid (bd.heap[w.heap.size]? = some je):=(q.block w.heap.size (by omega) (by omega)).trans af;have aW:Hid (bd.heap[eA.heap.size]? = some (.cells #[em 4,em 0,.string m,.string n,eu] 174 (0,0))):=(q.block eA.heap.size (by omega) (by omega)).trans k;obtain ⟨a3,G,J,S,a6,ap⟩:=fi aW
   have bH:eA.heap.size<bd.heap.size:=by omega
   have ac:Hid (gz f a0.tail=some (y,l9)):=U
   have a1:Hid (y.mod.size<=maxLen/\y.name.size<=maxLen/\eU bd (aY.heap.size<=·) a9 y.args.length (ft y.args)):=⟨al,a7,aL⟩
   have aA:Hid (eG R a I d bd l9):=V;have aq:Hid (eI R w bd):=s.trans q;clear U V q al a7 aL af k a4 s;go_wp2_with fail;refine (jE R I _ a d l9 kD _ (by simp) ((aA.setAbove z (by show _<=eA.heap.size;omega) _).alloc _) (by decide)).mono ?_;rintro e aw ⟨c,⟨D,rfl⟩ | ⟨D,rfl,HR10⟩⟩
   . exact ⟨rfl,((aq.set (by show _<=eA.heap.size;omega) _).alloc _).trans c,Or.inl ⟨by rw [Q.out,if_pos g,ac.out];simp [D],rfl⟩⟩
   have A:Hid (gz (f+1) l=some (.mk 4 0 m n [y],l9.tail)):=by show gz (f+1) l=_;rw [Q.out,if_pos g,ac.out];simp [D]
   have bt:=c.size;simp at bt;have ak:Hid (aw.heap[w.heap.size]? = some je):=(c.block w.heap.size (by simp;omega) (by omega)).trans (fF ((fa (by show w.heap.size≠eA.heap.size;omega) _).trans bv));have aa:Hid (aw.heap[eA.heap.size]? = some (.cells #[em 4,em 0,.string m,.string n,.slice (some (ep bd.heap.size 0)) 1 1] 174 (0,0))):=(c.block eA.heap.size (by simp;omega) (by omega)).trans (fF (heap_set aW _))
   have au:Hid (aw.heap[bd.heap.size]? = some (.cells #[em y.op,em y.n,.string y.mod,.string y.name,.slice a9 y.args.length L] 174 (0,0))):=(c.block bd.heap.size (by simp) (by omega)).trans (by
    have e:=eT (bd.setCell (ep eA.heap.size 4) (.slice (some (ep bd.heap.size 0)) 1 1)) (i1 y.op y.n y.mod y.name a9 y.args.length L);simp only [gU] at e
    exact e)
   have ao:eQ bd (aY.heap.size<=·) aw (aY.heap.size<=·):=(((eQ.refl bd _).set (by intro b _ F;show b≠eA.heap.size;omega) _).alloc _).keeps c (by intro b _ F;omega)
   have p:Hid (gk R a I d w (gz (f+1) l) (ku (w.heap.size<=·)) (.returned (.agg #[em 4,em 0,.string m,.string n,.slice (some (ep bd.heap.size 0)) 1 1])) (set5 aw w.heap.size (em 4) (em 0) (.string m) (.string n) (.slice (some (ep bd.heap.size 0)) 1 1))):=
    q1 (x:=.mk 4 0 m n [y]) z A (((aq.set (by show _<=eA.heap.size;omega) _).alloc _).trans c) HR10 a8 ca (K:=aY.heap.size) (qj a1.1 a1.2.1 a1.2.2 ao au (by omega)) (by omega)
   obtain ⟨a3,G,J,S,a6,ap⟩:=fi ak;obtain ⟨bM,ax,bf,aQ,bn,bs⟩:=fi aa;clear c HR10 ao;go_wp2_with fail;refine bodyPost_ret (v:=.agg #[em 4,em 0,.string m,.string n,.slice (some (ep bd.heap.size 0)) 1 1]) (by simp [results,results283,go_sem,a3,G,J,S,a6]) rfl p
 refine (jS R I a d a0 kT eZ aB (by simpa using g)).mono ?_;rintro e eW ⟨rfl,HR7,aJ⟩;have b7:=aJ.size;have aE:Hid (eG R a I d eW a0):=HR7;have aU:Hid (eI R w eW):=a5.trans aJ;have bD:Hid (eW.heap[w.heap.size]? = some je):=(aJ.block w.heap.size (by omega) (by omega)).trans bO;have an:Hid (eW.heap[eA.heap.size]? = some (.cells #[em 3,em 0,.string m,.string n,eu] 174 (0,0))):=(aJ.block eA.heap.size (by omega) (by omega)).trans aD;clear HR7 aJ aB a5 bO aD;go_wp2_with fail
 by_cases T:eF a0 iU=true
 . have bw:=fN (by decide) T
   refine (jR R I a d a0 iU eW (by decide) aE T).mono ?_;rintro e aY ⟨rfl,a4,s⟩;have aK:=s.size;have af:Hid (aY.heap[w.heap.size]? = some je):=(s.block w.heap.size (by omega) (by omega)).trans bD;have k:Hid (aY.heap[eA.heap.size]? = some (.cells #[em 3,em 0,.string m,.string n,eu] 174 (0,0))):=(s.block eA.heap.size (by omega) (by omega)).trans an;obtain ⟨a3,G,J,S,a6,ap⟩:=fi k;have V:Hid (eG R a I d (aY.setCell (ep eA.heap.size 0) (em 5)) a0.tail):=a4.setAbove z (by show _<=eA.heap.size;omega) _;have q:Hid (eI R w (aY.setCell (ep eA.heap.size 0) (em 5))):=(aU.trans s).set (by show _<=eA.heap.size;omega) _;have bv:Hid ((aY.setCell (ep eA.heap.size 0) (em 5)).heap[w.heap.size]? = some je):=(fa (by show w.heap.size≠eA.heap.size;omega) _).trans af
   have aW:Hid ((aY.setCell (ep eA.heap.size 0) (em 5)).heap[eA.heap.size]? = some (.cells #[em 5,em 0,.string m,.string n,eu] 174 (0,0))):=heap_set k _
   have co:(aY.setCell (ep eA.heap.size 0) (em 5)).heap.size=aY.heap.size:=by simp only [gU]
   clear a4 s af aE aU bD an;go_wp2_with fail;generalize aY.setCell (ep eA.heap.size 0) (em 5)=bd at *;clear a3 G J S a6 ap k;refine (az.args a0.tail bd V (by omega)).mono ?_;rintro e aw ⟨c,⟨U,rfl⟩ | ⟨ae,l10,v,U,rfl,⟨a10,c10,rfl,hx10⟩,HR10⟩⟩
   . exact ⟨rfl,q.trans c,Or.inl ⟨by rw [Q.out,if_neg g,if_pos T,U],rfl⟩⟩
   have bt:=c.size
   have A:Hid (gz (f+1) l=some (.mk 5 0 m n ae,l10)):=by show gz (f+1) l=_;rw [Q.out,if_neg g,if_pos T,U]
   have ak:Hid (aw.heap[w.heap.size]? = some je):=(c.block w.heap.size (by omega) (by omega)).trans bv;have aa:Hid (aw.heap[eA.heap.size]? = some (.cells #[em 5,em 0,.string m,.string n,eu] 174 (0,0))):=(c.block eA.heap.size (by omega) (by omega)).trans aW
   have p:Hid (gk R a I d w (gz (f+1) l) (ku (w.heap.size<=·)) (.returned (.agg #[em 5,em 0,.string m,.string n,.slice a10 ae.length c10])) (set5 (aw.setCell (ep eA.heap.size 4) (.slice a10 ae.length c10)) w.heap.size (em 5) (em 0) (.string m) (.string n) (.slice a10 ae.length c10))):=
    q1 (x:=.mk 5 0 m n ae) z A ((q.trans c).set (by show _<=eA.heap.size;omega) _) (HR10.setAbove z (by show _<=eA.heap.size;omega) _) a8 ca (K:=bd.heap.size) (hx10.moves ((eQ.refl aw _).set (by intro b _ F;show b≠eA.heap.size;omega) _)) (by omega)
   obtain ⟨a3,G,J,S,a6,ap⟩:=fi ak;obtain ⟨bM,ax,bf,aQ,bn,bs⟩:=fi aa
   have aV:w.heap.size≠eA.heap.size:=by omega
   clear c HR10 U;go_wp2_with fail;refine bodyPost_ret (v:=.agg #[em 5,em 0,.string m,.string n,.slice a10 ae.length c10]) (by simp [results,results283,go_sem,a3,G,J,S,a6]) rfl p
 refine (jS R I a d a0 iU eW aE (by simpa using T)).mono ?_;rintro e aY ⟨rfl,a4,s⟩;have aK:=s.size;have af:Hid (aY.heap[w.heap.size]? = some je):=(s.block w.heap.size (by omega) (by omega)).trans bD;have k:Hid (aY.heap[eA.heap.size]? = some (.cells #[em 3,em 0,.string m,.string n,eu] 174 (0,0))):=(s.block eA.heap.size (by omega) (by omega)).trans an
 have p:Hid (gk R a I d w (gz (f+1) l) (ku (w.heap.size<=·)) (.returned (.agg #[em 3,em 0,.string m,.string n,eu])) (set5 aY w.heap.size (em 3) (em 0) (.string m) (.string n) (eu))):=
  q1 (x:=.mk 3 0 m n []) z (by rw [Q.out,if_neg g,if_neg T]) (aU.trans s) a4 a8 ca (K:=aY.heap.size) (Or.inl rfl) (by omega)
 obtain ⟨a3,G,J,S,a6,ap⟩:=fi af;obtain ⟨bM,ax,bf,aQ,bn,bs⟩:=fi k;clear s a4;go_wp2_with fail;refine bodyPost_ret (v:=.agg #[em 3,em 0,.string m,.string n,eu]) (by simp [results,results283,go_sem,a3,G,J,S,a6]) rfl p
theorem Ak (R I:Nat) (a:OA) (d:List Tk):∀ f,ql R I a d f:=by
 intro f
 induction f using Nat.strongRecOn with
 | ind f aH=>
   cases f with
   | zero=>exact ⟨fun _ _ _ h=>by omega,fun _ _ _ h=>by omega,fun _ _ _ h=>by omega⟩
   | succ f=>
     exact ⟨fun l w h ag=>FY R I a d f (aH f (by omega)) l w h ag,fun l w h ag=>FU R I a d f (aH f (by omega)) l w h ag,fun l w h ag=>FW R I a d f (fun g af=>aH g (by omega)) l w h ag⟩
theorem pi (R I:Nat) (a:OA) (d l:List Tk) (w:World) (h:eG R a I d w l) :
 ew 283 #[eL R 0] w (gk R a I d w (pX l) (ku (w.heap.size<=·))):=(Ak R I a d _).expr l w h (by omega)
theorem FZ (R I:Nat) (a:OA) (d l:List Tk) (w:World) (h:eG R a I d w l) :
 ew 295 #[eL R 0] w (gk R a I d w (sH l) (wz (w.heap.size<=·))):=(Ak R I a d _).args l w h (by omega)
end Go.Proofs.YtndkhgakfodldaaGreatDoor

namespace Go.Proofs.YtndkhgakfodldaaGreatDoor
open Go.RowKit Go.Shelf
section
variable {P:Program} {ops:Array Oper} {o:Oper} {a:Act} {w:World} {K:Act->World->Prop} {T:Exit->Act->World->Prop} {E:Prop}
theorem Am (f:FuncId) (x:Operand) (d:TypeId) (aa:o.op = .call { callee:=.value (.func f),args:=#[x],argTypes:=#[d] })
 (g:Enters P f) (v:Value) (Q:a.eval x=v):(execOp a.eval o).run P w = .ok (.enter f #[v]) w:=by
 have h:=g #[v] w;have ag:a.eval (.func f) = .func (.func f) #[] #[]:=rfl;simp [execOp,aa,resolve,invoke,Q,ag,h,Deferred.ofValue]
theorem og (m:o.guard=none) (f:FuncId) (x:Operand) (d:TypeId) (aa:o.op = .call { callee:=.value (.func f),args:=#[x],argTypes:=#[d] })
 (g:Enters P f) (v:Value) (Q:a.eval x=v) {R:Value->World->Prop} (a1:Calls P f #[v] w fun e r=>∃ u,e = .returned u/\R u r)
 (h:∀ u r,R u r->K (a.put o.dst u) r):if Region.wanted o (yielded ops a.tmps)=true then Oper.wp P o a w K T else E:=by
 have aq:Region.wanted o (yielded ops a.tmps)=true:=by simp [Region.wanted,m]
 rw [if_pos aq];unfold Oper.wp;rw [Am f x d aa g v Q,t6];refine a1.mono ?_;rintro e r ⟨u,rfl,bb⟩;exact h u r bb
theorem lg (m:o.guard=none) (f:FuncId) (x:Operand) (d:TypeId) (aa:o.op = .call { callee:=.value (.func f),args:=#[x],argTypes:=#[d] })
 (g:Enters P f) (v:Value) (Q:a.eval x=v) (c:List PanicEntry) {R:World->Prop} (a1:Calls P f #[v] w fun e r=>e = .panicked c/\R r)
 (h:∀ r,R r->T (.panic c) a r):if Region.wanted o (yielded ops a.tmps)=true then Oper.wp P o a w K T else E:=by
 have aq:Region.wanted o (yielded ops a.tmps)=true:=by simp [Region.wanted,m]
 rw [if_pos aq];unfold Oper.wp;rw [Am f x d aa g v Q,t6];refine a1.mono ?_;rintro e r ⟨rfl,bb⟩;exact h r bb
end
variable {R a9 a4 c3 I f:Nat} {a Y a5 a7:OA} {l c d:List Tk} {O:Option (St × List Tk)} {s:St} {w:World}
def j9 (A:Nat->Prop) (s:St) (w:World) (v:Value):Prop:=∃ Y a9 a5 a4 a7 c3,v = .agg #[em s.op,.string s.mod,.string s.name,.slice Y s.args.length a9,.slice a5 s.body.length a4,.slice a7 s.other.length c3]/\s.mod.size<=maxLen/\s.name.size<=maxLen/\
 eU w A Y s.args.length (ft s.args)/\eU w A a5 s.body.length (fw s.body)/\eU w A a7 s.other.length (fw s.other)
def wA (A:Nat->Prop) (ae:List St) (w:World) (v:Value):Prop:=∃ a I,v = .slice a ae.length I/\eU w A a ae.length (fw ae)
def An (s:St) (Y:OA) (a9:Nat) (a5:OA) (a4:Nat) (a7:OA) (c3:Nat):List Value:=[em s.op,.string s.mod,.string s.name,.slice Y s.args.length a9,.slice a5 s.body.length a4,.slice a7 s.other.length c3]
theorem F0 {A:Nat->Prop} (G:s.mod.size<=maxLen) (J:s.name.size<=maxLen) (S:eU w A Y s.args.length (ft s.args)) (a6:eU w A a5 s.body.length (fw s.body)) (ap:eU w A a7 s.other.length (fw s.other)):fG w A s.ds (An s Y a9 a5 a4 a7 c3):=by
 cases s
 unfold St.ds;exact .cons jX (.cons (mx G) (.cons (mx J) (.cons S.val (.cons a6.val (.cons ap.val .nil)))))
abbrev gx:Obj:=.cells #[em 0,.string ⟨#[]⟩,.string ⟨#[]⟩,eu,eu,eu] 176 (0,0)
theorem tM {eq:World} (a3:eG R a I d w l) (W:O=some (s,c)) (N:eI R w eq) (j:eG R a I d eq c)
 (ac:s.mod.size<=maxLen) (V:s.name.size<=maxLen) {K:Nat} (G:eU eq (K<=·) Y s.args.length (ft s.args)) (J:eU eq (K<=·) a5 s.body.length (fw s.body)) (S:eU eq (K<=·) a7 s.other.length (fw s.other)) (M:w.heap.size<K) :
 gk R a I d w O (j9 (w.heap.size<=·)) (.returned (.agg #[em s.op,.string s.mod,.string s.name,.slice Y s.args.length a9,.slice a5 s.body.length a4,.slice a7 s.other.length c3])) (set6 eq w.heap.size (em s.op) (.string s.mod) (.string s.name) (.slice Y s.args.length a9) (.slice a5 s.body.length a4) (.slice a7 s.other.length c3)):=by
 have a8:eQ eq (K<=·) (set6 eq w.heap.size (em s.op) (.string s.mod) (.string s.name) (.slice Y s.args.length a9) (.slice a5 s.body.length a4) (.slice a7 s.other.length c3)) (w.heap.size<=·):=((eQ.refl eq (K<=·)).set6 (by intro b _ F;omega) _ _ _ _ _ _).to (by omega);exact ⟨N.set6 (eD _) _ _ _ _ _ _,Or.inr ⟨s,c,_,W,rfl,⟨Y,a9,a5,a4,a7,c3,rfl,ac,V,G.moves a8,J.moves a8,S.moves a8⟩,j.set6 a3 (eD _) _ _ _ _ _ _⟩⟩
theorem wB (R I:Nat) (a:OA) (d l:List Tk) (w:World) (h:eG R a I d w l) (p:Int) (s u:ByteArray) (Y a5 a7:OA) (L K f a9 a4 c3:Nat) :
 ew 284 #[eL R 0,.agg #[em p,.string s,.string u,.slice Y L a9,.slice a5 K a4,.slice a7 f c3]] w fun e r=>eI R w r/\
  ((eF l hM=false/\e = .panicked gL)\/(eF l hM=true/\e = .returned (.agg #[em p,.string s,.string u,.slice Y L a9,.slice a5 K a4,.slice a7 f c3])/\eG R a I d r l.tail)):=by
 have z:Hid (eG R a I d w l):=h;have ad:=h.lt;clear h;go_enter func284,ntmps284;go_wp2_with fail;refine (jE R I _ a d l hM _ (by simp) ((z.alloc _).alloc _) (by decide)).mono ?_;rintro e eq ⟨H,⟨Z,rfl⟩ | ⟨Z,rfl,bh⟩⟩
 . exact ⟨rfl,(((eI.refl R w).alloc _).alloc _).trans H,Or.inl ⟨Z,rfl⟩⟩
 have b0:=H.size;simp at b0;have B:Hid (eq.heap[w.heap.size]? = some (.cells #[em p,.string s,.string u,.slice Y L a9,.slice a5 K a4,.slice a7 f c3] 176 (0,0))):=(H.block w.heap.size (by simp;omega) (by omega)).trans (fF (eT _ _));have ao:Hid (eq.heap[w.heap.size+1]? = some gx):=(H.block (w.heap.size+1) (by simp) (by omega)).trans (by have e:=eT (w.alloc (jA p s u Y L a9 a5 K a4 a7 f c3)) gx;simpa using e);have a1:Hid (eI R w eq):=(((eI.refl R w).alloc _).alloc _).trans H;have n:Hid (eG R a I d eq l.tail):=bh;obtain ⟨bJ,bk,bm,b5,bP,F,v⟩:=he B;obtain ⟨bM,ax,bf,aQ,bn,bs,aO⟩:=he ao;clear H bh;go_wp2_with fail;refine bodyPost_ret (v:=.agg #[em p,.string s,.string u,.slice Y L a9,.slice a5 K a4,.slice a7 f c3]) (by simp [results,results284,go_sem,bM,ax,bf,aQ,bn,bs]) rfl ⟨a1.set6 (by omega) _ _ _ _ _ _,Or.inr ⟨Z,rfl,n.set6 z (by omega) _ _ _ _ _ _⟩⟩
theorem q2 {r:World} (W:O=some (s,c)) (N:eI R w r) (j:eG R a I d r c)
 (ac:s.mod.size<=maxLen) (V:s.name.size<=maxLen) (G:eU r (w.heap.size<=·) Y s.args.length (ft s.args)) (J:eU r (w.heap.size<=·) a5 s.body.length (fw s.body)) (S:eU r (w.heap.size<=·) a7 s.other.length (fw s.other)) :
 gk R a I d w O (j9 (w.heap.size<=·)) (.returned (.agg #[em s.op,.string s.mod,.string s.name,.slice Y s.args.length a9,.slice a5 s.body.length a4,.slice a7 s.other.length c3])) r:=
 ⟨N,Or.inr ⟨s,c,_,W,rfl,⟨Y,a9,a5,a4,a7,c3,rfl,ac,V,G,J,S⟩,j⟩⟩
theorem F1 (l:List Tk) (t u v:ByteArray):mA l [t,u,v]=if eF l t then some t else if eF l u then some u else if eF l v then some v else none:=by
 unfold mA;rw [qv,qv,qv];cases eF l t<;>cases eF l u<;>cases eF l v<;>rfl
theorem Ao (R I n:Nat) (a:OA) (d l:List Tk) (t u v:ByteArray) (w:World) (U:n=w.heap.size) (h:eG R a I d w l) (aj:0<t.size) (aI:0<u.size) (a7:0<v.size) :
 ew 195 #[eL R 0,.slice (some (ep n 0)) 3 3] (w.alloc (.cells #[.string t,.string u,.string v] 9)) fun e r=>eI R w r/\((eF l t=false/\eF l u=false/\eF l v=false/\e = .panicked gL)\/(eF l t=true/\e = .returned (.string t)/\eG R a I d r l.tail)\/(eF l t=false/\eF l u=true/\e = .returned (.string u)/\eG R a I d r l.tail)\/(eF l t=false/\eF l u=false/\eF l v=true/\e = .returned (.string v)/\eG R a I d r l.tail)):=by
 have a0:=h.lt;subst U;refine (tL R I w.heap.size 3 a d l [t,u,v] _ (h.alloc _) (by simp) (by omega) (by simp) (fun i X=>?_) (fun i X=>?_)).mono ?_
 . obtain rfl | rfl | rfl:i=0\/i=1\/i=2:=by simp at X;omega
   all_goals simp
 . obtain rfl | rfl | rfl:i=0\/i=1\/i=2:=by simp at X;omega
   . exact aj
   . exact aI
   . exact a7
 . rintro e r ⟨N,W⟩
   refine ⟨((eI.refl R w).alloc _).trans N,?_⟩;rw [F1] at W
   have b:∀ x:ByteArray,((some x).map fun t=>(t,l.tail))=some (x,l.tail):=fun _=>rfl
   cases Z:eF l t<;>cases E:eF l u<;>cases M:eF l v<;>rw [Z,E,M] at W<;>simp only [sv,if_false,if_true,Option.map_none,Option.map_some] at W
   . rcases W with ⟨_,rfl⟩ | ⟨x,c,y,W,_⟩
     . exact Or.inl ⟨rfl,rfl,rfl,rfl⟩
     . cases W
   all_goals
    rcases W with ⟨W,_⟩ | ⟨x,c,y,W,rfl,rfl,bb⟩
    . cases W
    . obtain ⟨rfl,rfl⟩:=fD (fe W)
      simp [bb]
theorem F2 {ai:List Tk} {aY bd:World} {x y:fg} {m n:ByteArray} {E L:Nat} (a3:eG R a I d w l) (W:O=some (.mk 2 m n [x,y] [] [],ai)) (s:eI R w aY) (a4:eG R a I d aY ai)
 (a8:m.size<=maxLen) (ca:n.size<=maxLen) (bv:Below (w.heap.size+2) aY bd) (az:Row (w.heap.size+2) 174 5 bd (.slice (some (ep E 0)) 2 L) 2 (x.ds++y.ds)) :
 gk R a I d w O (j9 (w.heap.size<=·)) (.returned (.agg #[em 2,.string m,.string n,.slice (some (ep E 0)) 2 L,eu,eu])) (set6 (bd.setCell ⟨w.heap.size+1,3,none⟩ (.slice (some (ep E 0)) 2 L)) w.heap.size (em 2) (.string m) (.string n) (.slice (some (ep E 0)) 2 L) (eu) (eu)):=by
 have c:Below w.heap.size aY bd:=bv.mono (by omega)
 have ez:ft [x,y]=x.ds++y.ds:=by simp [ft]
 obtain ⟨ad,f,a7,a5⟩:=az.slice
 injection a7 with hv1 hv2 hv3
 rw [← hv1,← ez] at a5;have e:=a5.moves ((((eQ.refl bd (w.heap.size+2<=·)).set (p:=⟨w.heap.size+1,3,none⟩) (by intro b _ F;show b≠w.heap.size+1;omega) (.slice (some (ep E 0)) 2 L)).set6 (b:=w.heap.size) (by intro b _ F;omega) (em 2) (.string m) (.string n) (.slice (some (ep E 0)) 2 L) (eu) (eu)).to (lo':=w.heap.size) (by omega))
 have t:=(((s.belowOf c).set (p:=⟨w.heap.size+1,3,none⟩) (by show w.heap.size<=w.heap.size+1;omega) (.slice (some (ep E 0)) 2 L)).set6 (b:=w.heap.size) (eD _) (em 2) (.string m) (.string n) (.slice (some (ep E 0)) 2 L) (eu) (eu))
 have g:=((a4.belowOf a3 c).setAbove a3 (p:=⟨w.heap.size+1,3,none⟩) (by show w.heap.size<=w.heap.size+1;omega) (.slice (some (ep E 0)) 2 L)).set6 a3 (b:=w.heap.size) (eD _) (em 2) (.string m) (.string n) (.slice (some (ep E 0)) 2 L) (eu) (eu);exact q2 (s:=.mk 2 m n [x,y] [] []) W t g a8 ca e (Or.inl rfl) (Or.inl rfl)
theorem wC:Enters prog 283:=enters_of func283 (by kernel_rfl) rfl
theorem F3 (R I:Nat) (a:OA) (d l:List Tk) (w:World) (h:eG R a I d w l) :
 ew 285 #[eL R 0] w (gk R a I d w (ic l) (j9 (w.heap.size<=·))):=by
 have z:Hid (eG R a I d w l):=h;have ad:=h.lt;clear h;go_enter func285,ntmps285;go_wp2_with fail;refine (Ai R I a d l _ ((z.alloc _).alloc _)).mono ?_;rintro e eq ⟨H,⟨U,rfl⟩ | ⟨⟨m,n⟩,j,v,U,rfl,⟨rfl,a8,ca⟩,bh⟩⟩
 . exact ⟨rfl,(((eI.refl R w).alloc _).alloc _).trans H,Or.inl ⟨by unfold ic;rw [U],rfl⟩⟩
 have b0:=H.size;simp at b0
 have g:Hid (ic l=if eF j ln then (match pX j.tail with | none=>none | some (x,t)=>some (.mk 1 m n [x] [] [],t))
  else if eF j kT then (match pX j.tail with
   | none=>none
   | some (x,t)=>if eF t kD then (if eF t.tail ln then (match pX t.tail.tail with | none=>none | some (y,a2)=>some (.mk 2 m n [x,y] [] [],a2)) else none) else none)
  else if eF j iU then (match sH j.tail with | none=>none | some (ae,t)=>some (.mk 3 m n ae [] [],t))
  else none):=by show ic l=_;unfold ic;rw [U];rfl
 have a1:Hid (eI R w eq):=(((eI.refl R w).alloc _).alloc _).trans H;have B:Hid (eq.heap[w.heap.size]? = some gx):=(H.block w.heap.size (by simp;omega) (by omega)).trans (fF (eT _ _));have ao:Hid (eq.heap[w.heap.size+1]? = some gx):=(H.block (w.heap.size+1) (by simp) (by omega)).trans (by have e:=eT (w.alloc gx) gx;simpa using e);obtain ⟨a3,G,J,S,a6,ap,aw⟩:=he ao;have aZ:Hid (eG R a I d ((eq.setCell ⟨w.heap.size+1,1,none⟩ (.string m)).setCell ⟨w.heap.size+1,2,none⟩ (.string n)) j):=(bh.setAbove z (by show _<=w.heap.size+1;omega) _).setAbove z (by show _<=w.heap.size+1;omega) _;have X:Hid (eI R w ((eq.setCell ⟨w.heap.size+1,1,none⟩ (.string m)).setCell ⟨w.heap.size+1,2,none⟩ (.string n))):=(a1.set (by show _<=w.heap.size+1;omega) _).set (by show _<=w.heap.size+1;omega) _
 have aM:Hid (((eq.setCell ⟨w.heap.size+1,1,none⟩ (.string m)).setCell ⟨w.heap.size+1,2,none⟩ (.string n)).heap[w.heap.size]? = some gx):=(fa (by show w.heap.size≠w.heap.size+1;omega) _).trans ((fa (by show w.heap.size≠w.heap.size+1;omega) _).trans B);have bB:Hid (((eq.setCell ⟨w.heap.size+1,1,none⟩ (.string m)).setCell ⟨w.heap.size+1,2,none⟩ (.string n)).heap[w.heap.size+1]? = some (.cells #[em 0,.string m,.string n,eu,eu,eu] 176 (0,0))):=heap_set (heap_set ao _) _
 have bl:((eq.setCell ⟨w.heap.size+1,1,none⟩ (.string m)).setCell ⟨w.heap.size+1,2,none⟩ (.string n)).heap.size=eq.heap.size:=by simp only [gU]
 have bX:w.heap.size+1<eq.heap.size:=by omega
 clear U bh H B a1;go_wp2_with fail;generalize (eq.setCell ⟨w.heap.size+1,1,none⟩ (.string m)).setCell ⟨w.heap.size+1,2,none⟩ (.string n)=w2 at *;clear a3 G J S a6 ap aw ao;refine (Ao R I _ a d j ln kT iU w2 (by omega) aZ (by decide) (by decide) (by decide)).mono ?_;rintro e eC ⟨ab,⟨D,b6,fX,rfl⟩ | ⟨D,rfl,b3⟩ | ⟨D,b6,rfl,b3⟩ | ⟨D,b6,fX,rfl,b3⟩⟩
 . exact ⟨rfl,X.trans ab,Or.inl ⟨by rw [g.out,D,b6,fX];rfl,rfl⟩⟩
 . have bE:=ab.size
   have aP:Hid (eC.heap[w.heap.size]? = some gx):=(ab.block w.heap.size (by omega) (by omega)).trans aM;have bI:Hid (eC.heap[w.heap.size+1]? = some (.cells #[em 0,.string m,.string n,eu,eu,eu] 176 (0,0))):=(ab.block (w.heap.size+1) (by omega) (by omega)).trans bB;obtain ⟨a3,G,J,S,a6,ap,aw⟩:=he bI;have b4:Hid (eG R a I d (eC.setCell ⟨w.heap.size+1,0,none⟩ (em 1)) j.tail):=b3.setAbove z (by show _<=w.heap.size+1;omega) _;have C:Hid (eI R w (eC.setCell ⟨w.heap.size+1,0,none⟩ (em 1))):=(X.trans ab).set (by show _<=w.heap.size+1;omega) _;have b1:Hid ((eC.setCell ⟨w.heap.size+1,0,none⟩ (em 1)).heap[w.heap.size]? = some gx):=(fa (by show w.heap.size≠w.heap.size+1;omega) _).trans aP;have aF:Hid ((eC.setCell ⟨w.heap.size+1,0,none⟩ (em 1)).heap[w.heap.size+1]? = some (.cells #[em 1,.string m,.string n,eu,eu,eu] 176 (0,0))):=heap_set bI _
   have bp:(eC.setCell ⟨w.heap.size+1,0,none⟩ (em 1)).heap.size=eC.heap.size:=by simp only [gU]
   clear b3 ab aP aZ X aM bB;go_wp2_with fail;generalize eC.setCell ⟨w.heap.size+1,0,none⟩ (em 1)=eA at *;clear a3 G J S a6 ap aw bI;refine (pi R I a d j.tail eA b4).mono ?_;rintro e eJ ⟨ar,⟨U,rfl⟩ | ⟨x,a0,v,U,rfl,⟨av,aX,rfl,ac,V,hx3⟩,bu⟩⟩
   . exact ⟨rfl,C.trans ar,Or.inl ⟨by rw [g.out,if_pos D,U],rfl⟩⟩
   have bK:=ar.size
   have A:Hid (ic l=some (.mk 1 m n [x] [] [],a0)):=by show ic l=_;rw [g.out,if_pos D,U]
   have bb:Hid (eJ.heap[w.heap.size]? = some gx):=(ar.block w.heap.size (by omega) (by omega)).trans b1;have aG:Hid (eJ.heap[w.heap.size+1]? = some (.cells #[em 1,.string m,.string n,eu,eu,eu] 176 (0,0))):=(ar.block (w.heap.size+1) (by omega) (by omega)).trans aF
   have p:Hid (gk R a I d w (ic l) (j9 (w.heap.size<=·)) (.returned (.agg #[em 1,.string m,.string n,.slice (some (ep eJ.heap.size 0)) 1 1,eu,eu])) ((set6 (eJ.setCell ⟨w.heap.size+1,3,none⟩ (.slice (some (ep eJ.heap.size 0)) 1 1)) w.heap.size (em 1) (.string m) (.string n) (.slice (some (ep eJ.heap.size 0)) 1 1) (eu) (eu)).alloc (i1 x.op x.n x.mod x.name av x.args.length aX))):=by
    refine q2 (s:=.mk 1 m n [x] [] []) A ((((C.trans ar).set (by show _<=w.heap.size+1;omega) _).set6 (eD _) _ _ _ _ _ _).alloc _) (((bu.setAbove z (by show _<=w.heap.size+1;omega) _).set6 z (eD _) _ _ _ _ _ _).alloc _) a8 ca ?_ (Or.inl rfl) (Or.inl rfl);refine qj (t:=174) (I:=aX) ac V hx3 (((((eQ.refl eJ _).set (by intro b _ F;show b≠w.heap.size+1;omega) _).set6 (b:=w.heap.size) (by intro b _ F;omega) _ _ _ _ _ _).alloc _).to (by omega)) ?_ (by show w.heap.size<=eJ.heap.size;omega);have e:=eT (set6 (eJ.setCell ⟨w.heap.size+1,3,none⟩ (.slice (some (ep eJ.heap.size 0)) 1 1)) w.heap.size (em 1) (.string m) (.string n) (.slice (some (ep eJ.heap.size 0)) 1 1) (eu) (eu)) (i1 x.op x.n x.mod x.name av x.args.length aX);simp only [gU] at e;exact e
   obtain ⟨a3,G,J,S,a6,ap,aw⟩:=he bb;obtain ⟨bM,ax,bf,aQ,bn,bs,aO⟩:=he aG
   have am:w.heap.size+1<eJ.heap.size:=by omega
   have ay:w.heap.size<eJ.heap.size:=by omega
   clear U ar bu ac V hx3 b1 aF b4 C;go_wp2_with fail;refine bodyPost_ret (v:=.agg #[em 1,.string m,.string n,.slice (some (ep eJ.heap.size 0)) 1 1,eu,eu]) (by simp [results,results285,go_sem,a3,G,J,S,a6,ap,ay]) rfl p
 . have bE:=ab.size
   have aP:Hid (eC.heap[w.heap.size]? = some gx):=(ab.block w.heap.size (by omega) (by omega)).trans aM;have bI:Hid (eC.heap[w.heap.size+1]? = some (.cells #[em 0,.string m,.string n,eu,eu,eu] 176 (0,0))):=(ab.block (w.heap.size+1) (by omega) (by omega)).trans bB;obtain ⟨a3,G,J,S,a6,ap,aw⟩:=he bI;have b4:Hid (eG R a I d (eC.setCell ⟨w.heap.size+1,0,none⟩ (em 2)) j.tail):=b3.setAbove z (by show _<=w.heap.size+1;omega) _;have C:Hid (eI R w (eC.setCell ⟨w.heap.size+1,0,none⟩ (em 2))):=(X.trans ab).set (by show _<=w.heap.size+1;omega) _;have b1:Hid ((eC.setCell ⟨w.heap.size+1,0,none⟩ (em 2)).heap[w.heap.size]? = some gx):=(fa (by show w.heap.size≠w.heap.size+1;omega) _).trans aP;have aF:Hid ((eC.setCell ⟨w.heap.size+1,0,none⟩ (em 2)).heap[w.heap.size+1]? = some (.cells #[em 2,.string m,.string n,eu,eu,eu] 176 (0,0))):=heap_set bI _
   have bp:(eC.setCell ⟨w.heap.size+1,0,none⟩ (em 2)).heap.size=eC.heap.size:=by simp only [gU]
   clear b3 ab aP aZ X aM bB;go_wp2_with fail;generalize eC.setCell ⟨w.heap.size+1,0,none⟩ (em 2)=eA at *;clear a3 G J S a6 ap aw bI;refine (pi R I a d j.tail eA b4).mono ?_;rintro e eJ ⟨ar,⟨U,rfl⟩ | ⟨x,a0,v,U,rfl,⟨av,aX,rfl,ac,V,hx3⟩,bu⟩⟩
   . exact ⟨rfl,C.trans ar,Or.inl ⟨by rw [g.out,if_neg (by simp [D]),if_pos b6,U],rfl⟩⟩
   have bK:=ar.size
   have f:Hid (ic l=if eF a0 kD then (if eF a0.tail ln then (match pX a0.tail.tail with | none=>none | some (y,a2)=>some (.mk 2 m n [x,y] [] [],a2)) else none) else none):=by show ic l=_;rw [g.out,if_neg (by simp [D]),if_pos b6,U]
   have bb:Hid (eJ.heap[w.heap.size]? = some gx):=(ar.block w.heap.size (by omega) (by omega)).trans b1;have aG:Hid (eJ.heap[w.heap.size+1]? = some (.cells #[em 2,.string m,.string n,eu,eu,eu] 176 (0,0))):=(ar.block (w.heap.size+1) (by omega) (by omega)).trans aF;have aj:Hid (eI R w eJ):=C.trans ar;have aR:Hid (eG R a I d eJ a0):=bu;have aa:Hid (fG eJ (eA.heap.size<=·) x.ds (oe x av aX)):=qi ac V hx3;obtain ⟨a3,G,J,S,a6,ap,aw⟩:=he aG
   have am:w.heap.size+1<eJ.heap.size:=by omega
   clear U ar bu ac V hx3 b1 aF b4 C g;go_wp2_with fail;refine (jE R I _ a d a0 kD _ (by simp) ((aR.setAbove z (by show _<=w.heap.size+1;omega) _).alloc _) (by decide)).mono ?_;rintro e eZ ⟨a5,⟨M,rfl⟩ | ⟨M,rfl,aB⟩⟩
   . exact ⟨rfl,((aj.set (by show _<=w.heap.size+1;omega) _).alloc _).trans a5,Or.inl ⟨by rw [f.out,M];rfl,rfl⟩⟩
   have bo:=a5.size;simp at bo
   have bi:Hid (Row (w.heap.size+2) 174 5 eZ (.slice (some (ep eJ.heap.size 0)) 1 1) 1 x.ds):=by
    have e:=Row.first (Y:=w.heap.size+2) (e:=174) (size:=5) (w:=eJ.setCell ⟨w.heap.size+1,3,none⟩ (.slice (some (ep eJ.heap.size 0)) 1 1)) (A:=(eA.heap.size<=·)) (ds:=x.ds) (cs:=#[em x.op,em x.n,.string x.mod,.string x.name,.slice av x.args.length aX])
     (aa.moves ((eQ.refl eJ _).set (by intro b _ F;show b≠w.heap.size+1;omega) _)) (fun b _ F=>by omega) (by simp;omega) rfl
    simp only [gU] at e;exact Row.keeps e a5 (by omega)
   have bO:Hid (eZ.heap[w.heap.size]? = some gx):=(a5.block w.heap.size (by simp;omega) (by omega)).trans (fF ((fa (by show w.heap.size≠w.heap.size+1;omega) _).trans bb));have aD:Hid (eZ.heap[w.heap.size+1]? = some (.cells #[em 2,.string m,.string n,.slice (some (ep eJ.heap.size 0)) 1 1,eu,eu] 176 (0,0))):=(a5.block (w.heap.size+1) (by simp;omega) (by omega)).trans (fF (heap_set aG _));have i:Hid (eI R w eZ):=((aj.set (by show _<=w.heap.size+1;omega) _).alloc _).trans a5;have P:Hid (eG R a I d eZ a0.tail):=aB;clear aB a5 aR aj aa bb aG a3 G J S a6 ap aw;go_wp2_with fail;refine (jE R I _ a d a0.tail ln _ (by simp) P (by decide)).mono ?_;rintro e eW ⟨aJ,⟨o,rfl⟩ | ⟨o,rfl,HR7⟩⟩
   . exact ⟨rfl,i.trans aJ,Or.inl ⟨by rw [f.out,M,o];rfl,rfl⟩⟩
   have b7:=aJ.size;have aN:Hid (Row (w.heap.size+2) 174 5 eW (.slice (some (ep eJ.heap.size 0)) 1 1) 1 x.ds):=bi.keeps aJ (by omega);have bD:Hid (eW.heap[w.heap.size]? = some gx):=(aJ.block w.heap.size (by omega) (by omega)).trans bO;have an:Hid (eW.heap[w.heap.size+1]? = some (.cells #[em 2,.string m,.string n,.slice (some (ep eJ.heap.size 0)) 1 1,eu,eu] 176 (0,0))):=(aJ.block (w.heap.size+1) (by omega) (by omega)).trans aD;have aU:Hid (eI R w eW):=i.trans aJ;have aE:Hid (eG R a I d eW a0.tail.tail):=HR7
   have aq:Hid (ic l=match pX a0.tail.tail with | none=>none | some (y,a2)=>some (.mk 2 m n [x,y] [] [],a2)):=by show ic l=_;rw [f.out,M,o];rfl
   obtain ⟨a3,G,J,S,a6,ap,aw⟩:=he an;clear HR7 aJ P i bO aD bi f M o
   cases Q:pX a0.tail.tail with
   | none=>
     have aH:Hid (∀ r,eG R a I d r a0.tail.tail->ew 283 #[eL R 0] r fun e T=>e = .panicked gL/\eI R r T):=fun r q=>by
      refine (pi R I a d _ r q).mono ?_;rintro e T ⟨N,⟨_,rfl⟩ | ⟨_,_,_,h,_⟩⟩
      . exact ⟨rfl,N⟩
      . rw [Q] at h;cases h
     have A:Hid (ic l=none):=by show ic l=_;rw [aq.out,Q]
     clear Q aq;go_wp2_with fail;refine wp_region_any (by kernel_rfl) ?_
     change wpAny _ _ _ _ _ _ _ (World.drew _)
     refine wpAny_take (i:=2) (v:=eL R 0) rfl (by kernel_rfl) (by kernel_rfl) (by kernel_rfl) (fun c a w h=>h) (Or.inl ⟨by rfl,fun w=>by go_simp⟩) ?_;refine wpAny_take (i:=0) (v:=.pointer (some ⟨w.heap.size+1,3,none⟩)) rfl (by kernel_rfl) (by kernel_rfl) (by kernel_rfl) (fun c a w h=>h) (Or.inl ⟨by rfl,fun w=>by go_simp⟩) ?_;refine wpAny_ready (rs:=[1,3]) (by kernel_rfl) (by simp) ?_;refine hO rfl (fun K aA=>?_) (hO rfl (fun K aA=>?_) jz)
     . go_simp
       refine aA _ _ ?_;clear aA K;refine wpAny_ready (rs:=[3]) (by kernel_rfl) (by simp) ?_;refine hO rfl (fun K aA=>?_) jz;refine lg (by rfl) 283 _ _ (by rfl) wC _ (by rfl) gL (aH _ aE.drew) ?_;intro aY hk8;exact ⟨rfl,aU.drew.trans hk8,Or.inl ⟨A,rfl⟩⟩
     . refine lg (by rfl) 283 _ _ (by rfl) wC _ (by rfl) gL (aH _ aE.drew) ?_
       intro aY hk8;exact ⟨rfl,aU.drew.trans hk8,Or.inl ⟨A,rfl⟩⟩
   | some O=>
     obtain ⟨y,ai⟩:=O
     have aH:Hid (∀ r,eG R a I d r a0.tail.tail->ew 283 #[eL R 0] r fun e T=>∃ u,e = .returned u/\(eI R r T/\ku (r.heap.size<=·) y T u/\eG R a I d T ai)):=fun r q=>by
      refine (pi R I a d _ r q).mono ?_;rintro e T ⟨N,⟨h,_⟩ | ⟨b8,c,u,h,rfl,W,ez⟩⟩
      . rw [Q] at h;cases h
      . rw [Q] at h
        obtain ⟨rfl,rfl⟩:=fD (fe h);exact ⟨u,rfl,N,W,ez⟩
     have A:Hid (ic l=some (.mk 2 m n [x,y] [] [],ai)):=by show ic l=_;rw [aq.out,Q]
     clear Q aq;go_wp2_with fail
     go_region_law (first
      | (refine og (by rfl) 283 _ _ (by rfl) wC _ (by rfl) (aH _ aE.drew) ?_
         rintro u8 aY ⟨s,⟨bc,c8,rfl,al,a7,aL⟩,a4⟩;have aK:eW.heap.size<=aY.heap.size:=s.size
         have b2:w.heap.size+1<aY.heap.size:=by omega
         have k:Hid (aY.heap[w.heap.size+1]? = some (.cells #[em 2,.string m,.string n,.slice (some (ep eJ.heap.size 0)) 1 1,eu,eu] 176 (0,0))):=(s.block (w.heap.size+1) (show w.heap.size+1<eW.heap.size by omega) (by omega)).trans an;have af:Hid (aY.heap[w.heap.size]? = some gx):=(s.block w.heap.size (show w.heap.size<eW.heap.size by omega) (by omega)).trans bD;have b5:aY.cell? ⟨w.heap.size+1,3,none⟩=some (.slice (some (ep eJ.heap.size 0)) 1 1):=(s.cell (show w.heap.size+1<eW.heap.size by omega) (by omega)).trans S
         have ah:Hid (Row (w.heap.size+2) 174 5 aY (.slice (some (ep eJ.heap.size 0)) 1 1) 1 x.ds):=(aN.keeps (eI.refl R eW).drew (by omega)).keeps s (by omega))
      | (refine qk (by rfl) _ _ 172 (by rfl) (w.heap.size+2) 174 _ 5 72 Tryz.underlying172 Tryz.infoP80 rfl (by decide) aY _ 1 x.ds y.ds (by rfl) ah _ _ rfl (by rfl) rfl (eW.heap.size<=·) (qi al a7 aL) (fun b _ F=>⟨by omega,fun h=>by have q:eJ.heap.size=b:=fe h;omega⟩) (by omega) (by decide) (by omega) ?_
         intro E L bd az bv co;have aW:Hid (bd.heap[w.heap.size+1]? = some (.cells #[em 2,.string m,.string n,.slice (some (ep eJ.heap.size 0)) 1 1,eu,eu] 176 (0,0))):=(bv.block (w.heap.size+1) (by omega)).trans k;have a9:Hid (bd.heap[w.heap.size]? = some gx):=(bv.block w.heap.size (by omega)).trans af;obtain ⟨ag,ak,au,aI,bq,c9,k6⟩:=he aW;obtain ⟨bF,br,Z,m3,m4,m5,m6⟩:=he a9
         have aS:w.heap.size≠w.heap.size+1:=by omega
         have p:Hid (gk R a I d w (ic l) (j9 (w.heap.size<=·)) (.returned (.agg #[em 2,.string m,.string n,.slice (some (ep E 0)) 2 L,eu,eu])) (set6 (bd.setCell ⟨w.heap.size+1,3,none⟩ (.slice (some (ep E 0)) 2 L)) w.heap.size (em 2) (.string m) (.string n) (.slice (some (ep E 0)) 2 L) (eu) (eu))):=F2 z A (aU.drew.trans s) a4 a8 ca bv az))
     all_goals
      go_wp2_with fail;refine bodyPost_ret (v:=.agg #[em 2,.string m,.string n,.slice (some (ep E 0)) 2 L,eu,eu]) (by simp [results,results285,go_sem,bF,br,Z,m3,m4,m5]) rfl p
 . have bE:=ab.size
   have aP:Hid (eC.heap[w.heap.size]? = some gx):=(ab.block w.heap.size (by omega) (by omega)).trans aM;have bI:Hid (eC.heap[w.heap.size+1]? = some (.cells #[em 0,.string m,.string n,eu,eu,eu] 176 (0,0))):=(ab.block (w.heap.size+1) (by omega) (by omega)).trans bB;obtain ⟨a3,G,J,S,a6,ap,aw⟩:=he bI;have b4:Hid (eG R a I d (eC.setCell ⟨w.heap.size+1,0,none⟩ (em 3)) j.tail):=b3.setAbove z (by show _<=w.heap.size+1;omega) _;have C:Hid (eI R w (eC.setCell ⟨w.heap.size+1,0,none⟩ (em 3))):=(X.trans ab).set (by show _<=w.heap.size+1;omega) _;have b1:Hid ((eC.setCell ⟨w.heap.size+1,0,none⟩ (em 3)).heap[w.heap.size]? = some gx):=(fa (by show w.heap.size≠w.heap.size+1;omega) _).trans aP;have aF:Hid ((eC.setCell ⟨w.heap.size+1,0,none⟩ (em 3)).heap[w.heap.size+1]? = some (.cells #[em 3,.string m,.string n,eu,eu,eu] 176 (0,0))):=heap_set bI _
   have bp:(eC.setCell ⟨w.heap.size+1,0,none⟩ (em 3)).heap.size=eC.heap.size:=by simp only [gU]
   clear b3 ab aP aZ X aM bB;go_wp2_with fail;generalize eC.setCell ⟨w.heap.size+1,0,none⟩ (em 3)=eA at *;clear a3 G J S a6 ap aw bI;refine (FZ R I a d j.tail eA b4).mono ?_;rintro e eJ ⟨ar,⟨U,rfl⟩ | ⟨ae,a0,v,U,rfl,⟨av,aX,rfl,hx3⟩,bu⟩⟩
   . exact ⟨rfl,C.trans ar,Or.inl ⟨by rw [g.out,if_neg (by simp [D]),if_neg (by simp [b6]),if_pos fX,U],rfl⟩⟩
   have bK:=ar.size
   have A:Hid (ic l=some (.mk 3 m n ae [] [],a0)):=by show ic l=_;rw [g.out,if_neg (by simp [D]),if_neg (by simp [b6]),if_pos fX,U]
   have bb:Hid (eJ.heap[w.heap.size]? = some gx):=(ar.block w.heap.size (by omega) (by omega)).trans b1;have aG:Hid (eJ.heap[w.heap.size+1]? = some (.cells #[em 3,.string m,.string n,eu,eu,eu] 176 (0,0))):=(ar.block (w.heap.size+1) (by omega) (by omega)).trans aF
   have p:Hid (gk R a I d w (ic l) (j9 (w.heap.size<=·)) (.returned (.agg #[em 3,.string m,.string n,.slice av ae.length aX,eu,eu])) (set6 (eJ.setCell ⟨w.heap.size+1,3,none⟩ (.slice av ae.length aX)) w.heap.size (em 3) (.string m) (.string n) (.slice av ae.length aX) (eu) (eu))):=by
    refine q2 (s:=.mk 3 m n ae [] []) A (((C.trans ar).set (by show _<=w.heap.size+1;omega) _).set6 (eD _) _ _ _ _ _ _) ((bu.setAbove z (by show _<=w.heap.size+1;omega) _).set6 z (eD _) _ _ _ _ _ _) a8 ca ?_ (Or.inl rfl) (Or.inl rfl);exact hx3.moves ((((eQ.refl eJ _).set (by intro b _ F;show b≠w.heap.size+1;omega) _).set6 (b:=w.heap.size) (by intro b _ F;omega) _ _ _ _ _ _).to (by omega))
   obtain ⟨a3,G,J,S,a6,ap,aw⟩:=he bb;obtain ⟨bM,ax,bf,aQ,bn,bs,aO⟩:=he aG;clear U ar bu hx3 b1 aF b4 C;go_wp2_with fail;refine bodyPost_ret (v:=.agg #[em 3,.string m,.string n,.slice av ae.length aX,eu,eu]) (by simp [results,results285,go_sem,a3,G,J,S,a6,ap]) rfl p
theorem F4 (h:ic l=some (s,c)):c.length<l.length:=by
 unfold ic at h
 split at h
 . cases h
 rename_i m n j G
 have:=xu G
 split at h
 . rename_i Z
   have:=fN (by decide) Z
   split at h
   . cases h
   rename_i x t J
   have:=oG J;obtain ⟨_,rfl⟩:=fD (fe h);omega
 split at h
 . rename_i Z
   have:=fN (by decide) Z
   split at h
   . cases h
   rename_i x t J
   have:=oG J
   split at h
   . rename_i E
     have:=fN (by decide) E
     split at h
     . rename_i M
       have:=fN (by decide) M
       split at h
       . cases h
       rename_i y a2 S
       have:=oG S;obtain ⟨_,rfl⟩:=fD (fe h);omega
     . cases h
   . cases h
 split at h
 . rename_i Z
   have:=fN (by decide) Z
   split at h
   . cases h
   rename_i x t J
   have:=Hk J;obtain ⟨_,rfl⟩:=fD (fe h);omega
 . cases h
theorem wD {n:Nat} (h:ki O=some (s,c)) (W:∀ s l,O=some (s,l)->l.length<n):c.length<n:=by
 unfold ki at h
 split at h
 . cases h
 . rename_i D j
   have:=W D j rfl
   split at h
   . rename_i Z
     have:=fN (by decide) Z;obtain ⟨_,rfl⟩:=fD (fe h);omega
   . cases h
def kO (f:Nat) (l:List Tk):Option (St × List Tk):=
 match pX l with
 | none=>none
 | some (x,j)=>match ij f j with
   | none=>none
   | some (b,t)=>if eF t qz then (match ij f t.tail with | none=>none | some (o,a2)=>if o.length=0 then none else some (.mk 4 ⟨#[]⟩ ⟨#[]⟩ [x] b o,a2))
     else some (.mk 4 ⟨#[]⟩ ⟨#[]⟩ [x] b [],t)
theorem Ap (h:eF l mY=true):hi (f+1) l=kO f l.tail:=by
 unfold hi;rw [if_pos h];rfl
theorem wE (h:eF l mY=false) (G:eF l nO=true):hi (f+1) l=(match pX l.tail with
 | none=>none
 | some (x,j)=>match ij f j with | none=>none | some (b,t)=>some (.mk 5 ⟨#[]⟩ ⟨#[]⟩ [x] b [],t)):=by
 unfold hi;rw [if_neg (by simp [h]),if_pos G];rfl
theorem wF (h:eF l mY=false) (G:eF l nO=false) (J:eF l oC=true):hi (f+1) l=ki (match pX l.tail with | none=>none | some (x,j)=>some (.mk 6 ⟨#[]⟩ ⟨#[]⟩ [x] [] [],j)):=by
 unfold hi;rw [if_neg (by simp [h]),if_neg (by simp [G]),if_pos J];rfl
theorem wG (h:eF l mY=false) (G:eF l nO=false) (J:eF l oC=false) (S:eF l pz=true):hi (f+1) l=ki (match pX l.tail with | none=>none | some (x,j)=>some (.mk 7 ⟨#[]⟩ ⟨#[]⟩ [x] [] [],j)):=by
 unfold hi;rw [if_neg (by simp [h]),if_neg (by simp [G]),if_neg (by simp [J]),if_pos S];rfl
theorem wH (h:eF l mY=false) (G:eF l nO=false) (J:eF l oC=false) (S:eF l pz=false):hi (f+1) l=ki (ic l):=by
 unfold hi;rw [if_neg (by simp [h]),if_neg (by simp [G]),if_neg (by simp [J]),if_neg (by simp [S])]
mutual
theorem wI:∀ (f:Nat) (l c:List Tk) (s:St),hi f l=some (s,c)->c.length<l.length
 | 0,_,_,_,h=>by simp [hi] at h
 | f + 1,l,c,s,h=>by
   unfold hi at h
   split at h
   . rename_i Z
     have:=fN (by decide) Z
     split at h
     . cases h
     rename_i x j G
     have:=oG G
     split at h
     . cases h
     rename_i b t J
     have:=sn f _ _ _ J
     split at h
     . rename_i E
       have:=fN (by decide) E
       split at h
       . cases h
       rename_i o a2 S
       have:=sn f _ _ _ S
       split at h
       . cases h
       . obtain ⟨_,rfl⟩:=fD (fe h)
         omega
     . obtain ⟨_,rfl⟩:=fD (fe h)
       omega
   split at h
   . rename_i Z
     have:=fN (by decide) Z
     split at h
     . cases h
     rename_i x j G
     have:=oG G
     split at h
     . cases h
     rename_i b t J
     have:=sn f _ _ _ J;obtain ⟨_,rfl⟩:=fD (fe h);omega
   split at h
   . rename_i Z
     have:=fN (by decide) Z;refine wD h ?_;intro s t J
     split at J
     . cases J
     rename_i x j G
     have:=oG G;obtain ⟨_,rfl⟩:=fD (fe J);omega
   split at h
   . rename_i Z
     have:=fN (by decide) Z;refine wD h ?_;intro s t J
     split at J
     . cases J
     rename_i x j G
     have:=oG G;obtain ⟨_,rfl⟩:=fD (fe J);omega
   . exact wD h fun s t J=>F4 J
theorem sn:∀ (f:Nat) (l c:List Tk) (b:List St),ij f l=some (b,c)->c.length<l.length
 | 0,_,_,_,h=>by simp [ij] at h
 | f + 1,l,c,s,h=>by
   unfold ij at h
   split at h
   . rename_i Z
     have:=fN (by decide) Z;have:=Aq f _ _ _ _ h;omega
   . cases h
theorem Aq:∀ (f:Nat) (P:List St) (l c:List Tk) (b:List St),kU f P l=some (b,c)->c.length<l.length
 | 0,_,_,_,_,h=>by simp [kU] at h
 | f + 1,P,l,c,b,h=>by
   unfold kU at h
   split at h
   . rename_i Z
     obtain ⟨_,rfl⟩:=fD (fe h);exact fN (by decide) Z
   split at h
   . cases h
   . rename_i s j G
     have:=wI f _ _ _ G;have:=Aq f _ _ _ _ h;omega
end
structure qm (R cap:Nat) (a:OA) (ts:List Tk) (f:Nat):Prop where
 stmt:∀ (l:List Tk) (w:World),eG R a cap ts w l->3*l.length+1<=f->ew 254 #[eL R 0] w (gk R a cap ts w (hi f l) (j9 (w.heap.size<=·)))
 block:∀ (l:List Tk) (w:World),eG R a cap ts w l->3*l.length+1<=f->ew 201 #[eL R 0] w (gk R a cap ts w (ij f l) (wA (w.heap.size<=·)))
theorem F5 (R I:Nat) (a:OA) (d:List Tk) (f:Nat) (u:∀ g,g<=f->qm R I a d g) (l:List Tk) (w:World) (h:eG R a I d w l) (ag:3*l.length+1<=f+1) :
 ew 201 #[eL R 0] w (gk R a I d w (ij (f+1) l) (wA (w.heap.size<=·))):=by
 have az:Hid (∀ g,g<=f->qm R I a d g):=u;have z:Hid (eG R a I d w l):=h;have ad:=h.lt
 have bD:l.length<=4096:=by
  obtain ⟨k,_,rfl,_⟩:=h.idx;have:=h.len
  rw [nM];omega
 clear u h;go_enter func201,ntmps201;go_wp2_with fail;refine (jE R I _ a d l pA _ rfl z (by decide)).mono ?_;rintro e eq ⟨H,⟨Z,rfl⟩ | ⟨Z,rfl,bh⟩⟩
 . exact ⟨rfl,H,Or.inl ⟨by unfold ij;rw [if_neg (by simp [Z])],rfl⟩⟩
 have aI:=fN (by decide) Z
 have A:Hid (ij (f+1) l=kU f [] l.tail):=by show ij (f+1) l=_;unfold ij;rw [if_pos Z]
 have n:Hid (eG R a I d eq l.tail):=bh;have a1:Hid (eI R w eq):=H;have b0:=H.size;clear bh H Z;go_wp2_with fail
 go_loopw [3] (fun v wr=>∃ (g:Nat) (P:List St) (c:List Tk),g<=f/\ij (f+1) l=kU g P c/\3*c.length+2<=g/\P.length+c.length<=l.length/\Row w.heap.size 176 6 wr v P.length (fw P)/\eG R a I d wr c/\eI R w wr) (fun _ wr=>lf R d.length wr)
 case atStart=>exact ⟨f,[],l.tail,eD _,A,by omega,by simp,Row.nil _ _ _ _,n,a1⟩
 case round=>
  obtain ⟨g,P,c,af,hpm,aT,hacc,ba,j,aa⟩:=hrel;have aE:Hid (ij (f+1) l=kU g P c):=hpm;have aG:Hid (Row w.heap.size 176 6 wr u3 P.length (fw P)):=ba;have aK:Hid (eG R a I d wr c):=j;have aH:Hid (eI R w wr):=aa;have bN:=aa.size
  obtain ⟨g,rfl⟩:∃ aj,g=aj+1:=⟨g - 1,by omega⟩
  clear hpm ba j aa A;go_wp2_with fail
  by_cases Z:eF c lQ=true
  . have A:Hid (ij (f+1) l=some (P,c.tail)):=by show ij (f+1) l=_;rw [aE.out];unfold kU;rw [if_pos Z]
    refine (jR R I a d c lQ wr (by decide) aK Z).mono ?_;rintro e eC ⟨rfl,b3,ab⟩;have aq:Hid (Row w.heap.size 176 6 eC u3 P.length (fw P)):=aG.keeps ab ad;go_wp2_with fail;go_ret;exact ⟨aH.trans ab,Or.inr ⟨P,c.tail,_,A,rfl,aq.slice,b3⟩⟩
  refine (jS R I a d c lQ wr aK (by simpa using Z)).mono ?_;rintro e eC ⟨rfl,b3,ab⟩;have bE:=ab.size;go_wp2_with fail;refine ((az g (by omega)).stmt c eC b3 (by omega)).mono ?_;rintro e eA ⟨C,⟨U,rfl⟩ | ⟨y,i,v,U,rfl,⟨Y,a9,a5,a4,a7,c3,rfl,ac,V,hx3,hx4,hx5⟩,b4⟩⟩
  . exact ⟨rfl,(aH.trans ab).trans C,Or.inl ⟨by rw [aE.out];unfold kU;rw [if_neg Z,U],rfl⟩⟩
  have b9:=wI _ _ _ _ U
  have A:Hid (ij (f+1) l=kU g (P++[y]) i):=by show ij (f+1) l=_;rw [aE.out];unfold kU;rw [if_neg Z,U];cases g<;>rfl
  have L:Hid (fG eA (eC.heap.size<=·) y.ds (An y Y a9 a5 a4 a7 c3)):=F0 ac V hx3 hx4 hx5;have W:Hid (eG R a I d eA i):=b4;have O:Hid (eI R w eA):=(aH.trans ab).trans C;have a3:Hid (Row w.heap.size 176 6 eA u3 P.length (fw P)):=(aG.keeps ab ad).keeps C ad;have bp:=C.size
  have b8:Hid (∀ k,u3.ownBlock=some k->k<eC.heap.size):=fun k N=>((aG.keeps ab ad).lt k N).2
  have an:=aK.left;clear U b3 b4 ab C ac V hx3 hx4 hx5 Z
  go_wp2_with (at_builtin;refine mP rfl (.tmp 10) (.tmp 13) 25 rfl w.heap.size 176 _ 6 112 Tryz.underlying25 Tryz.infoP48 rfl (by decide) eA u3 P.length (fw P) y.ds rfl a3 _ _ rfl rfl rfl (eC.heap.size<=·) L ?_ (by omega) (by decide) (by omega) ?_)
  . intro b _ F
    exact ⟨by omega,fun h=>by have:=b8 b h;omega⟩
  . intro bs aX eJ s bb bK
    have a2:Hid (Row w.heap.size 176 6 eJ (.slice (some (ep bs 0)) (P.length+1) aX) (P.length+1) (fw P++y.ds)):=s;have bu:Hid (eG R a I d eJ i):=W.belowOf z bb;have ar:Hid (eI R w eJ):=O.belowOf bb;have aS:=bu.left;clear s bb a3 W O L;go_wp2_with fail;go_roundw
    case rel=>exact ⟨g,P++[y],i,by omega,A,by omega,by simp;omega,by rw [xe,AG,gn];exact a2,bu,ar⟩
    case measure=>rw [aS,an];omega
end Go.Proofs.YtndkhgakfodldaaGreatDoor
