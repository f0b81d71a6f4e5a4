import Derived.Test.YtndkhgakfodldaaGreatDoorMxMem
import Derived.Deep.RegionWith
set_option maxRecDepth 100000
set_option maxHeartbeats 800000
open Go.Proofs.Tryz
open List renaming length → ln
namespace Go.Proofs.YtndkhgakfodldaaGreatDoor
namespace Mx
open Go.RowKit
variable {B R I g:Nat} {T:Nat->Nat} {c:Mc.Cfg} {e:Ending} {s:Mc.St} {w r w0:World} {α l:Type}
theorem zT (gs:List (List Int × Int)) (f:List Int × Int):(iR 0 (gs++[f]))[ln gs*2]? = some (.int .i64 ((fz gs).length:Nat))/\(iR 0 (gs++[f]))[ln gs*2+1]? = some (.int .i64 f.2):=by
 rw [qW,Nat.zero_add,← tE 0 gs]
 constructor
 . rw [List.getElem?_append_right (Nat.le_refl _),Nat.sub_self];rfl
 . rw [List.getElem?_append_right (by omega),show (iR 0 gs).length+1 - (iR 0 gs).length=1 from by omega];rfl
theorem wj (B R:Nat) (c:Mc.Cfg) (w0:World) (s:Mc.St) (w:World) (T:Nat->Nat) (v:Vs) (h:eX B R c w0 w T v s) :
 Calls prog 276 #[.pointer (some ⟨R,0,none⟩)] w fun e r=>e = .returned (.agg #[.int .i64 ((fz s.gs).length:Nat),.int .i64 s.bk])/\Below w.heap.size w r:=by
 obtain ⟨q,E,K,fr,Y,y,ou⟩:=v;obtain ⟨g,I,a7,ay,hmax,hBg,cM,ao,aQ,hcell⟩:=h.fr.place (by omega);simp only at a7;subst a7;obtain ⟨-, -, -, -,am, -, -, -, -, -, -, -, -,ag⟩:=h.cell;simp only at am;have l:=hcell _ _ (zT s.gs (s.lo,s.bk)).1;have ac:=hcell _ _ (zT s.gs (s.lo,s.bk)).2;have d:=h.bgs;have ak:=h.ltR;clear h hcell;generalize (ln s.gs)=k at *;generalize (fz s.gs).length=m at *;unfold maxLen at hmax;go_enter func276,ntmps276;go_wp2_with fail
 go_region
 go_wp2_with fail;exact bodyPost_ret (v:=.agg #[.int .i64 (m:Nat),.int .i64 s.bk]) (by simp [results,results276,go_sem]) rfl ⟨rfl,((Below.refl _ _).alloc (Nat.le_refl _) _).drew⟩
def tH (w:World) (a:Option Addr) (l:List Int):Prop:=
 l=[]\/∃ g C,a=some ⟨g,C,none⟩/\∀ i,i<ln l->w.cell? ⟨g,C+i,none⟩=some (.int .i64 (l.getD i 0))
theorem wl (B R:Nat) (c:Mc.Cfg) (w0:World) (s:Mc.St) (a:Option Addr) (I:Nat) (l:List Int) (x:Int) (w:World) (h:fb B R c w0 w s) (a1:tH w a l) (a2:ln l<=100000) :
 Calls prog 222 #[.pointer (some ⟨R,0,none⟩),.slice a (ln l) I,.int .i64 x] w (eP B R c w0 (Mc.getL l x s) intV):=by
 obtain ⟨T,v,h⟩:=h;have aq:Hid (eX B R c w0 w T v s):=h;obtain ⟨-, -, -, -, -, -, -, -, -, -, -, -,m,ag⟩:=h.cell;clear h
 by_cases a3:0<=x
 . by_cases G:x<ln l
   . have A:Hid (Mc.getL l x s = .ok (l.getD x.toNat 0) s):=if_pos (by simp [Mc.inB,a3,G])
     obtain ⟨k,rfl⟩:=Int.eq_ofNat_of_zero_le a3;rw [Int.toNat_natCast] at A
     rcases a1 with a1 | ⟨g,C,rfl,a1⟩
     . subst a1;simp at G;omega
     have Q:=a1 k (by omega);generalize l.getD k 0=o at *;generalize (ln l)=n at *;clear a1;go_enter func222,ntmps222;go_wp2_with fail;refine (lc _ _ _ (by first | (simp;done) | (simp;omega))).mono ?_;rintro e r ⟨rfl,rfl⟩;go_wp2_with fail
     go_returns
     exact eP.ok A rfl ⟨_,_,aq⟩
   . have A:Hid (Mc.getL l x s = .stop { s with en:=6 }):=if_neg (by simp [Mc.inB];omega)
     clear a1;generalize (ln l)=n at *;go_enter func222,ntmps222;go_wp2_with fail;refine (qg R _ _ _ (by first | (simp;done) | (simp;omega)) m (ag 12)).mono ?_;rintro e r ⟨rfl,rfl⟩;go_wp2_with fail;exact ⟨rfl,eP.stop A rfl ⟨_,_,aq.setEn 6⟩⟩
 . have A:Hid (Mc.getL l x s = .stop { s with en:=6 }):=if_neg (by simp [Mc.inB];omega)
   clear a1;generalize (ln l)=n at *;go_enter func222,ntmps222;go_wp2_with fail;refine (qg R _ _ _ (by first | (simp;done) | (simp;omega)) m (ag 12)).mono ?_;rintro e r ⟨rfl,rfl⟩;go_wp2_with fail;exact ⟨rfl,eP.stop A rfl ⟨_,_,aq.setEn 6⟩⟩
theorem zU (R:Nat) (g C n I k:Nat) (x:Int) (y:Value) (w:World) (N:k<n) (z:w.cell? ⟨g,C+k,none⟩=some y) (aS:w.frozen? ⟨g,C+k,none⟩=false) :
 Calls prog 224 #[.pointer (some ⟨R,0,none⟩),.slice (some ⟨g,C,none⟩) n I,.int .i64 k,.int .i64 x] w fun e r=>e = .returned (.tuple #[])/\r=w.setCell ⟨g,C+k,none⟩ (.int .i64 x):=by
 go_enter func224,ntmps224;go_wp2_with fail;refine (lc _ _ _ (by first | (simp;done) | (simp;omega))).mono ?_;rintro e r ⟨rfl,rfl⟩;go_wp2_with fail
 go_returns
 exact ⟨rfl,rfl⟩
theorem zV (R:Nat) (a:Option Addr) (n I:Nat) (k x:Int) (y:Value) (w:World) (N:¬ (0<=k/\k<n)) (m:w.cell? ⟨R,12,none⟩=some y) (ag:w.frozen? ⟨R,12,none⟩=false) :
 Calls prog 224 #[.pointer (some ⟨R,0,none⟩),.slice a n I,.int .i64 k,.int .i64 x] w fun e r=>e = .panicked (kr 6)/\r=w.setCell ⟨R,12,none⟩ (.int .i64 6):=by
 by_cases a3:0<=k
 . have G:¬ k<n:=fun h=>N ⟨a3,h⟩
   clear N;go_enter func224,ntmps224;go_wp2_with fail;refine (qg R _ _ _ (by first | (simp;done) | (simp;omega)) m ag).mono ?_;rintro e r ⟨rfl,rfl⟩;go_wp2_with fail;exact ⟨rfl,rfl,rfl⟩
 . clear N
   go_enter func224,ntmps224;go_wp2_with fail;refine (qg R _ _ _ (by first | (simp;done) | (simp;omega)) m ag).mono ?_;rintro e r ⟨rfl,rfl⟩;go_wp2_with fail;exact ⟨rfl,rfl,rfl⟩
theorem ownsRow_set {n:Nat} {ae:List Value} (h:w.ownsRow B 3 1 (.slice (some ⟨g,0,none⟩) n I) n ae) (k:Nat) (u:Value):(w.setCell ⟨g,k,none⟩ u).ownsRow B 3 1 (.slice (some ⟨g,0,none⟩) n I) n (ae.set k u):=by
 refine ⟨by rw [List.length_set];exact h.1,?_⟩
 rcases h.2 with ⟨G,_⟩ | ⟨aj,f,o,G,F,af,S,a6,ap,aw⟩
 . cases G
 . cases G
   refine Or.inr ⟨g,I,o.setIfInBounds k u,rfl,F,heap_set af u,S,a6,by rw [Array.size_setIfInBounds];exact ap,?_⟩;rw [Array.toList_setIfInBounds,List.take_set,aw]
theorem zW (l:List Int) (k:Nat) (x:Int):(ints l).set k (.int .i64 x)=ints (l.set k x):=by simp [ints,List.map_set]
section
variable {B R:Nat} {c:Mc.Cfg} {w0 w:World} {T:Nat->Nat} {v:Vs} {s:Mc.St}
theorem zX {m:Nat} (a8:T g=m) (k:Nat) (u:Value):∀ a,a≠m->∀ j,j<w.heap.size->T j=a->(w.setCell ⟨g,k,none⟩ u).heap[j]? = w.heap[j]?:=fun a ab j _ e=>
 Below.heap_setCell w ⟨g,k,none⟩ u j (fun A=>by have aE:j=g:=A;subst aE;exact ab (e.symm.trans a8))
theorem eX.cellDa (h:eX B R c w0 w T v s) (a7:v.da = .slice (some ⟨g,0,none⟩) (ln s.data) I) (k:Nat) (x:Int):eX B R c w0 (w.setCell ⟨g,k,none⟩ (.int .i64 x)) T v { s with data:=s.data.set k x }:=by
 have a8:T g=5:=h.da.mark g (by rw [a7];rfl);have ab:B<=g:=(h.da.own.lt g (by rw [a7];rfl)).1;have a:=zX (w:=w) a8 k (.int .i64 x)
 exact { h with
  blk:=(a 1 (by decide) R h.ltR h.tR).trans h.blk
  st:=h.st.keep (a 2 (by decide)) (fun _ _ e=>e)
  lo:=h.lo.keep (a 3 (by decide)) (fun _ _ e=>e)
  fr:=h.fr.keep (a 4 (by decide)) (fun _ _ e=>e)
  ou:=h.ou.keep (a 6 (by decide)) (fun _ _ e=>e)
  da:=by
   have aa:=h.da.own;rw [a7] at aa;have J:=ownsRow_set aa k (.int .i64 x);rw [zW] at J;refine ⟨?_,h.da.mark⟩;rw [a7,List.length_set];exact J
  below:=h.below.setCell (p:=⟨g,k,none⟩) ab _
  bda:=by rw [List.length_set];exact h.bda }
theorem eX.cellLo (h:eX B R c w0 w T v s) (a7:v.lo = .slice (some ⟨g,0,none⟩) (fz s.gs++s.lo).length I) (k:Nat) (x:Int):eX B R c w0 (w.setCell ⟨g,(fz s.gs).length+k,none⟩ (.int .i64 x)) T v { s with lo:=s.lo.set k x }:=by
 have a8:T g=3:=h.lo.mark g (by rw [a7];rfl);have ab:B<=g:=(h.lo.own.lt g (by rw [a7];rfl)).1;have a:=zX (w:=w) a8 ((fz s.gs).length+k) (.int .i64 x)
 exact { h with
  blk:=(a 1 (by decide) R h.ltR h.tR).trans h.blk
  st:=h.st.keep (a 2 (by decide)) (fun _ _ e=>e)
  da:=h.da.keep (a 5 (by decide)) (fun _ _ e=>e)
  fr:=by
   have:=h.fr.keep (a 4 (by decide)) (fun _ _ e=>e);rw [zP 0 s.gs (s.lo,s.bk) (s.lo.set k x,s.bk) rfl] at this;exact this
  ou:=h.ou.keep (a 6 (by decide)) (fun _ _ e=>e)
  lo:=by
   have aa:=h.lo.own;rw [a7] at aa;have J:=ownsRow_set aa ((fz s.gs).length+k) (.int .i64 x);rw [zW,List.set_append_right _ _ (by omega),show (fz s.gs).length+k - (fz s.gs).length=k from by omega] at J;refine ⟨?_,h.lo.mark⟩;rw [a7];simp only [List.length_append,List.length_set] at J ⊢;exact J
  below:=h.below.setCell (p:=⟨g,(fz s.gs).length+k,none⟩) ab _
  blo:=by rw [List.length_set];exact h.blo }
theorem eX.dataAt (h:eX B R c w0 w T v s):∃ a I,v.da = .slice a (ln s.data) I/\tH w a s.data/\(s.data=[]\/∃ g,a=some ⟨g,0,none⟩)/\∀ g,a=some ⟨g,0,none⟩->∀ j,w.frozen? ⟨g,j,none⟩=false:=by
 by_cases a2:0<ln s.data
 . obtain ⟨g,I,a7,ay,hmax,hBg,cM,ao,aQ,hcell⟩:=h.da.place a2
   refine ⟨_,I,a7,Or.inr ⟨g,0,rfl,fun i X=>by rw [Nat.zero_add];exact hcell i _ (tG _ i X)⟩,Or.inr ⟨g,rfl⟩,fun aj e j=>?_⟩
   have aw:g=aj:=by simpa using e
   subst aw;exact aQ j
 . obtain ⟨a,I,a7,_⟩:=h.da.form
   have a3:s.data=[]:=List.eq_nil_of_length_eq_zero (by omega);refine ⟨a,I,a7,Or.inl a3,Or.inl a3,fun g e j=>?_⟩
   rcases h.da.own.2 with ⟨G,_⟩ | ⟨aj,f,o,G,F,af,_⟩
   . rw [a7] at G;rw [e] at G;cases G
   . rw [a7,e] at G
     cases G;exact Lib.frozen_of_heap af j
end
theorem zY (B R:Nat) (c:Mc.Cfg) (w0:World) (s:Mc.St) (k x:Int) (w:World) (T:Nat->Nat) (v:Vs) (h:eX B R c w0 w T v s) :
 Calls prog 224 #[.pointer (some ⟨R,0,none⟩),v.da,.int .i64 k,.int .i64 x] w (eP B R c w0 (Mc.putDa k x s) fW):=by
 obtain ⟨a,I,a7,a1,ab,aQ⟩:=h.dataAt;obtain ⟨-, -, -, -, -, -, -, -, -, -, -, -,m,ag⟩:=h.cell;rw [a7]
 by_cases N:0<=k/\k<ln s.data
 . have A:Mc.putDa k x s = .ok () { s with data:=s.data.set k.toNat x }:=if_pos (by simp [Mc.inB];exact N)
   obtain ⟨a3,G⟩:=N;obtain ⟨n,rfl⟩:=Int.eq_ofNat_of_zero_le a3
   rcases ab with ab | ⟨g,rfl⟩
   . rw [ab] at G;simp at G;omega
   rcases a1 with a1 | ⟨aj,C,e,a1⟩
   . rw [a1] at G;simp at G;omega
   cases e
   refine (zU R g 0 (ln s.data) I n x _ w (by omega) (a1 n (by omega)) (aQ g rfl _)).mono ?_;rintro e r ⟨rfl,rfl⟩;refine eP.ok A rfl ⟨T,v,?_⟩;rw [Nat.zero_add,Int.toNat_natCast];exact h.cellDa a7 n x
 . have A:Mc.putDa k x s = .stop { s with en:=6 }:=if_neg (by simp [Mc.inB];omega)
   refine (zV R a (ln s.data) I k x _ w N m (ag 12)).mono ?_;rintro e r ⟨rfl,rfl⟩;exact eP.stop A rfl ⟨_,_,h.setEn 6⟩
def qZ (v:Vs) (s:Mc.St) (a:Option Addr):Prop:=
 s.lo=[]\/∃ g I,v.lo = .slice (some ⟨g,0,none⟩) (fz s.gs++s.lo).length I/\a=some ⟨g,(fz s.gs).length,none⟩
theorem qZ.cells {v:Vs} {a:Option Addr} (h:qZ v s a) (a8:eX B R c w0 w T v s):tH w a s.lo/\∀ g C,a=some ⟨g,C,none⟩->s.lo≠[]->∀ j,w.frozen? ⟨g,j,none⟩=false:=by
 rcases h with h | ⟨g,I,a7,rfl⟩
 . exact ⟨Or.inl h,fun _ _ _ q=>absurd h q⟩
 . by_cases a2:0<(fz s.gs++s.lo).length
   . obtain ⟨aj,f,D,ay,hmax,hBg,cM,ao,aQ,hcell⟩:=a8.lo.place a2
     rw [a7] at D
     cases D
     refine ⟨Or.inr ⟨g,_,rfl,fun i X=>?_⟩,fun aj C e _ j=>?_⟩
     . have:=hcell ((fz s.gs).length+i) _ (tG _ _ (by rw [List.length_append];omega))
       rw [List.getD_eq_getElem?_getD,List.getElem?_append_right (by omega),show (fz s.gs).length+i - (fz s.gs).length=i from by omega,← List.getD_eq_getElem?_getD] at this;exact this
     . cases e
       exact aQ j
   . have:s.lo=[]:=List.eq_nil_of_length_eq_zero (by rw [List.length_append] at a2;omega)
     exact ⟨Or.inl this,fun _ _ _ q=>absurd this q⟩
theorem zZ (x y:Value):∀ w:World,(Instr.field 231 (.agg #[x,y]) 0).run prog w = .ok x w:=fun _=>by kernel_rfl
theorem z6 (B R:Nat) (c:Mc.Cfg) (w0:World) (s:Mc.St) (w:World) (T:Nat->Nat) (v:Vs) (h:eX B R c w0 w T v s) :
 Calls prog 223 #[.pointer (some ⟨R,0,none⟩)] w fun e r=>∃ a I,e = .returned (.slice a (ln s.lo) I)/\qZ v s a/\eX B R c w0 r T v s/\Below w.heap.size w r:=by
 obtain ⟨q,E,K,fr,Y,y,ou⟩:=v;obtain ⟨a,I,a7,ay,hmax⟩:=h.lo.form;simp only at a7;subst a7;have b:=h.locals_le;have aq:Hid (eX B R c w0 w T ⟨q,E,.slice a (fz s.gs++s.lo).length I,fr,Y,y,ou⟩ s):=h
 have P:Hid (∀ w,eX B R c w0 w T ⟨q,E,.slice a (fz s.gs++s.lo).length I,fr,Y,y,ou⟩ s->Calls prog 276 #[.pointer (some ⟨R,0,none⟩)] w fun e r=>e = .returned (.agg #[.int .i64 ((fz s.gs).length:Nat),.int .i64 s.bk])/\Below w.heap.size w r):=fun w h=>wj B R c w0 s w T _ h
 obtain ⟨-, -, -,c3, -, -, -, -, -, -, -, -, -,ag⟩:=h.cell
 have t:w.cell? ⟨R,3,none⟩=some (.slice a ((fz s.gs).length+ln s.lo) I):=by rw [← List.length_append];exact c3
 have ak:=h.ltR;rw [List.length_append] at ay b;unfold maxLen at hmax;have a6:=zZ
 have aG:Hid (∀ g:Nat,a=some ⟨g,0,none⟩->qZ ⟨q,E,.slice a (fz s.gs++s.lo).length I,fr,Y,y,ou⟩ s (some ⟨g,(fz s.gs).length,none⟩)):=fun g e=>Or.inr ⟨g,I,by rw [e],rfl⟩
 have aF:Hid (ln s.lo=0->∀ V,qZ ⟨q,E,.slice a (fz s.gs++s.lo).length I,fr,Y,y,ou⟩ s V):=fun e V=>Or.inl (List.eq_nil_of_length_eq_zero e)
 have ar:Hid (a=none/\(fz s.gs).length=0/\ln s.lo=0\/∃ g,a=some ⟨g,0,none⟩):=by
  rcases h.lo.own.2 with ⟨G,J⟩ | ⟨g,f,o,G,_⟩
  . simp only [Value.slice.injEq] at G
    rw [List.length_append] at J;exact Or.inl ⟨G.1,by omega,by omega⟩
  . simp only [Value.slice.injEq] at G
    exact Or.inr ⟨g,G.1⟩
 clear h c3;generalize (fz s.gs).length=m at *;generalize (ln s.lo)=n at *
 rcases ar.out with ⟨rfl,rfl,rfl⟩ | ⟨g,rfl⟩<;>clear ar
 . go_enter func223,ntmps223
   go_wp2_with fail
   go_region_with (go_at_call 276;refine (P _ aq.drew).mono ?_;rintro e eq ⟨rfl,F⟩;have d:=(F.cell (p:=⟨R,3,none⟩) ak).trans t)
   all_goals
    go_wp2_with fail
    go_returns
    exact ⟨_,_,rfl,aF (by trivial) _,aq.drew.later F aq.hB,(Below.refl _ _).drew.trans F⟩
 . by_cases z:I=m
   . obtain rfl:n=0:=by omega
     go_enter func223,ntmps223;go_wp2_with fail
     go_region_with (go_at_call 276;refine (P _ aq.drew).mono ?_;rintro e eq ⟨rfl,F⟩;have d:=(F.cell (p:=⟨R,3,none⟩) ak).trans t)
     all_goals
      go_wp2_with fail
      go_returns
      exact ⟨_,_,rfl,aF (by trivial) _,aq.drew.later F aq.hB,(Below.refl _ _).drew.trans F⟩
   . have i:m<I:=by omega
     have aV:¬ (I - m=0):=by omega
     go_enter func223,ntmps223;go_wp2_with fail
     go_region_with (go_at_call 276;refine (P _ aq.drew).mono ?_;rintro e eq ⟨rfl,F⟩;have d:=(F.cell (p:=⟨R,3,none⟩) ak).trans t)
     all_goals
      go_wp2_with fail
      go_returns
      exact ⟨_,_,rfl,aG g rfl,aq.drew.later F aq.hB,(Below.refl _ _).drew.trans F⟩
open Go.RowKit
theorem ER (B R:Nat) (c:Mc.Cfg) (w0:World) (s:Mc.St) (k x:Int) (a:Option Addr) (I:Nat) (w:World) (T:Nat->Nat) (v:Vs) (h:eX B R c w0 w T v s) (aa:qZ v s a) :
 Calls prog 224 #[.pointer (some ⟨R,0,none⟩),.slice a (ln s.lo) I,.int .i64 k,.int .i64 x] w (eP B R c w0 (Mc.putLo k x s) fW):=by
 obtain ⟨a1,aQ⟩:=aa.cells h;obtain ⟨-, -, -, -, -, -, -, -, -, -, -, -,m,ag⟩:=h.cell
 by_cases N:0<=k/\k<ln s.lo
 . have A:Mc.putLo k x s = .ok () { s with lo:=s.lo.set k.toNat x }:=if_pos (by simp [Mc.inB];exact N)
   obtain ⟨a3,G⟩:=N;obtain ⟨n,rfl⟩:=Int.eq_ofNat_of_zero_le a3
   have aV:s.lo≠[]:=fun e=>by rw [e] at G;simp at G;omega
   rcases aa with aa | ⟨g,cap0,a7,rfl⟩
   . exact absurd aa aV
   rcases a1 with a1 | ⟨aj,C,e,a1⟩
   . exact absurd a1 aV
   cases e
   refine (zU R g _ (ln s.lo) I n x _ w (by omega) (a1 n (by omega)) (aQ g _ rfl aV _)).mono ?_;rintro e r ⟨rfl,rfl⟩;refine eP.ok A rfl ⟨T,v,?_⟩;rw [Int.toNat_natCast];exact h.cellLo a7 n x
 . have A:Mc.putLo k x s = .stop { s with en:=6 }:=if_neg (by simp [Mc.inB];omega)
   refine (zV R a (ln s.lo) I k x _ w N m (ag 12)).mono ?_;rintro e r ⟨rfl,rfl⟩;exact eP.stop A rfl ⟨_,_,h.setEn 6⟩
theorem bind_ok {O:Mc.Res α} {a:α} (f:α->Mc.St->Mc.Res l) (h:O = .ok a s):O.bind f=f a s:=by rw [h];rfl
theorem jP {O:Mc.Res α} (f:α->Mc.St->Mc.Res l) (h:O = .stop s):O.bind f = .stop s:=by rw [h];rfl
theorem eP.of_stop {O:Mc.Res α} {g:α->Value} (W:O = .stop s) (h:fb B R c w0 r s):eP B R c w0 O g (.panicked (kr s.en)) r:=eP.stop W rfl h
theorem fb.get (h:fb B R c w0 w s):(∃ q,w.cell? ⟨R,12,none⟩=some q)/\w.frozen? ⟨R,12,none⟩=false/\R<w.heap.size:=by
 obtain ⟨T,v,h⟩:=h;exact ⟨⟨_,h.cell.2.2.2.2.2.2.2.2.2.2.2.2.1⟩,h.cell.2.2.2.2.2.2.2.2.2.2.2.2.2 12,h.ltR⟩
theorem fb.setEn (h:fb B R c w0 w s) (e:Int):fb B R c w0 (w.setCell ⟨R,12,none⟩ (.int .i64 e)) { s with en:=e }:=by
 obtain ⟨T,v,h⟩:=h;exact ⟨T,v,h.setEn e⟩
theorem sj (e:Int) (w:World) (h:fb B R c w0 w s) :
 Calls prog 180 #[.pointer (some ⟨R,0,none⟩),.int .i64 e] w fun d r=>d = .panicked (kr e)/\fb B R c w0 r { s with en:=e }:=by
 obtain ⟨⟨q,Q⟩,ag,_⟩:=h.get;refine (stop_any R e q w Q ag).mono ?_;rintro d r ⟨rfl,rfl⟩;exact ⟨rfl,h.setEn e⟩
theorem pg (b:Bool) (w:World) (F:b=false) (h:fb B R c w0 w s) :
 Calls prog 181 #[.pointer (some ⟨R,0,none⟩),.bool b] w fun d r=>d = .panicked (kr 6)/\fb B R c w0 r { s with en:=6 }:=by
 obtain ⟨⟨q,Q⟩,ag,_⟩:=h.get;refine (qg R b q w F Q ag).mono ?_;rintro d r ⟨rfl,rfl⟩;exact ⟨rfl,h.setEn 6⟩
theorem eP.parts {O:Mc.Res α} {g:α->Value} (h:eP B R c w0 O g e r) :
 (∃ a s,Hid (O = .ok a s)/\e = .returned (g a)/\Hid (fb B R c w0 r s))\/∃ s,Hid (O = .stop s)/\e = .panicked (kr s.en)/\Hid (fb B R c w0 r s):=by
 cases O with
 | ok a s=>exact Or.inl ⟨a,s,rfl,h.1,h.2⟩
 | stop s=>exact Or.inr ⟨s,rfl,h.1,h.2⟩
theorem j8.parts {L D:Value} {O:Mc.Res α} {g:α->Value} (h:j8 B R c w0 L D O g e r) :
 (∃ a s,Hid (O = .ok a s)/\e = .returned (g a)/\Hid (∃ T v,eX B R c w0 r T v s/\v.lo=L/\v.da=D))\/∃ s,Hid (O = .stop s)/\e = .panicked (kr s.en)/\Hid (fb B R c w0 r s):=by
 cases O with
 | ok a s=>exact Or.inl ⟨a,s,rfl,h.1,h.2⟩
 | stop s=>exact Or.inr ⟨s,rfl,h.1,h.2⟩
theorem ES (B R:Nat) (c:Mc.Cfg) (w0:World) (s:Mc.St) (a b:Int) (w:World) (h:fb B R c w0 w s) :
 Calls prog 226 #[.pointer (some ⟨R,0,none⟩),.int .i64 a,.int .i64 b] w (eP B R c w0 (Mc.index a b s) fW):=by
 have aq:Hid (fb B R c w0 w s):=h;clear h;go_enter func226,ntmps226;go_wp2_with fail;refine (pe B R c w0 s _ aq).mono ?_;intro e eq ah
 rcases ah.parts with ⟨i,D,z,rfl,Hm⟩ | ⟨D,z,rfl,Hm⟩<;>clear ah<;>simp only [intV]
 . have A:Hid (Mc.index a b s=if i<0\/b<=i then Mc.halt 2 D else Mc.push (wrap64 (a+i)) D):=bind_ok _ z.out
   clear z
   by_cases a3:i<0\/b<=i
   . have O:Hid (Mc.index a b s = .stop { D with en:=2 }):=A.trans (if_pos a3)
     have d:i<0\/0<=i/\b<=i:=by omega
     clear a3
     rcases d with a3 | ⟨a3,G⟩
     all_goals
      go_wp2_with fail;refine (sj 2 _ Hm.out).mono ?_;rintro e w2 ⟨rfl,a8⟩;go_wp2_with fail;exact ⟨rfl,eP.stop O rfl a8⟩
   . have O:Hid (Mc.index a b s=Mc.push (wrap64 (a+i)) D):=A.trans (if_neg a3)
     have G:¬ i<0:=fun h=>a3 (Or.inl h)
     have J:¬ b<=i:=fun h=>a3 (Or.inr h)
     clear a3 A;go_wp2_with fail;refine (n9 B R c w0 D _ _ Hm.out).mono ?_;intro e w2 ah
     rcases ah.parts with ⟨u,b6,z,rfl,Hm2⟩ | ⟨b6,z,rfl,Hm2⟩<;>clear ah<;>simp only [fW]
     . go_wp2_with fail
       go_returns
       exact eP.ok (O.trans z.out) rfl Hm2.out
     . go_wp2_with fail
       exact ⟨rfl,eP.of_stop (O.trans z.out) Hm2.out⟩
 . go_wp2_with fail
   exact ⟨rfl,eP.of_stop (jP _ z.out) Hm.out⟩
theorem ET (B R:Nat) (c:Mc.Cfg) (w0:World) (s:Mc.St) (p:Int) (w:World) (h:fb B R c w0 w s) :
 Calls prog 228 #[.pointer (some ⟨R,0,none⟩),.int .i64 p] w (eP B R c w0 (Mc.math p s) fW):=by
 have aq:Hid (fb B R c w0 w s):=h;clear h
 cases M:Mc.isOp p with
 | false=>
   have A:Hid (Mc.math p s = .stop { s with en:=6 }):=if_neg (by simp [M]);go_enter func228,ntmps228
   go_wp2_with (go_at_call 277;refine (zM _ _).mono ?_;rintro e r ⟨rfl,rfl⟩)
   refine (pg _ _ (by first | rfl | exact M) aq).mono ?_;rintro e w2 ⟨rfl,a8⟩;go_wp2_with fail;exact ⟨rfl,eP.stop A rfl a8⟩
 | true=>
   have A:Hid (Mc.math p s=(Mc.pop s).bind fun V s=>(Mc.pop s).bind fun a s=>match Mc.reck p a V with
    | some n=>Mc.push n s
    | none=>Mc.halt 1 s):=if_pos M
   go_enter func228,ntmps228
   go_wp2_with (go_at_call 277;refine (zM _ _).mono ?_;rintro e r ⟨rfl,rfl⟩)
   refine (lc _ _ _ (by first | rfl | exact M)).mono ?_;rintro e r ⟨rfl,rfl⟩;go_wp2_with fail;refine (pe B R c w0 s _ aq).mono ?_;intro e eq ah
   rcases ah.parts with ⟨V,D,z,rfl,Hm⟩ | ⟨D,z,rfl,Hm⟩<;>clear ah<;>simp only [intV]
   . have g:=hid (A.trans (bind_ok _ z.out))
     clear A z;go_wp2_with fail;refine (pe B R c w0 D _ Hm.out).mono ?_;intro e w2 ah
     rcases ah.parts with ⟨a,b6,z,rfl,Hm2⟩ | ⟨b6,z,rfl,Hm2⟩<;>clear ah<;>simp only [intV]
     . have O:=hid (g.trans (bind_ok _ z.out))
       clear g z;go_wp2_with fail;refine (EH _ _ _ _).mono ?_;rintro e eC ⟨rfl,rfl⟩
       cases W:Mc.reck p a V with
       | none=>
         have aD:Hid (Mc.math p s = .stop { b6 with en:=1 }):=by
          have:=O.out;rw [W] at this;exact this
         clear W O;simp only [reckV];go_wp2_with fail;refine (sj 1 _ Hm2.out).mono ?_;rintro e w2 ⟨rfl,a8⟩;go_wp2_with fail;exact ⟨rfl,eP.stop aD rfl a8⟩
       | some n=>
         have aD:Hid (Mc.math p s=Mc.push n b6):=by
          have:=O.out;rw [W] at this;exact this
         clear W O;simp only [reckV];go_wp2_with fail;refine (n9 B R c w0 b6 _ _ Hm2.out).mono ?_;intro e w2 ah
         rcases ah.parts with ⟨u,fX,z,rfl,Hm3⟩ | ⟨fX,z,rfl,Hm3⟩<;>clear ah<;>simp only [fW]
         . go_wp2_with fail
           go_returns
           exact eP.ok (aD.trans z.out) rfl Hm3.out
         . go_wp2_with fail
           exact ⟨rfl,eP.of_stop (aD.trans z.out) Hm3.out⟩
     . go_wp2_with fail
       exact ⟨rfl,eP.of_stop (g.trans (jP _ z.out)) Hm2.out⟩
   . go_wp2_with fail
     exact ⟨rfl,eP.of_stop (A.trans (jP _ z.out)) Hm.out⟩
end Mx
end Go.Proofs.YtndkhgakfodldaaGreatDoor
