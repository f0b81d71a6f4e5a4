import Derived.Test.YtndkhgakfodldaaGreatDoorMxMem
import Derived.Deep.RegionWith
set_option maxRecDepth 100000
set_option maxHeartbeats 800000
open Go.Proofs.Tryz
namespace Go.Proofs.YtndkhgakfodldaaGreatDoor
theorem QO{P:Prop}(h:P:=by
 go_wp2_with fail
 go_region_with (go_at_call 276;refine (aM _ L.drew).mono ?_;rintro e dk ⟨rfl,I⟩;have b:=(I.cell (p:=⟨R,3,none⟩) a6).trans W)
 all_goals
  go_wp2_with fail
  go_returns
  exact ⟨_,_,rfl,aV (by trivial) _,L.drew.later I L.hB,(Below.refl _ _).drew.trans I⟩):P:=h
namespace Mx
open Go.RowKit
variable {B R q g:Nat} {T:Nat->Nat} {c:Mc.Cfg} {e:Ending} {s:Mc.St} {w G w0:World} {α β:Type}
theorem Bg (gs:List (List Int × Int)) (f:List Int × Int):(iC 0 (gs++[f]))[gs.length*2]? = some (.int .i64 ((eB gs).length:Nat))/\(iC 0 (gs++[f]))[gs.length*2+1]? = some (.int .i64 f.2):=by
 rw [rz,Nat.zero_add,← ux 0 gs]
 constructor
 . rw [List.getElem?_append_right (Nat.le_refl _),Nat.sub_self];rfl
 . rw [List.getElem?_append_right N8,show (iC 0 gs).length+1 - (iC 0 gs).length=1 from N8];rfl
theorem wY (B R:Nat) (c:Mc.Cfg) (w0:World) (s:Mc.St) (w:World) (T:Nat->Nat) (v:Vs) (h:ea B R c w0 w T v s) :
 Calls prog 276 #[.pointer (some ⟨R,0,none⟩)] w fun e G=>e = .returned (.agg #[.int .i64 ((eB s.gs).length:Nat),.int .i64 s.bk])/\Below w.heap.size w G:=by
 obtain ⟨aA,ad,D,fr,ai,l,ou⟩:=v;obtain ⟨g,q,af,hcap,hmax,hBg,hgl,c2,bY,hcell⟩:=h.fr.place N8;simp only at af;subst af;obtain ⟨-, -, -, -,K, -, -, -, -, -, -, -, -,Y⟩:=h.cell;simp only at K;have ck:=hcell _ _ (Bg s.gs (s.lo,s.bk)).1;have a4:=hcell _ _ (Bg s.gs (s.lo,s.bk)).2;have i:=h.bgs;have a6:=h.ltR;clear h hcell;generalize s.gs.length=k at *;generalize (eB s.gs).length=m at *;unfold maxLen at hmax;go_enter func276,ntmps276;go_wp2_with fail
 go_region
 go_wp2_with fail;exact bodyPost_ret (v:=.agg #[.int .i64 (m:Nat),.int .i64 s.bk]) (by simp [results,results276,go_sem]) rfl ⟨rfl,((Below.refl _ _).alloc (Nat.le_refl _) _).drew⟩
def uA (w:World) (a:Option Addr) (l:List Int):Prop:=
 l=[]\/∃ g C,a=some ⟨g,C,none⟩/\∀ i,i<l.length->w.cell? ⟨g,C+i,none⟩=some (.int .i64 (l.getD i 0))
theorem wZ (B R:Nat) (c:Mc.Cfg) (w0:World) (s:Mc.St) (a:Option Addr) (q:Nat) (l:List Int) (x:Int) (w:World) (h:ed B R c w0 w s) (W:uA w a l) (X:l.length<=100000) :
 Calls prog 222 #[.pointer (some ⟨R,0,none⟩),.slice a l.length q,.int .i64 x] w (dM B R c w0 (Mc.getL l x s) intV):=by
 obtain ⟨T,v,h⟩:=h;have L:Hid (ea B R c w0 w T v s):=h;obtain ⟨-, -, -, -, -, -, -, -, -, -, -, -,d,Y⟩:=h.cell;clear h
 by_cases ab:0<=x
 . by_cases F:x<l.length
   . have A:Hid (Mc.getL l x s = .ok (l.getD x.toNat 0) s):=if_pos (by simp [Mc.inB,ab,F])
     obtain ⟨k,rfl⟩:=Int.eq_ofNat_of_zero_le ab;rw [Int.toNat_natCast] at A
     rcases W with W | ⟨g,C,rfl,W⟩
     . subst W;simp at F;omega
     have S:=W k N8;generalize l.getD k 0=a3 at *;generalize l.length=n at *;clear W;go_enter func222,ntmps222;go_wp2_with fail;refine (k0 _ _ _ Ol).mono ?_;rintro e G ⟨rfl,rfl⟩;exact SQ
   . exact QU
 . exact QU
theorem Bh (R:Nat) (g C n q k:Nat) (x:Int) (y:Value) (w:World) (N:k<n) (a4:w.cell? ⟨g,C+k,none⟩=some y) (b2:w.frozen? ⟨g,C+k,none⟩=false) :
 Calls prog 224 #[.pointer (some ⟨R,0,none⟩),.slice (some ⟨g,C,none⟩) n q,.int .i64 k,.int .i64 x] w fun e G=>e = .returned (.tuple #[])/\G=w.setCell ⟨g,C+k,none⟩ (.int .i64 x):=by
 go_enter func224,ntmps224;go_wp2_with fail;refine (k0 _ _ _ Ol).mono ?_;rintro e G ⟨rfl,rfl⟩;go_wp2_with fail
 go_returns
 exact ⟨rfl,rfl⟩
theorem Bi (R:Nat) (a:Option Addr) (n q:Nat) (k x:Int) (y:Value) (w:World) (N:¬ (0<=k/\k<n)) (d:w.cell? ⟨R,12,none⟩=some y) (Y:w.frozen? ⟨R,12,none⟩=false) :
 Calls prog 224 #[.pointer (some ⟨R,0,none⟩),.slice a n q,.int .i64 k,.int .i64 x] w fun e G=>e = .panicked (kf 6)/\G=w.setCell ⟨R,12,none⟩ (.int .i64 6):=by
 by_cases ab:0<=k
 . have F:¬ k<n:=fun h=>N ⟨ab,h⟩
   clear N;exact RM
 . clear N
   exact RM
theorem ownsRow_set {n:Nat} {ao:List Value} (h:w.ownsRow B 3 1 (.slice (some ⟨g,0,none⟩) n q) n ao) (k:Nat) (u:Value):(w.setCell ⟨g,k,none⟩ u).ownsRow B 3 1 (.slice (some ⟨g,0,none⟩) n q) n (ao.set k u):=by
 refine ⟨by rw [List.length_set];exact h.1,?_⟩
 rcases h.2 with ⟨F,_⟩ | ⟨ac,f,o,F,I,ak,U,aa,aB,bj⟩
 . cases F
 . cases F
   refine Or.inr ⟨g,q,o.setIfInBounds k u,rfl,I,heap_set ak u,U,aa,by rw [Array.size_setIfInBounds];exact aB,?_⟩;rw [Array.toList_setIfInBounds,List.take_set,bj]
theorem Bj (l:List Int) (k:Nat) (x:Int):(ints l).set k (.int .i64 x)=ints (l.set k x):=by simp [ints,List.map_set]
section
variable {B R:Nat} {c:Mc.Cfg} {w0 w:World} {T:Nat->Nat} {v:Vs} {s:Mc.St}
theorem Bk {m:Nat} (a1:T g=m) (k:Nat) (u:Value):∀ a,a≠m->∀ j,j<w.heap.size->T j=a->(w.setCell ⟨g,k,none⟩ u).heap[j]? = w.heap[j]?:=fun a a7 j _ e=>
 Below.heap_setCell w ⟨g,k,none⟩ u j (fun a0=>by have aI:j=g:=a0;subst aI;exact a7 (e.symm.trans a1))
theorem ea.cellDa (h:ea B R c w0 w T v s) (af:v.da = .slice (some ⟨g,0,none⟩) s.data.length q) (k:Nat) (x:Int):ea B R c w0 (w.setCell ⟨g,k,none⟩ (.int .i64 x)) T v { s with data:=s.data.set k x }:=by
 have a1:T g=5:=h.da.mark g Pf;have aF:B<=g:=(h.da.own.lt g Pf).1;have a:=Bk (w:=w) a1 k (.int .i64 x)
 exact { h with
  blk:=(a 1 Oa R h.ltR h.tR).trans h.blk
  st:=h.st.keep (a 2 Oa) (fun _ _ e=>e)
  lo:=h.lo.keep (a 3 Oa) (fun _ _ e=>e)
  fr:=h.fr.keep (a 4 Oa) (fun _ _ e=>e)
  ou:=h.ou.keep (a 6 Oa) (fun _ _ e=>e)
  da:=by
   have ap:=h.da.own;rw [af] at ap;have J:=ownsRow_set ap k (.int .i64 x);rw [Bj] at J;refine ⟨?_,h.da.mark⟩;rw [af,List.length_set];exact J
  below:=h.below.setCell (p:=⟨g,k,none⟩) aF _
  bda:=by rw [List.length_set];exact h.bda }
theorem ea.cellLo (h:ea B R c w0 w T v s) (af:v.lo = .slice (some ⟨g,0,none⟩) (eB s.gs++s.lo).length q) (k:Nat) (x:Int):ea B R c w0 (w.setCell ⟨g,(eB s.gs).length+k,none⟩ (.int .i64 x)) T v { s with lo:=s.lo.set k x }:=by
 have a1:T g=3:=h.lo.mark g Pf;have aF:B<=g:=(h.lo.own.lt g Pf).1;have a:=Bk (w:=w) a1 ((eB s.gs).length+k) (.int .i64 x)
 exact { h with
  blk:=(a 1 Oa R h.ltR h.tR).trans h.blk
  st:=h.st.keep (a 2 Oa) (fun _ _ e=>e)
  da:=h.da.keep (a 5 Oa) (fun _ _ e=>e)
  fr:=by
   have:=h.fr.keep (a 4 Oa) (fun _ _ e=>e);rw [Bd 0 s.gs (s.lo,s.bk) (s.lo.set k x,s.bk) rfl] at this;exact this
  ou:=h.ou.keep (a 6 Oa) (fun _ _ e=>e)
  lo:=by
   have ap:=h.lo.own;rw [af] at ap;have J:=ownsRow_set ap ((eB s.gs).length+k) (.int .i64 x);rw [Bj,List.set_append_right _ _ N8,show (eB s.gs).length+k - (eB s.gs).length=k from N8] at J;refine ⟨?_,h.lo.mark⟩;rw [af];simp only [List.length_append,List.length_set] at J ⊢;exact J
  below:=h.below.setCell (p:=⟨g,(eB s.gs).length+k,none⟩) aF _
  blo:=by rw [List.length_set];exact h.blo }
theorem ea.dataAt (h:ea B R c w0 w T v s):∃ a q,v.da = .slice a s.data.length q/\uA w a s.data/\(s.data=[]\/∃ g,a=some ⟨g,0,none⟩)/\∀ g,a=some ⟨g,0,none⟩->∀ j,w.frozen? ⟨g,j,none⟩=false:=by
 by_cases X:0<s.data.length
 . obtain ⟨g,q,af,hcap,hmax,hBg,hgl,c2,bY,hcell⟩:=h.da.place X
   refine ⟨_,q,af,Or.inr ⟨g,0,rfl,fun i V=>by rw [Nat.zero_add];exact hcell i _ (uz _ i V)⟩,Or.inr ⟨g,rfl⟩,fun ac e j=>?_⟩
   have aJ:g=ac:=by simpa using e
   subst aJ;exact bY j
 . obtain ⟨a,q,af,_⟩:=h.da.form
   have ab:s.data=[]:=List.eq_nil_of_length_eq_zero N8;refine ⟨a,q,af,Or.inl ab,Or.inl ab,fun g e j=>?_⟩
   rcases h.da.own.2 with ⟨F,_⟩ | ⟨ac,f,o,F,I,ak,_⟩
   . rw [af] at F;rw [e] at F;cases F
   . rw [af,e] at F
     cases F;exact Lib.frozen_of_heap ak j
end
theorem Bl (B R:Nat) (c:Mc.Cfg) (w0:World) (s:Mc.St) (k x:Int) (w:World) (T:Nat->Nat) (v:Vs) (h:ea B R c w0 w T v s) :
 Calls prog 224 #[.pointer (some ⟨R,0,none⟩),v.da,.int .i64 k,.int .i64 x] w (dM B R c w0 (Mc.putDa k x s) e0):=by
 obtain ⟨a,q,af,W,a7,bY⟩:=h.dataAt;obtain ⟨-, -, -, -, -, -, -, -, -, -, -, -,d,Y⟩:=h.cell;rw [af]
 by_cases N:0<=k/\k<s.data.length
 . have A:Mc.putDa k x s = .ok () { s with data:=s.data.set k.toNat x }:=if_pos (by simp [Mc.inB];exact N)
   obtain ⟨ab,F⟩:=N;obtain ⟨n,rfl⟩:=Int.eq_ofNat_of_zero_le ab
   rcases a7 with a7 | ⟨g,rfl⟩
   . rw [a7] at F;simp at F;omega
   rcases W with W | ⟨ac,C,e,W⟩
   . rw [W] at F;simp at F;omega
   cases e
   refine (Bh R g 0 s.data.length q n x _ w N8 (W n N8) (bY g rfl _)).mono ?_;rintro e G ⟨rfl,rfl⟩;refine dM.ok A rfl ⟨T,v,?_⟩;rw [Nat.zero_add,Int.toNat_natCast];exact h.cellDa af n x
 . have A:Mc.putDa k x s = .stop { s with en:=6 }:=if_neg P5
   refine (Bi R a s.data.length q k x _ w N d (Y 12)).mono ?_;exact S1
def rC (v:Vs) (s:Mc.St) (a:Option Addr):Prop:=
 s.lo=[]\/∃ g q,v.lo = .slice (some ⟨g,0,none⟩) (eB s.gs++s.lo).length q/\a=some ⟨g,(eB s.gs).length,none⟩
theorem rC.cells {v:Vs} {a:Option Addr} (h:rC v s a) (a1:ea B R c w0 w T v s):uA w a s.lo/\∀ g C,a=some ⟨g,C,none⟩->s.lo≠[]->∀ j,w.frozen? ⟨g,j,none⟩=false:=by
 rcases h with h | ⟨g,q,af,rfl⟩
 . exact ⟨Or.inl h,fun _ _ _ a5=>absurd h a5⟩
 . by_cases X:0<(eB s.gs++s.lo).length
   . obtain ⟨ac,f,n,hcap,hmax,hBg,hgl,c2,bY,hcell⟩:=a1.lo.place X
     rw [af] at n
     cases n
     refine ⟨Or.inr ⟨g,_,rfl,fun i V=>?_⟩,fun ac C e _ j=>?_⟩
     . have:=hcell ((eB s.gs).length+i) _ (uz _ _ PV)
       rw [List.getD_eq_getElem?_getD,List.getElem?_append_right N8,show (eB s.gs).length+i - (eB s.gs).length=i from N8,← List.getD_eq_getElem?_getD] at this;exact this
     . cases e
       exact bY j
   . have:s.lo=[]:=List.eq_nil_of_length_eq_zero (by rw [List.length_append] at X;omega)
     exact ⟨Or.inl this,fun _ _ _ a5=>absurd this a5⟩
theorem Bm (x y:Value):∀ w:World,(Instr.field 231 (.agg #[x,y]) 0).run prog w = .ok x w:=fun _=>by kernel_rfl
theorem Bn (B R:Nat) (c:Mc.Cfg) (w0:World) (s:Mc.St) (w:World) (T:Nat->Nat) (v:Vs) (h:ea B R c w0 w T v s) :
 Calls prog 223 #[.pointer (some ⟨R,0,none⟩)] w fun e G=>∃ a q,e = .returned (.slice a s.lo.length q)/\rC v s a/\ea B R c w0 G T v s/\Below w.heap.size w G:=by
 obtain ⟨aA,ad,D,fr,ai,l,ou⟩:=v;obtain ⟨a,q,af,hcap,hmax⟩:=h.lo.form;simp only at af;subst af;have aa:=h.locals_le;have L:Hid (ea B R c w0 w T ⟨aA,ad,.slice a (eB s.gs++s.lo).length q,fr,ai,l,ou⟩ s):=h
 have aM:Hid (∀ w,ea B R c w0 w T ⟨aA,ad,.slice a (eB s.gs++s.lo).length q,fr,ai,l,ou⟩ s->Calls prog 276 #[.pointer (some ⟨R,0,none⟩)] w fun e G=>e = .returned (.agg #[.int .i64 ((eB s.gs).length:Nat),.int .i64 s.bk])/\Below w.heap.size w G):=fun w h=>wY B R c w0 s w T _ h
 obtain ⟨-, -, -,c3, -, -, -, -, -, -, -, -, -,Y⟩:=h.cell
 have W:w.cell? ⟨R,3,none⟩=some (.slice a ((eB s.gs).length+s.lo.length) q):=by rw [← List.length_append];exact c3
 have a6:=h.ltR;rw [List.length_append] at hcap aa;unfold maxLen at hmax;have Z:=Bm
 have P:Hid (∀ g:Nat,a=some ⟨g,0,none⟩->rC ⟨aA,ad,.slice a (eB s.gs++s.lo).length q,fr,ai,l,ou⟩ s (some ⟨g,(eB s.gs).length,none⟩)):=fun g e=>Or.inr ⟨g,q,by rw [e],rfl⟩
 have aV:Hid (s.lo.length=0->∀ p,rC ⟨aA,ad,.slice a (eB s.gs++s.lo).length q,fr,ai,l,ou⟩ s p):=fun e p=>Or.inl (List.eq_nil_of_length_eq_zero e)
 have aR:Hid (a=none/\(eB s.gs).length=0/\s.lo.length=0\/∃ g,a=some ⟨g,0,none⟩):=by
  rcases h.lo.own.2 with ⟨F,J⟩ | ⟨g,f,o,F,_⟩
  . simp only [Value.slice.injEq] at F
    rw [List.length_append] at J;exact Or.inl ⟨F.1,N8,N8⟩
  . simp only [Value.slice.injEq] at F
    exact Or.inr ⟨g,F.1⟩
 clear h c3;generalize (eB s.gs).length=m at *;generalize s.lo.length=n at *
 rcases aR.out with ⟨rfl,rfl,rfl⟩ | ⟨g,rfl⟩<;>clear aR
 . go_enter func223,ntmps223
   exact QO
 . by_cases bx:q=m
   . obtain rfl:n=0:=by omega
     go_enter func223,ntmps223;exact QO
   . have d:m<q:=by omega
     have aX:¬ (q - m=0):=N8
     go_enter func223,ntmps223;go_wp2_with fail
     go_region_with (go_at_call 276;refine (aM _ L.drew).mono ?_;rintro e dk ⟨rfl,I⟩;have b:=(I.cell (p:=⟨R,3,none⟩) a6).trans W)
     all_goals
      go_wp2_with fail
      go_returns
      exact ⟨_,_,rfl,P g rfl,L.drew.later I L.hB,(Below.refl _ _).drew.trans I⟩
open Go.RowKit
theorem Hj (B R:Nat) (c:Mc.Cfg) (w0:World) (s:Mc.St) (k x:Int) (a:Option Addr) (q:Nat) (w:World) (T:Nat->Nat) (v:Vs) (h:ea B R c w0 w T v s) (ap:rC v s a) :
 Calls prog 224 #[.pointer (some ⟨R,0,none⟩),.slice a s.lo.length q,.int .i64 k,.int .i64 x] w (dM B R c w0 (Mc.putLo k x s) e0):=by
 obtain ⟨W,bY⟩:=ap.cells h;obtain ⟨-, -, -, -, -, -, -, -, -, -, -, -,d,Y⟩:=h.cell
 by_cases N:0<=k/\k<s.lo.length
 . have A:Mc.putLo k x s = .ok () { s with lo:=s.lo.set k.toNat x }:=if_pos (by simp [Mc.inB];exact N)
   obtain ⟨ab,F⟩:=N;obtain ⟨n,rfl⟩:=Int.eq_ofNat_of_zero_le ab
   have aX:s.lo≠[]:=fun e=>by rw [e] at F;simp at F;omega
   rcases ap with ap | ⟨g,cap0,af,rfl⟩
   . exact absurd ap aX
   rcases W with W | ⟨ac,C,e,W⟩
   . exact absurd W aX
   cases e
   refine (Bh R g _ s.lo.length q n x _ w N8 (W n N8) (bY g _ rfl aX _)).mono ?_;rintro e G ⟨rfl,rfl⟩;refine dM.ok A rfl ⟨T,v,?_⟩;rw [Int.toNat_natCast];exact h.cellLo af n x
 . have A:Mc.putLo k x s = .stop { s with en:=6 }:=if_neg P5
   refine (Bi R a s.lo.length q k x _ w N d (Y 12)).mono ?_;exact S1
theorem bind_ok {r:Mc.Res α} {a:α} (f:α->Mc.St->Mc.Res β) (h:r = .ok a s):r.bind f=f a s:=by rw [h];rfl
theorem jB {r:Mc.Res α} (f:α->Mc.St->Mc.Res β) (h:r = .stop s):r.bind f = .stop s:=by rw [h];rfl
theorem dM.of_stop {r:Mc.Res α} {rep:α->Value} (Q:r = .stop s) (h:ed B R c w0 G s):dM B R c w0 r rep (.panicked (kf s.en)) G:=dM.stop Q rfl h
theorem ed.get (h:ed B R c w0 w s):(∃ x,w.cell? ⟨R,12,none⟩=some x)/\w.frozen? ⟨R,12,none⟩=false/\R<w.heap.size:=by
 obtain ⟨T,v,h⟩:=h;exact ⟨⟨_,h.cell.2.2.2.2.2.2.2.2.2.2.2.2.1⟩,h.cell.2.2.2.2.2.2.2.2.2.2.2.2.2 12,h.ltR⟩
theorem ed.setEn (h:ed B R c w0 w s) (e:Int):ed B R c w0 (w.setCell ⟨R,12,none⟩ (.int .i64 e)) { s with en:=e }:=by
 obtain ⟨T,v,h⟩:=h;exact ⟨T,v,h.setEn e⟩
theorem sS (e:Int) (w:World) (h:ed B R c w0 w s) :
 Calls prog 180 #[.pointer (some ⟨R,0,none⟩),.int .i64 e] w fun d G=>d = .panicked (kf e)/\ed B R c w0 G { s with en:=e }:=by
 obtain ⟨⟨x,S⟩,Y,_⟩:=h.get;refine (stop_any R e x w S Y).mono ?_;rintro d G ⟨rfl,rfl⟩;exact ⟨rfl,h.setEn e⟩
theorem po (b:Bool) (w:World) (I:b=false) (h:ed B R c w0 w s) :
 Calls prog 181 #[.pointer (some ⟨R,0,none⟩),.bool b] w fun d G=>d = .panicked (kf 6)/\ed B R c w0 G { s with en:=6 }:=by
 obtain ⟨⟨x,S⟩,Y,_⟩:=h.get;refine (qm R b x w I S Y).mono ?_;rintro d G ⟨rfl,rfl⟩;exact ⟨rfl,h.setEn 6⟩
theorem dM.parts {r:Mc.Res α} {rep:α->Value} (h:dM B R c w0 r rep e G) :
 (∃ a s,Hid (r = .ok a s)/\e = .returned (rep a)/\Hid (ed B R c w0 G s))\/∃ s,Hid (r = .stop s)/\e = .panicked (kf s.en)/\Hid (ed B R c w0 G s):=by
 exact Sc
theorem jX.parts {L D:Value} {r:Mc.Res α} {rep:α->Value} (h:jX B R c w0 L D r rep e G) :
 (∃ a s,Hid (r = .ok a s)/\e = .returned (rep a)/\Hid (∃ T v,ea B R c w0 G T v s/\v.lo=L/\v.da=D))\/∃ s,Hid (r = .stop s)/\e = .panicked (kf s.en)/\Hid (ed B R c w0 G s):=by
 exact Sc
theorem Hk (B R:Nat) (c:Mc.Cfg) (w0:World) (s:Mc.St) (a b:Int) (w:World) (h:ed B R c w0 w s) :
 Calls prog 226 #[.pointer (some ⟨R,0,none⟩),.int .i64 a,.int .i64 b] w (dM B R c w0 (Mc.index a b s) e0):=by
 have L:Hid (ed B R c w0 w s):=h;clear h;go_enter func226,ntmps226;go_wp2_with fail;refine (pn B R c w0 s _ L).mono ?_;intro e dk ar
 rcases ar.parts with ⟨i,ay,z,rfl,Hm⟩ | ⟨ay,z,rfl,Hm⟩<;>clear ar<;>simp only [intV]
 . have A:Hid (Mc.index a b s=if i<0\/b<=i then Mc.halt 2 ay else Mc.push (wrap64 (a+i)) ay):=bind_ok _ z.out
   clear z
   by_cases ab:i<0\/b<=i
   . have g:Hid (Mc.index a b s = .stop { ay with en:=2 }):=A.trans (if_pos ab)
     have d:i<0\/0<=i/\b<=i:=N8
     clear ab
     rcases d with ab | ⟨ab,F⟩
     all_goals
      go_wp2_with fail;refine (sS 2 _ Hm.out).mono ?_;exact SM
   . have g:Hid (Mc.index a b s=Mc.push (wrap64 (a+i)) ay):=A.trans (if_neg ab)
     have F:¬ i<0:=fun h=>ab (Or.inl h)
     have J:¬ b<=i:=fun h=>ab (Or.inr h)
     clear ab A;go_wp2_with fail;refine (oo B R c w0 ay _ _ Hm.out).mono ?_;intro e w2 ar
     rcases ar.parts with ⟨u,b1,z,rfl,Hm2⟩ | ⟨b1,z,rfl,Hm2⟩<;>clear ar<;>simp only [e0]
     . go_wp2_with fail
       go_returns
       exact dM.ok (g.trans z.out) rfl Hm2.out
     . go_wp2_with fail
       exact ⟨rfl,dM.of_stop (g.trans z.out) Hm2.out⟩
 . exact SW
theorem Hl (B R:Nat) (c:Mc.Cfg) (w0:World) (s:Mc.St) (T:Int) (w:World) (h:ed B R c w0 w s) :
 Calls prog 228 #[.pointer (some ⟨R,0,none⟩),.int .i64 T] w (dM B R c w0 (Mc.math T s) e0):=by
 have L:Hid (ed B R c w0 w s):=h;clear h
 cases aw:Mc.isOp T with
 | false=>
   have A:Hid (Mc.math T s = .stop { s with en:=6 }):=if_neg (by simp [aw]);go_enter func228,ntmps228
   go_wp2_with (go_at_call 277;refine (Ba _ _).mono ?_;rintro e G ⟨rfl,rfl⟩)
   refine (po _ _ (by first | rfl | exact aw) L).mono ?_;exact QF
 | true=>
   have A:Hid (Mc.math T s=(Mc.pop s).bind fun p s=>(Mc.pop s).bind fun a s=>match Mc.reck T a p with
    | some n=>Mc.push n s
    | none=>Mc.halt 1 s):=if_pos aw
   go_enter func228,ntmps228
   go_wp2_with (go_at_call 277;refine (Ba _ _).mono ?_;rintro e G ⟨rfl,rfl⟩)
   refine (k0 _ _ _ (by first | rfl | exact aw)).mono ?_;rintro e G ⟨rfl,rfl⟩;go_wp2_with fail;refine (pn B R c w0 s _ L).mono ?_;intro e dk ar
   rcases ar.parts with ⟨p,ay,z,rfl,Hm⟩ | ⟨ay,z,rfl,Hm⟩<;>clear ar<;>simp only [intV]
   . have f:=hid (A.trans (bind_ok _ z.out))
     clear A z;go_wp2_with fail;refine (pn B R c w0 ay _ Hm.out).mono ?_;intro e w2 ar
     rcases ar.parts with ⟨a,b1,z,rfl,Hm2⟩ | ⟨b1,z,rfl,Hm2⟩<;>clear ar<;>simp only [intV]
     . have g:=hid (f.trans (bind_ok _ z.out))
       clear f z;go_wp2_with fail;refine (G9 _ _ _ _).mono ?_;rintro e dC ⟨rfl,rfl⟩
       cases Q:Mc.reck T a p with
       | none=>
         have l:Hid (Mc.math T s = .stop { b1 with en:=1 }):=by
          have:=g.out;exact SI
         clear Q g;simp only [reckV];go_wp2_with fail;refine (sS 1 _ Hm2.out).mono ?_;rintro e w2 ⟨rfl,a1⟩;go_wp2_with fail;exact ⟨rfl,dM.stop l rfl a1⟩
       | some n=>
         have l:Hid (Mc.math T s=Mc.push n b1):=by
          have:=g.out;exact SI
         clear Q g;simp only [reckV];go_wp2_with fail;refine (oo B R c w0 b1 _ _ Hm2.out).mono ?_;intro e w2 ar
         rcases ar.parts with ⟨u,eU,z,rfl,Hm3⟩ | ⟨eU,z,rfl,Hm3⟩<;>clear ar<;>simp only [e0]
         . go_wp2_with fail
           go_returns
           exact dM.ok (l.trans z.out) rfl Hm3.out
         . go_wp2_with fail
           exact ⟨rfl,dM.of_stop (l.trans z.out) Hm3.out⟩
     . go_wp2_with fail
       exact ⟨rfl,dM.of_stop (f.trans (jB _ z.out)) Hm2.out⟩
   . go_wp2_with fail
     exact ⟨rfl,dM.of_stop (A.trans (jB _ z.out)) Hm.out⟩
end Mx
end Go.Proofs.YtndkhgakfodldaaGreatDoor
