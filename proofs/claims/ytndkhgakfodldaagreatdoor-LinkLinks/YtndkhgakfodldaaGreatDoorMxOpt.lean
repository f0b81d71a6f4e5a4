import Derived.Test.YtndkhgakfodldaaGreatDoorMxMem
import Derived.Deep.RegionWith
namespace Go.Proofs.YtndkhgakfodldaaGreatDoor
set_option maxRecDepth 100000
set_option maxHeartbeats 800000
namespace Mx
open Go.RowKit
theorem zs7 (gs:List (List Int × Int)) (f:List Int × Int):(cF 0 (gs++[f]))[gs.length*2]? = some (.int .i64 ((flat gs).length:Nat))/\(cF 0 (gs++[f]))[gs.length*2+1]? = some (.int .i64 f.2):=by
 rw [zhz,Nat.zero_add,← zg5 0 gs]
 constructor
 . rw [List.getElem?_append_right (Nat.le_refl _),Nat.sub_self];rfl
 . rw [List.getElem?_append_right (by omega),show (cF 0 gs).length+1 - (cF 0 gs).length=1 from by omega];rfl
theorem zq9 (B R:Nat) (c:Mc.Cfg) (w0:World) (s:Mc.St) (w:World) (T:Nat->Nat) (v:Vs) (h:MAt B R c w0 w T v s) :
 Calls Tryz.prog 276 #[.pointer (some ⟨R,0,none⟩)] w fun e w'=>e = .returned (.agg #[.int .i64 ((flat s.gs).length:Nat),.int .i64 s.bk])/\Below w.heap.size w w':=by
 obtain ⟨cv,st,lo,fr,da,iv,ou⟩:=v;obtain ⟨g,cap,hv,AG,hmax,hBg,G1,Dx,CS,hcell⟩:=h.fr.place (by omega);simp only at hv;subst hv;obtain ⟨-, -, -, -,c4, -, -, -, -, -, -, -, -,hf⟩:=h.cell;simp only at c4;have KA:=hcell _ _ (zs7 s.gs (s.lo,s.bk)).1;have AK:=hcell _ _ (zs7 s.gs (s.lo,s.bk)).2;have EE:=h.bgs;have Bk:=h.ltR;clear h hcell;generalize s.gs.length=k at *;generalize (flat s.gs).length=m at *;unfold maxLen at hmax;go_enter Tryz.func276,Tryz.ntmps276;go_wp2_with fail
 go_region
 go_wp2_with fail;exact bodyPost_ret (v:=.agg #[.int .i64 (m:Nat),.int .i64 s.bk]) (by simp [results,Tryz.results276,go_sem]) rfl ⟨rfl,((Below.refl _ _).alloc (Nat.le_refl _) _).drew⟩
def zz9 (w:World) (a:Option Addr) (l:List Int):Prop:=
 l=[]\/∃ g off,a=some ⟨g,off,none⟩/\∀ i,i<l.length->w.cell? ⟨g,off+i,none⟩=some (.int .i64 (l.getD i 0))
theorem zra (B R:Nat) (c:Mc.Cfg) (w0:World) (s:Mc.St) (a:Option Addr) (cap:Nat) (l:List Int) (x:Int) (w:World) (h:Mch B R c w0 w s) (hc:zz9 w a l) (hl:l.length<=100000) :
 Calls Tryz.prog 222 #[.pointer (some ⟨R,0,none⟩),.slice a l.length cap,.int .i64 x] w (zap B R c w0 (Mc.getL l x s) intV):=by
 obtain ⟨T,v,h⟩:=h;have HM:Hid (MAt B R c w0 w T v s):=h;obtain ⟨-, -, -, -, -, -, -, -, -, -, -, -,CP,hf⟩:=h.cell;clear h
 by_cases h0:0<=x
 . by_cases h1:x<l.length
   . have HP:Hid (Mc.getL l x s = .ok (l.getD x.toNat 0) s):=if_pos (by simp [Mc.inB,h0,h1])
     obtain ⟨k,rfl⟩:=Int.eq_ofNat_of_zero_le h0;rw [Int.toNat_natCast] at HP
     rcases hc with hc | ⟨g,off,rfl,hc⟩
     . subst hc;simp at h1;omega
     have hx:=hc k (by omega);generalize l.getD k 0=y at *;generalize l.length=n at *;clear hc;go_enter Tryz.func222,Tryz.ntmps222;go_wp2_with fail;refine (zbx _ _ _ (by first | (simp;done) | (simp;omega))).mono ?_;rintro e w' ⟨rfl,rfl⟩;go_wp2_with fail
     go_returns
     exact zap.ok HP.out rfl ⟨_,_,HM.out⟩
   . have HP:Hid (Mc.getL l x s = .stop { s with en:=6 }):=if_neg (by simp [Mc.inB];omega)
     clear hc;generalize l.length=n at *;go_enter Tryz.func222,Tryz.ntmps222;go_wp2_with fail;refine (zgs R _ _ _ (by first | (simp;done) | (simp;omega)) CP (hf 12)).mono ?_;rintro e w' ⟨rfl,rfl⟩;go_wp2_with fail;exact ⟨rfl,zap.stop HP.out rfl ⟨_,_,HM.out.setEn 6⟩⟩
 . have HP:Hid (Mc.getL l x s = .stop { s with en:=6 }):=if_neg (by simp [Mc.inB];omega)
   clear hc;generalize l.length=n at *;go_enter Tryz.func222,Tryz.ntmps222;go_wp2_with fail;refine (zgs R _ _ _ (by first | (simp;done) | (simp;omega)) CP (hf 12)).mono ?_;rintro e w' ⟨rfl,rfl⟩;go_wp2_with fail;exact ⟨rfl,zap.stop HP.out rfl ⟨_,_,HM.out.setEn 6⟩⟩
theorem z2h (R:Nat) (g off n cap k:Nat) (x:Int) (y:Value) (w:World) (hk:k<n) (hy:w.cell? ⟨g,off+k,none⟩=some y) (hz:w.frozen? ⟨g,off+k,none⟩=false) :
 Calls Tryz.prog 224 #[.pointer (some ⟨R,0,none⟩),.slice (some ⟨g,off,none⟩) n cap,.int .i64 k,.int .i64 x] w fun e w'=>e = .returned (.tuple #[])/\w'=w.setCell ⟨g,off+k,none⟩ (.int .i64 x):=by
 go_enter Tryz.func224,Tryz.ntmps224;go_wp2_with fail;refine (zbx _ _ _ (by first | (simp;done) | (simp;omega))).mono ?_;rintro e w' ⟨rfl,rfl⟩;go_wp2_with fail
 go_returns
 exact ⟨rfl,rfl⟩
theorem zwz (R:Nat) (a:Option Addr) (n cap:Nat) (k x:Int) (y:Value) (w:World) (hk:¬ (0<=k/\k<n)) (CP:w.cell? ⟨R,12,none⟩=some y) (hf:w.frozen? ⟨R,12,none⟩=false) :
 Calls Tryz.prog 224 #[.pointer (some ⟨R,0,none⟩),.slice a n cap,.int .i64 k,.int .i64 x] w fun e w'=>e = .panicked (zdr 6)/\w'=w.setCell ⟨R,12,none⟩ (.int .i64 6):=by
 by_cases h0:0<=k
 . have h1:¬ k<n:=fun h=>hk ⟨h0,h⟩
   clear hk;go_enter Tryz.func224,Tryz.ntmps224;go_wp2_with fail;refine (zgs R _ _ _ (by first | (simp;done) | (simp;omega)) CP hf).mono ?_;rintro e w' ⟨rfl,rfl⟩;go_wp2_with fail;exact ⟨rfl,rfl,rfl⟩
 . clear hk
   go_enter Tryz.func224,Tryz.ntmps224;go_wp2_with fail;refine (zgs R _ _ _ (by first | (simp;done) | (simp;omega)) CP hf).mono ?_;rintro e w' ⟨rfl,rfl⟩;go_wp2_with fail;exact ⟨rfl,rfl,rfl⟩
theorem ownsRow_set {w:World} {B g n cap:Nat} {xs:List Value} (h:w.ownsRow B 3 1 (.slice (some ⟨g,0,none⟩) n cap) n xs) (k:Nat) (u:Value):(w.setCell ⟨g,k,none⟩ u).ownsRow B 3 1 (.slice (some ⟨g,0,none⟩) n cap) n (xs.set k u):=by
 refine ⟨by rw [List.length_set];exact h.1,?_⟩
 rcases h.2 with ⟨h1,_⟩ | ⟨g',cap',AC,h1,hb,hg,h3,h4,h5,h6⟩
 . cases h1
 . cases h1
   refine Or.inr ⟨g,cap,AC.setIfInBounds k u,rfl,hb,heap_set hg u,h3,h4,by rw [Array.size_setIfInBounds];exact h5,?_⟩;rw [Array.toList_setIfInBounds,List.take_set,h6]
theorem zs8 (l:List Int) (k:Nat) (x:Int):(ints l).set k (.int .i64 x)=ints (l.set k x):=by simp [ints,List.map_set]
section
variable {B R:Nat} {c:Mc.Cfg} {w0 w:World} {T:Nat->Nat} {v:Vs} {s:Mc.St}
theorem z5u {w:World} {T:Nat->Nat} {g m:Nat} (hm:T g=m) (k:Nat) (u:Value):∀ a,a≠m->∀ j,j<w.heap.size->T j=a->(w.setCell ⟨g,k,none⟩ u).heap[j]? = w.heap[j]?:=fun a ha j _ e=>
 Below.heap_setCell w ⟨g,k,none⟩ u j (fun e'=>by have e2:j=g:=e';subst e2;exact ha (e.symm.trans hm))
theorem MAt.cellDa (h:MAt B R c w0 w T v s) {g cap:Nat} (hv:v.da = .slice (some ⟨g,0,none⟩) s.data.length cap) (k:Nat) (x:Int):MAt B R c w0 (w.setCell ⟨g,k,none⟩ (.int .i64 x)) T v { s with data:=s.data.set k x }:=by
 have hm:T g=5:=h.da.mark g (by rw [hv];rfl);have hB:B<=g:=(h.da.own.lt g (by rw [hv];rfl)).1;have keep:=z5u (w:=w) hm k (.int .i64 x)
 exact { h with
  blk:=(keep 1 (by decide) R h.ltR h.tR).trans h.blk
  st:=h.st.keep (keep 2 (by decide)) (fun _ _ e=>e)
  lo:=h.lo.keep (keep 3 (by decide)) (fun _ _ e=>e)
  fr:=h.fr.keep (keep 4 (by decide)) (fun _ _ e=>e)
  ou:=h.ou.keep (keep 6 (by decide)) (fun _ _ e=>e)
  da:=by
   have ho:=h.da.own;rw [hv] at ho;have h2:=ownsRow_set ho k (.int .i64 x);rw [zs8] at h2;refine ⟨?_,h.da.mark⟩;rw [hv,List.length_set];exact h2
  below:=h.below.setCell (p:=⟨g,k,none⟩) hB _
  bda:=by rw [List.length_set];exact h.bda }
theorem MAt.cellLo (h:MAt B R c w0 w T v s) {g cap:Nat} (hv:v.lo = .slice (some ⟨g,0,none⟩) (flat s.gs++s.lo).length cap) (k:Nat) (x:Int):MAt B R c w0 (w.setCell ⟨g,(flat s.gs).length+k,none⟩ (.int .i64 x)) T v { s with lo:=s.lo.set k x }:=by
 have hm:T g=3:=h.lo.mark g (by rw [hv];rfl);have hB:B<=g:=(h.lo.own.lt g (by rw [hv];rfl)).1;have keep:=z5u (w:=w) hm ((flat s.gs).length+k) (.int .i64 x)
 exact { h with
  blk:=(keep 1 (by decide) R h.ltR h.tR).trans h.blk
  st:=h.st.keep (keep 2 (by decide)) (fun _ _ e=>e)
  da:=h.da.keep (keep 5 (by decide)) (fun _ _ e=>e)
  fr:=by
   have:=h.fr.keep (keep 4 (by decide)) (fun _ _ e=>e);rw [zwx 0 s.gs (s.lo,s.bk) (s.lo.set k x,s.bk) rfl] at this;exact this
  ou:=h.ou.keep (keep 6 (by decide)) (fun _ _ e=>e)
  lo:=by
   have ho:=h.lo.own;rw [hv] at ho;have h2:=ownsRow_set ho ((flat s.gs).length+k) (.int .i64 x);rw [zs8,List.set_append_right _ _ (by omega),show (flat s.gs).length+k - (flat s.gs).length=k from by omega] at h2;refine ⟨?_,h.lo.mark⟩;rw [hv];simp only [List.length_append,List.length_set] at h2 ⊢;exact h2
  below:=h.below.setCell (p:=⟨g,(flat s.gs).length+k,none⟩) hB _
  blo:=by rw [List.length_set];exact h.blo }
theorem MAt.dataAt (h:MAt B R c w0 w T v s):∃ a cap,v.da = .slice a s.data.length cap/\zz9 w a s.data/\(s.data=[]\/∃ g,a=some ⟨g,0,none⟩)/\∀ g,a=some ⟨g,0,none⟩->∀ j,w.frozen? ⟨g,j,none⟩=false:=by
 by_cases hl:0<s.data.length
 . obtain ⟨g,cap,hv,AG,hmax,hBg,G1,Dx,CS,hcell⟩:=h.da.place hl
   refine ⟨_,cap,hv,Or.inr ⟨g,0,rfl,fun i hi=>by rw [Nat.zero_add];exact hcell i _ (zjc _ i hi)⟩,Or.inr ⟨g,rfl⟩,fun g' e j=>?_⟩
   have e1:g=g':=by simpa using e
   subst e1;exact CS j
 . obtain ⟨a,cap,hv,_⟩:=h.da.form
   have h0:s.data=[]:=List.eq_nil_of_length_eq_zero (by omega);refine ⟨a,cap,hv,Or.inl h0,Or.inl h0,fun g e j=>?_⟩
   rcases h.da.own.2 with ⟨h1,_⟩ | ⟨g',cap',AC,h1,hb,hg,_⟩
   . rw [hv] at h1;rw [e] at h1;cases h1
   . rw [hv,e] at h1
     cases h1;exact Lib.frozen_of_heap hg j
end
theorem zpj (B R:Nat) (c:Mc.Cfg) (w0:World) (s:Mc.St) (k x:Int) (w:World) (T:Nat->Nat) (v:Vs) (h:MAt B R c w0 w T v s) :
 Calls Tryz.prog 224 #[.pointer (some ⟨R,0,none⟩),v.da,.int .i64 k,.int .i64 x] w (zap B R c w0 (Mc.putDa k x s) za3):=by
 obtain ⟨a,cap,hv,hc,ha,CS⟩:=h.dataAt;obtain ⟨-, -, -, -, -, -, -, -, -, -, -, -,CP,hf⟩:=h.cell;rw [hv]
 by_cases hk:0<=k/\k<s.data.length
 . have HP:Mc.putDa k x s = .ok () { s with data:=s.data.set k.toNat x }:=if_pos (by simp [Mc.inB];exact hk)
   obtain ⟨h0,h1⟩:=hk;obtain ⟨n,rfl⟩:=Int.eq_ofNat_of_zero_le h0
   rcases ha with ha | ⟨g,rfl⟩
   . rw [ha] at h1;simp at h1;omega
   rcases hc with hc | ⟨g',off,e,hc⟩
   . rw [hc] at h1;simp at h1;omega
   cases e
   refine (z2h R g 0 s.data.length cap n x _ w (by omega) (hc n (by omega)) (CS g rfl _)).mono ?_;rintro e w' ⟨rfl,rfl⟩;refine zap.ok HP rfl ⟨T,v,?_⟩;rw [Nat.zero_add,Int.toNat_natCast];exact h.cellDa hv n x
 . have HP:Mc.putDa k x s = .stop { s with en:=6 }:=if_neg (by simp [Mc.inB];omega)
   refine (zwz R a s.data.length cap k x _ w hk CP (hf 12)).mono ?_;rintro e w' ⟨rfl,rfl⟩;exact zap.stop HP rfl ⟨_,_,h.setEn 6⟩
def zun (v:Vs) (s:Mc.St) (a:Option Addr):Prop:=
 s.lo=[]\/∃ g cap,v.lo = .slice (some ⟨g,0,none⟩) (flat s.gs++s.lo).length cap/\a=some ⟨g,(flat s.gs).length,none⟩
theorem zun.cells {B R:Nat} {c:Mc.Cfg} {w0 w:World} {T:Nat->Nat} {v:Vs} {s:Mc.St} {a:Option Addr} (h:zun v s a) (hm:MAt B R c w0 w T v s):zz9 w a s.lo/\∀ g off,a=some ⟨g,off,none⟩->s.lo≠[]->∀ j,w.frozen? ⟨g,j,none⟩=false:=by
 rcases h with h | ⟨g,cap,hv,rfl⟩
 . exact ⟨Or.inl h,fun _ _ _ h'=>absurd h h'⟩
 . by_cases hl:0<(flat s.gs++s.lo).length
   . obtain ⟨g',cap',DU,AG,hmax,hBg,G1,Dx,CS,hcell⟩:=hm.lo.place hl
     rw [hv] at DU
     cases DU
     refine ⟨Or.inr ⟨g,_,rfl,fun i hi=>?_⟩,fun g' off e _ j=>?_⟩
     . have:=hcell ((flat s.gs).length+i) _ (zjc _ _ (by rw [List.length_append];omega))
       rw [List.getD_eq_getElem?_getD,List.getElem?_append_right (by omega),show (flat s.gs).length+i - (flat s.gs).length=i from by omega,← List.getD_eq_getElem?_getD] at this;exact this
     . cases e
       exact CS j
   . have:s.lo=[]:=List.eq_nil_of_length_eq_zero (by rw [List.length_append] at hl;omega)
     exact ⟨Or.inl this,fun _ _ _ h'=>absurd this h'⟩
theorem z5v (x y:Value):∀ w:World,(Instr.field 231 (.agg #[x,y]) 0).run Tryz.prog w = .ok x w:=fun _=>by kernel_rfl
theorem zw0 (B R:Nat) (c:Mc.Cfg) (w0:World) (s:Mc.St) (w:World) (T:Nat->Nat) (v:Vs) (h:MAt B R c w0 w T v s) :
 Calls Tryz.prog 223 #[.pointer (some ⟨R,0,none⟩)] w fun e w'=>∃ a cap,e = .returned (.slice a s.lo.length cap)/\zun v s a/\MAt B R c w0 w' T v s/\Below w.heap.size w w':=by
 obtain ⟨cv,st,lo,fr,da,iv,ou⟩:=v;obtain ⟨a,cap,hv,AG,hmax⟩:=h.lo.form;simp only at hv;subst hv;have KI:=h.locals_le;have HM:Hid (MAt B R c w0 w T ⟨cv,st,.slice a (flat s.gs++s.lo).length cap,fr,da,iv,ou⟩ s):=h
 have HT:Hid (∀ w,MAt B R c w0 w T ⟨cv,st,.slice a (flat s.gs++s.lo).length cap,fr,da,iv,ou⟩ s->Calls Tryz.prog 276 #[.pointer (some ⟨R,0,none⟩)] w fun e w'=>e = .returned (.agg #[.int .i64 ((flat s.gs).length:Nat),.int .i64 s.bk])/\Below w.heap.size w w'):=fun w h=>zq9 B R c w0 s w T _ h
 obtain ⟨-, -, -,c3, -, -, -, -, -, -, -, -, -,hf⟩:=h.cell
 have c3':w.cell? ⟨R,3,none⟩=some (.slice a ((flat s.gs).length+s.lo.length) cap):=by rw [← List.length_append];exact c3
 have Bk:=h.ltR;rw [List.length_append] at AG KI;unfold maxLen at hmax;have Mh:=z5v
 have HO:Hid (∀ g:Nat,a=some ⟨g,0,none⟩->zun ⟨cv,st,.slice a (flat s.gs++s.lo).length cap,fr,da,iv,ou⟩ s (some ⟨g,(flat s.gs).length,none⟩)):=fun g e=>Or.inr ⟨g,cap,by rw [e],rfl⟩
 have HN:Hid (s.lo.length=0->∀ b,zun ⟨cv,st,.slice a (flat s.gs++s.lo).length cap,fr,da,iv,ou⟩ s b):=fun e b=>Or.inl (List.eq_nil_of_length_eq_zero e)
 have HA:Hid (a=none/\(flat s.gs).length=0/\s.lo.length=0\/∃ g,a=some ⟨g,0,none⟩):=by
  rcases h.lo.own.2 with ⟨h1,h2⟩ | ⟨g,cap',AC,h1,_⟩
  . simp only [Value.slice.injEq] at h1
    rw [List.length_append] at h2;exact Or.inl ⟨h1.1,by omega,by omega⟩
  . simp only [Value.slice.injEq] at h1
    exact Or.inr ⟨g,h1.1⟩
 clear h c3;generalize (flat s.gs).length=m at *;generalize s.lo.length=n at *
 rcases HA.out with ⟨rfl,rfl,rfl⟩ | ⟨g,rfl⟩<;>clear HA
 . go_enter Tryz.func223,Tryz.ntmps223
   go_wp2_with fail
   go_region_with (go_at_call 276;refine (HT.out _ HM.out.drew).mono ?_;rintro e w1 ⟨rfl,hb⟩;have JF:=(hb.cell (p:=⟨R,3,none⟩) Bk).trans c3')
   all_goals
    go_wp2_with fail
    go_returns
    exact ⟨_,_,rfl,HN.out (by trivial) _,HM.out.drew.later hb HM.out.hB,(Below.refl _ _).drew.trans hb⟩
 . by_cases Ow:cap=m
   . obtain rfl:n=0:=by omega
     go_enter Tryz.func223,Tryz.ntmps223;go_wp2_with fail
     go_region_with (go_at_call 276;refine (HT.out _ HM.out.drew).mono ?_;rintro e w1 ⟨rfl,hb⟩;have JF:=(hb.cell (p:=⟨R,3,none⟩) Bk).trans c3')
     all_goals
      go_wp2_with fail
      go_returns
      exact ⟨_,_,rfl,HN.out (by trivial) _,HM.out.drew.later hb HM.out.hB,(Below.refl _ _).drew.trans hb⟩
   . have QE:m<cap:=by omega
     have Aj:¬ (cap - m=0):=by omega
     go_enter Tryz.func223,Tryz.ntmps223;go_wp2_with fail
     go_region_with (go_at_call 276;refine (HT.out _ HM.out.drew).mono ?_;rintro e w1 ⟨rfl,hb⟩;have JF:=(hb.cell (p:=⟨R,3,none⟩) Bk).trans c3')
     all_goals
      go_wp2_with fail
      go_returns
      exact ⟨_,_,rfl,HO.out g rfl,HM.out.drew.later hb HM.out.hB,(Below.refl _ _).drew.trans hb⟩
end Mx
set_option maxHeartbeats 400000
namespace Mx
open Go.RowKit
theorem zw1 (B R:Nat) (c:Mc.Cfg) (w0:World) (s:Mc.St) (k x:Int) (a:Option Addr) (cap:Nat) (w:World) (T:Nat->Nat) (v:Vs) (h:MAt B R c w0 w T v s) (ho:zun v s a) :
 Calls Tryz.prog 224 #[.pointer (some ⟨R,0,none⟩),.slice a s.lo.length cap,.int .i64 k,.int .i64 x] w (zap B R c w0 (Mc.putLo k x s) za3):=by
 obtain ⟨hc,CS⟩:=ho.cells h;obtain ⟨-, -, -, -, -, -, -, -, -, -, -, -,CP,hf⟩:=h.cell
 by_cases hk:0<=k/\k<s.lo.length
 . have HP:Mc.putLo k x s = .ok () { s with lo:=s.lo.set k.toNat x }:=if_pos (by simp [Mc.inB];exact hk)
   obtain ⟨h0,h1⟩:=hk;obtain ⟨n,rfl⟩:=Int.eq_ofNat_of_zero_le h0
   have Aj:s.lo≠[]:=fun e=>by rw [e] at h1;simp at h1;omega
   rcases ho with ho | ⟨g,cap0,hv,rfl⟩
   . exact absurd ho Aj
   rcases hc with hc | ⟨g',off,e,hc⟩
   . exact absurd hc Aj
   cases e
   refine (z2h R g _ s.lo.length cap n x _ w (by omega) (hc n (by omega)) (CS g _ rfl Aj _)).mono ?_;rintro e w' ⟨rfl,rfl⟩;refine zap.ok HP rfl ⟨T,v,?_⟩;rw [Int.toNat_natCast];exact h.cellLo hv n x
 . have HP:Mc.putLo k x s = .stop { s with en:=6 }:=if_neg (by simp [Mc.inB];omega)
   refine (zwz R a s.lo.length cap k x _ w hk CP (hf 12)).mono ?_;rintro e w' ⟨rfl,rfl⟩;exact zap.stop HP rfl ⟨_,_,h.setEn 6⟩
theorem bind_ok {α β:Type} {r:Mc.Res α} {a:α} {s:Mc.St} (f:α->Mc.St->Mc.Res β) (h:r = .ok a s):r.bind f=f a s:=by rw [h];rfl
theorem za6 {α β:Type} {r:Mc.Res α} {s:Mc.St} (f:α->Mc.St->Mc.Res β) (h:r = .stop s):r.bind f = .stop s:=by rw [h];rfl
theorem zap.of_stop {α:Type} {B R:Nat} {c:Mc.Cfg} {w0 w':World} {r:Mc.Res α} {AD:α->Value} {s:Mc.St} (hr:r = .stop s) (h:Mch B R c w0 w' s):zap B R c w0 r AD (.panicked (zdr s.en)) w':=zap.stop hr rfl h
theorem Mch.get {B R:Nat} {c:Mc.Cfg} {w0 w:World} {s:Mc.St} (h:Mch B R c w0 w s):(∃ x,w.cell? ⟨R,12,none⟩=some x)/\w.frozen? ⟨R,12,none⟩=false/\R<w.heap.size:=by
 obtain ⟨T,v,h⟩:=h;exact ⟨⟨_,h.cell.2.2.2.2.2.2.2.2.2.2.2.2.1⟩,h.cell.2.2.2.2.2.2.2.2.2.2.2.2.2 12,h.ltR⟩
theorem Mch.setEn {B R:Nat} {c:Mc.Cfg} {w0 w:World} {s:Mc.St} (h:Mch B R c w0 w s) (e:Int):Mch B R c w0 (w.setCell ⟨R,12,none⟩ (.int .i64 e)) { s with en:=e }:=by
 obtain ⟨T,v,h⟩:=h;exact ⟨T,v,h.setEn e⟩
theorem zg6 {B R:Nat} {c:Mc.Cfg} {w0:World} {s:Mc.St} (e:Int) (w:World) (h:Mch B R c w0 w s) :
 Calls Tryz.prog 180 #[.pointer (some ⟨R,0,none⟩),.int .i64 e] w fun en w'=>en = .panicked (zdr e)/\Mch B R c w0 w' { s with en:=e }:=by
 obtain ⟨⟨x,hx⟩,hf,_⟩:=h.get;refine (stop_any R e x w hx hf).mono ?_;rintro en w' ⟨rfl,rfl⟩;exact ⟨rfl,h.setEn e⟩
theorem zcn {B R:Nat} {c:Mc.Cfg} {w0:World} {s:Mc.St} (b:Bool) (w:World) (hb:b=false) (h:Mch B R c w0 w s) :
 Calls Tryz.prog 181 #[.pointer (some ⟨R,0,none⟩),.bool b] w fun en w'=>en = .panicked (zdr 6)/\Mch B R c w0 w' { s with en:=6 }:=by
 obtain ⟨⟨x,hx⟩,hf,_⟩:=h.get;refine (zgs R b x w hb hx hf).mono ?_;rintro en w' ⟨rfl,rfl⟩;exact ⟨rfl,h.setEn 6⟩
theorem zap.parts {α:Type} {B R:Nat} {c:Mc.Cfg} {w0 w':World} {r:Mc.Res α} {AD:α->Value} {e:Ending} (h:zap B R c w0 r AD e w') :
 (∃ a s,Hid (r = .ok a s)/\e = .returned (AD a)/\Hid (Mch B R c w0 w' s))\/∃ s,Hid (r = .stop s)/\e = .panicked (zdr s.en)/\Hid (Mch B R c w0 w' s):=by
 cases r with
 | ok a s=>exact Or.inl ⟨a,s,rfl,h.1,h.2⟩
 | stop s=>exact Or.inr ⟨s,rfl,h.1,h.2⟩
theorem zfs.parts {α:Type} {B R:Nat} {c:Mc.Cfg} {w0 w':World} {L D:Value} {r:Mc.Res α} {AD:α->Value} {e:Ending} (h:zfs B R c w0 L D r AD e w') :
 (∃ a s,Hid (r = .ok a s)/\e = .returned (AD a)/\Hid (∃ T v,MAt B R c w0 w' T v s/\v.lo=L/\v.da=D))\/∃ s,Hid (r = .stop s)/\e = .panicked (zdr s.en)/\Hid (Mch B R c w0 w' s):=by
 cases r with
 | ok a s=>exact Or.inl ⟨a,s,rfl,h.1,h.2⟩
 | stop s=>exact Or.inr ⟨s,rfl,h.1,h.2⟩
theorem zw2 (B R:Nat) (c:Mc.Cfg) (w0:World) (s:Mc.St) (a b:Int) (w:World) (h:Mch B R c w0 w s) :
 Calls Tryz.prog 226 #[.pointer (some ⟨R,0,none⟩),.int .i64 a,.int .i64 b] w (zap B R c w0 (Mc.index a b s) za3):=by
 have HM:Hid (Mch B R c w0 w s):=h;clear h;go_enter Tryz.func226,Tryz.ntmps226;go_wp2_with fail;refine (zft B R c w0 s _ HM.out).mono ?_;intro e w1 he
 rcases he.parts with ⟨i,s1,HR,rfl,Hm⟩ | ⟨s1,HR,rfl,Hm⟩<;>clear he<;>simp only [intV]
 . have HP:Hid (Mc.index a b s=if i<0\/b<=i then Mc.halt 2 s1 else Mc.push (wrap64 (a+i)) s1):=bind_ok _ HR.out
   clear HR
   by_cases h0:i<0\/b<=i
   . have BM:Hid (Mc.index a b s = .stop { s1 with en:=2 }):=HP.out.trans (if_pos h0)
     have JD:i<0\/0<=i/\b<=i:=by omega
     clear h0
     rcases JD with h0 | ⟨h0,h1⟩
     all_goals
      go_wp2_with fail;refine (zg6 2 _ Hm.out).mono ?_;rintro e w2 ⟨rfl,hm⟩;go_wp2_with fail;exact ⟨rfl,zap.stop BM.out rfl hm⟩
   . have BM:Hid (Mc.index a b s=Mc.push (wrap64 (a+i)) s1):=HP.out.trans (if_neg h0)
     have h1:¬ i<0:=fun h=>h0 (Or.inl h)
     have h2:¬ b<=i:=fun h=>h0 (Or.inr h)
     clear h0 HP;go_wp2_with fail;refine (zdv B R c w0 s1 _ _ Hm.out).mono ?_;intro e w2 he
     rcases he.parts with ⟨u,s2,HR,rfl,BV⟩ | ⟨s2,HR,rfl,BV⟩<;>clear he<;>simp only [za3]
     . go_wp2_with fail
       go_returns
       exact zap.ok (BM.out.trans HR.out) rfl BV.out
     . go_wp2_with fail
       exact ⟨rfl,zap.of_stop (BM.out.trans HR.out) BV.out⟩
 . go_wp2_with fail
   exact ⟨rfl,zap.of_stop (za6 _ HR.out) Hm.out⟩
theorem z0a (B R:Nat) (c:Mc.Cfg) (w0:World) (s:Mc.St) (op:Int) (w:World) (h:Mch B R c w0 w s) :
 Calls Tryz.prog 228 #[.pointer (some ⟨R,0,none⟩),.int .i64 op] w (zap B R c w0 (Mc.math op s) za3):=by
 have HM:Hid (Mch B R c w0 w s):=h;clear h
 cases BB:Mc.isOp op with
 | false=>
   have HP:Hid (Mc.math op s = .stop { s with en:=6 }):=if_neg (by simp [BB]);go_enter Tryz.func228,Tryz.ntmps228
   go_wp2_with (go_at_call 277;refine (zs4 _ _).mono ?_;rintro e w' ⟨rfl,rfl⟩)
   refine (zcn _ _ (by first | rfl | exact BB) HM.out).mono ?_;rintro e w2 ⟨rfl,hm⟩;go_wp2_with fail;exact ⟨rfl,zap.stop HP.out rfl hm⟩
 | true=>
   have HP:Hid (Mc.math op s=(Mc.pop s).bind fun b s=>(Mc.pop s).bind fun a s=>match Mc.reck op a b with
    | some n=>Mc.push n s
    | none=>Mc.halt 1 s):=if_pos BB
   go_enter Tryz.func228,Tryz.ntmps228
   go_wp2_with (go_at_call 277;refine (zs4 _ _).mono ?_;rintro e w' ⟨rfl,rfl⟩)
   refine (zbx _ _ _ (by first | rfl | exact BB)).mono ?_;rintro e w' ⟨rfl,rfl⟩;go_wp2_with fail;refine (zft B R c w0 s _ HM.out).mono ?_;intro e w1 he
   rcases he.parts with ⟨b,s1,HR,rfl,Hm⟩ | ⟨s1,HR,rfl,Hm⟩<;>clear he<;>simp only [intV]
   . have Bc:=hid (HP.out.trans (bind_ok _ HR.out))
     clear HP HR;go_wp2_with fail;refine (zft B R c w0 s1 _ Hm.out).mono ?_;intro e w2 he
     rcases he.parts with ⟨a,s2,HR,rfl,BV⟩ | ⟨s2,HR,rfl,BV⟩<;>clear he<;>simp only [intV]
     . have BM:=hid (Bc.out.trans (bind_ok _ HR.out))
       clear Bc HR;go_wp2_with fail;refine (zum _ _ _ _).mono ?_;rintro e w3 ⟨rfl,rfl⟩
       cases hr:Mc.reck op a b with
       | none=>
         have Hp:Hid (Mc.math op s = .stop { s2 with en:=1 }):=by
          have:=BM.out;rw [hr] at this;exact this
         clear hr BM;simp only [reckV];go_wp2_with fail;refine (zg6 1 _ BV.out).mono ?_;rintro e w2 ⟨rfl,hm⟩;go_wp2_with fail;exact ⟨rfl,zap.stop Hp.out rfl hm⟩
       | some n=>
         have Hp:Hid (Mc.math op s=Mc.push n s2):=by
          have:=BM.out;rw [hr] at this;exact this
         clear hr BM;simp only [reckV];go_wp2_with fail;refine (zdv B R c w0 s2 _ _ BV.out).mono ?_;intro e w2 he
         rcases he.parts with ⟨u,s3,HR,rfl,Dk⟩ | ⟨s3,HR,rfl,Dk⟩<;>clear he<;>simp only [za3]
         . go_wp2_with fail
           go_returns
           exact zap.ok (Hp.out.trans HR.out) rfl Dk.out
         . go_wp2_with fail
           exact ⟨rfl,zap.of_stop (Hp.out.trans HR.out) Dk.out⟩
     . go_wp2_with fail
       exact ⟨rfl,zap.of_stop (Bc.out.trans (za6 _ HR.out)) BV.out⟩
   . go_wp2_with fail
     exact ⟨rfl,zap.of_stop (HP.out.trans (za6 _ HR.out)) Hm.out⟩
end Mx
end Go.Proofs.YtndkhgakfodldaaGreatDoor
