import Derived.Test.YtndkhgakfodldaaGreatDoorTd
import Derived.DeepKeys4
namespace Go.Proofs.YtndkhgakfodldaaGreatDoor
set_option maxRecDepth 100000
set_option maxHeartbeats 800000
open Go.RowKit Go.Maps Go.WideMaps
def Mg.val (x:Mg):Value:=.agg #[qi x.kind,qi x.n,qi x.m,qi x.at_]
def zls (w:World) (v:Value) (K:Kn):Prop:=∀ w',qb w w'->∀ mod name:ByteArray,mod.size<=maxLen->name.size<=maxLen->
 (Instr.lookup 187 v (.agg #[.string mod,.string name]) true).run Tryz.prog w' = .ok (.tuple #[((K mod name).getD mg0).val,.bool (K mod name).isSome]) w'
def zmq (w:World) (v:Value) (L:Lc):Prop:=∀ w',qb w w'->∀ s:ByteArray,s.size<=maxLen->
 (Instr.lookup 185 v (.string s) true).run Tryz.prog w' = .ok (.tuple #[qi ((L s).getD 0),.bool (L s).isSome]) w'
theorem zls.later {w w':World} {v:Value} {K:Kn} (h:zls w v K) (hb:qb w w'):zls w' v K:=fun Ce h' mod name=>h Ce (thenB hb h') mod name
theorem zmq.later {w w':World} {v:Value} {L:Lc} (h:zmq w v L) (hb:qb w w'):zmq w' v L:=fun Ce h' s=>h Ce (thenB hb h') s
def zhf (w:World) (b:Nat) (l:List Int):Prop:=b<w.heap.size/\∀ j (h:j<l.length),w.cell? (qa b j)=some (qi l[j])
theorem zhf.later {w w':World} {b:Nat} {l:List Int} (h:zhf w b l) (hb:qb w w'):zhf w' b l:=
 ⟨vah h.1 hb.size,fun j hj=>(hb.cell (p:=(qa b j)) h.1).trans (h.2 j hj)⟩
def idxI (l:List Int) (x:Int):Int:=match l.findIdx? (fun y=>x == y) with | some i=>(i:Int) | none=>-1
theorem z4c {l:List Int} {x:Int} {j:Nat} (h:j<l.length) (hn:∀ i (hi:i<l.length),i<j->x≠l[i]) (e:x=l[j]):idxI l x=j:=by
 unfold idxI
 have:l.findIdx? (fun y=>x == y)=some j:=by
  rw [vbu];exact ⟨h,by simp [e],fun i hi=>by have:=hn i (by omega) hi;simpa using this⟩
 rw [this]
theorem z4d {l:List Int} {x:Int} (hn:∀ i (hi:i<l.length),x≠l[i]):idxI l x = -1:=by
 unfold idxI
 have:l.findIdx? (fun y=>x == y)=none:=by
  rw [vcn];intro y hy;obtain ⟨i,hi,rfl⟩:=vay hy;simpa using hn i hi
 rw [this]
theorem z09 (l:List Int) (x:Int):decide (0<=idxI l x)=l.contains x:=by
 unfold idxI
 cases h:l.findIdx? (fun y=>x == y) with
 | none=>
   rw [vcn] at h
   have:l.contains x=false:=by
    rw [vbr];intro hc;have:=h x (by simpa using hc);simp at this
   rw [this];rfl
 | some i=>
   rw [vbu] at h;obtain ⟨hi,e,_⟩:=h
   have:l.contains x=true:=by
    rw [vcv]
    have e':x=l[i]:=by simpa using e
    rw [e'];exact vag _
   rw [this];simp
theorem zu7 (l:List Int) (x:Int) (b cap:Nat) (w:World) (h:zhf w b l) (hl:l.length<=1000) :
 qc 297 #[.slice (some (qa b 0)) l.length cap,qi x] w fun e w'=>e = .returned (qi (idxI l x))/\w'=w:=by
 have HI:=hid h.2;have E0:=h.1;clear h;go_enter Tryz.func297,Tryz.ntmps297;go_wp2_with fail
 go_loopw [8,5] (fun i _ wr=>∃ k:Nat,k<=l.length/\i=qi k/\(∀ j (hj:j<l.length),j<k->x≠l[j])/\wr=w) (fun i _ _=>l.length - (intOf i).toNat)
 case atStart=>exact ⟨0,vae _,rfl,fun _ _ h=>by omega,rfl⟩
 case round=>
  obtain ⟨k,hk,rfl,EZ,rfl⟩:=hrel;have HN:=hid EZ;clear EZ
  by_cases A0:k<l.length
  . have c0:=HI.out k A0
    by_cases hx:x=l[k]
    . have HE:=hid (z4c A0 (fun i hi h=>HN.out i hi h) hx)
      have Bz:(x == l[k])=true:=by rw [← hx];simp
      generalize l[k]=y at *;subst hx;go_wp2_with fail;go_ret;exact ⟨ret_int HE.out.symm,rfl⟩
    . have HS:Hid (∀ j (hj:j<l.length),j<k+1->x≠l[j]):=fun j hj h=>by
       rcases vbi j k with h' | h'
       . exact HN.out j hj h'
       . obtain rfl:j=k:=by omega
         exact hx
      generalize l[k]=y at *;go_wp2_with fail;go_roundw
      case rel=>exact ⟨k+1,by omega,by go_num,HS.out,trivial⟩
      case measure=>simp [intOf];omega
  . have HE:=hid (z4d (fun i hi=>HN.out i hi (by omega)))
    obtain rfl:k=l.length:=by omega
    go_wp2_with fail;go_ret;exact ⟨ret_int HE.out.symm,rfl⟩
theorem zfa (l:List Int) (x:Int) (b cap:Nat) (w:World) (h:zhf w b l) (hl:l.length<=1000) :
 qc 287 #[.slice (some (qa b 0)) l.length cap,qi x] w fun e w'=>e = .returned (.bool (l.contains x))/\w'=w:=by
 have HC:=hid (zu7 l x b cap w h hl);have HH:=hid (z09 l x);clear h hl;generalize idxI l x=i at *;go_enter Tryz.func287,Tryz.ntmps287
 go_wp2_with (go_at_call 297;refine HC.out.mono ?_;rintro e w' ⟨rfl,rfl⟩)
 go_ret;exact ⟨ret_bool HH.out,rfl⟩
end Go.Proofs.YtndkhgakfodldaaGreatDoor
