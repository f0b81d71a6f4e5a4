import Derived.Test.YtndkhgakfodldaaGreatDoorTd
import Derived.DeepKeys4
namespace Go.Proofs.YtndkhgakfodldaaGreatDoor
set_option maxRecDepth 100000
set_option maxHeartbeats 800000
open Go.RowKit Go.Maps Go.WideMaps
def Mg.val (x:Mg):Value:=.agg #[qi x.kind,qi x.n,qi x.m,qi x.at_]
def zm5 (w:World) (v:Value) (K:Kn):Prop:=∀ w',qb w w'->∀ mod name:ByteArray,mod.size<=maxLen->name.size<=maxLen->
 (Instr.lookup 187 v (.agg #[.string mod,.string name]) true).run Tryz.prog w' = .ok (.tuple #[((K mod name).getD mg0).val,.bool (K mod name).isSome]) w'
def zn9 (w:World) (v:Value) (L:Lc):Prop:=∀ w',qb w w'->∀ s:ByteArray,s.size<=maxLen->
 (Instr.lookup 185 v (.string s) true).run Tryz.prog w' = .ok (.tuple #[qi ((L s).getD 0),.bool (L s).isSome]) w'
theorem zm5.later {w w':World} {v:Value} {K:Kn} (h:zm5 w v K) (hb:qb w w'):zm5 w' v K:=fun AC h' mod name=>h AC (thenB hb h') mod name
theorem zn9.later {w w':World} {v:Value} {L:Lc} (h:zn9 w v L) (hb:qb w w'):zn9 w' v L:=fun AC h' s=>h AC (thenB hb h') s
def zis (w:World) (b:Nat) (l:List Int):Prop:=b<w.heap.size/\∀ j (h:j<l.length),w.cell? (qa b j)=some (qi l[j])
theorem zis.later {w w':World} {b:Nat} {l:List Int} (h:zis w b l) (hb:qb w w'):zis w' b l:=
 ⟨vai h.1 hb.size,fun j hj=>(hb.cell (p:=(qa b j)) h.1).trans (h.2 j hj)⟩
def idxI (l:List Int) (x:Int):Int:=match l.findIdx? (fun y=>x == y) with | some i=>(i:Int) | none=>-1
theorem z6v {l:List Int} {x:Int} {j:Nat} (h:j<l.length) (hn:∀ i (hi:i<l.length),i<j->x≠l[i]) (e:x=l[j]):idxI l x=j:=by
 unfold idxI
 have:l.findIdx? (fun y=>x == y)=some j:=by
  rw [vbl];exact ⟨h,by simp [e],fun i hi=>by have:=hn i ae hi;simpa using this⟩
 rw [this]
theorem z6w {l:List Int} {x:Int} (hn:∀ i (hi:i<l.length),x≠l[i]):idxI l x = -1:=by
 unfold idxI
 have:l.findIdx? (fun y=>x == y)=none:=by
  rw [vcq];intro y hy;obtain ⟨i,hi,rfl⟩:=vba hy;simpa using hn i hi
 rw [this]
theorem z3p (l:List Int) (x:Int):decide (0<=idxI l x)=l.contains x:=by
 unfold idxI
 cases h:l.findIdx? (fun y=>x == y) with
 | none=>
   rw [vcq] at h
   have:l.contains x=false:=by
    rw [vbs];intro hc;have:=h x (by simpa using hc);simp at this
   rw [this];rfl
 | some i=>
   rw [vbl] at h;obtain ⟨hi,e,_⟩:=h
   have:l.contains x=true:=by
    rw [vcj]
    have e':x=l[i]:=by simpa using e
    rw [e'];exact vah _
   rw [this];simp
theorem zxa (l:List Int) (x:Int) (b cap:Nat) (w:World) (h:zis w b l) (hl:l.length<=1000) :
 qc 297 #[.slice (some (qa b 0)) l.length cap,qi x] w fun e w'=>e = .returned (qi (idxI l x))/\w'=w:=by
 have HI:=hid h.2;have Ez:=h.1;clear h;go_enter Tryz.func297,Tryz.ntmps297;go_wp2_with fail
 go_loopw [8,5] (fun i _ wr=>∃ k:Nat,k<=l.length/\i=qi k/\(∀ j (hj:j<l.length),j<k->x≠l[j])/\wr=w) (fun i _ _=>l.length - (intOf i).toNat)
 case atStart=>exact ⟨0,vaf _,rfl,fun _ _ h=>ae,rfl⟩
 case round=>
  obtain ⟨k,hk,rfl,FR,rfl⟩:=hrel;have HN:=hid FR;clear FR
  by_cases A0:k<l.length
  . have c0:=HI.out k A0
    by_cases hx:x=l[k]
    . have HE:=hid (z6v A0 (fun i hi h=>HN.out i hi h) hx)
      have BI:(x == l[k])=true:=by rw [← hx];simp
      generalize l[k]=y at *;subst hx;exact j0
    . have HS:Hid (∀ j (hj:j<l.length),j<k+1->x≠l[j]):=fun j hj h=>by
       rcases vbi j k with h' | h'
       . exact HN.out j hj h'
       . obtain rfl:j=k:=by omega
         exact hx
      generalize l[k]=y at *;go_wp2_with fail;go_roundw
      case rel=>exact ⟨k+1,ae,aR,HS.out,trivial⟩
      case measure=>simp [intOf];omega
  . have HE:=hid (z6w (fun i hi=>HN.out i hi ae))
    obtain rfl:k=l.length:=ae
    exact j0
theorem zf5 (l:List Int) (x:Int) (b cap:Nat) (w:World) (h:zis w b l) (hl:l.length<=1000) :
 qc 287 #[.slice (some (qa b 0)) l.length cap,qi x] w fun e w'=>e = .returned (.bool (l.contains x))/\w'=w:=by
 have HC:=hid (zxa l x b cap w h hl);have HH:=hid (z3p l x);clear h hl;generalize idxI l x=i at *;go_enter Tryz.func287,Tryz.ntmps287
 go_wp2_with (go_at_call 297;refine HC.out.mono ?_;rintro e w' ⟨rfl,rfl⟩)
 go_ret;exact ⟨ret_bool HH.out,rfl⟩
end Go.Proofs.YtndkhgakfodldaaGreatDoor
