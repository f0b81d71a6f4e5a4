import Derived.Test.YtndkhgakfodldaaGreatDoorTd
import Derived.DeepKeys4
set_option maxRecDepth 100000
set_option maxHeartbeats 800000
open Go.Proofs.Tryz
namespace Go.Proofs.YtndkhgakfodldaaGreatDoor
open Go.RowKit Go.Maps Go.WideMaps
variable {l:List Int} {v:Value} {w G:World} {x:Int}
def Mg.val (x:Mg):Value:=.agg #[di x.kind,di x.n,di x.m,di x.at_]
def iW (w:World) (v:Value) (K:Kn):Prop:=∀ G,dm w G->∀ p s:ByteArray,p.size<=maxLen->s.size<=maxLen->
 (Instr.lookup 187 v (.agg #[.string p,.string s]) true).run prog G = .ok (.tuple #[((K p s).getD gI).val,.bool (K p s).isSome]) G
def jd (w:World) (v:Value) (L:Lc):Prop:=∀ G,dm w G->∀ o:ByteArray,o.size<=maxLen->
 (Instr.lookup 185 v (.string o) true).run prog G = .ok (.tuple #[di ((L o).getD 0),.bool (L o).isSome]) G
theorem iW.later {K:Kn} (h:iW w v K) (I:dm w G):iW G v K:=fun a7 a5 p s=>h a7 (dp I a5) p s
theorem jd.later {L:Lc} (h:jd w v L) (I:dm w G):jd G v L:=fun a7 a5 o=>h a7 (dp I a5) o
def oQ (w:World) (b:Nat) (l:List Int):Prop:=b<w.heap.size/\∀ j (h:j<l.length),w.cell? (dj b j)=some (di l[j])
theorem oQ.later {b:Nat} (h:oQ w b l) (I:dm w G):oQ G b l:=
 ⟨e4 h.1 I.size,fun j a2=>(I.cell (p:=(dj b j)) h.1).trans (h.2 j a2)⟩
def pL (l:List Int) (x:Int):Int:=match l.findIdx? (fun a3=>x == a3) with | some i=>(i:Int) | none=>-1
theorem JU {j:Nat} (h:j<l.length) (Z:∀ i (V:i<l.length),i<j->x≠l[i]) (e:x=l[j]):pL l x=j:=by
 unfold pL
 have:l.findIdx? (fun a3=>x == a3)=some j:=by
  rw [uN];exact ⟨h,by simp [e],fun i V=>by have:=Z i N7 V;simpa using this⟩
 rw [this]
theorem JV (Z:∀ i (V:i<l.length),x≠l[i]):pL l x = -1:=by
 unfold pL
 have:l.findIdx? (fun a3=>x == a3)=none:=by
  rw [xi];intro a3 a4;obtain ⟨i,V,rfl⟩:=kI a4;simpa using Z i V
 rw [this]
theorem JW (l:List Int) (x:Int):decide (0<=pL l x)=l.contains x:=by
 unfold pL
 cases h:l.findIdx? (fun a3=>x == a3) with
 | none=>
   rw [xi] at h
   have:l.contains x=false:=by
    rw [Bool.eq_false_iff];intro W;have:=h x (by simpa using W);simp at this
   rw [this];rfl
 | some i=>
   rw [uN] at h;obtain ⟨V,e,_⟩:=h
   have:l.contains x=true:=by
    rw [uQ]
    have a0:x=l[i]:=by simpa using e
    rw [a0];exact eb _
   rw [this];simp
theorem JX (l:List Int) (x:Int) (b q:Nat) (w:World) (h:oQ w b l) (X:l.length<=1000) :
 dw 297 #[.slice (some (dj b 0)) l.length q,di x] w fun e G=>e = .returned (di (pL l x))/\G=w:=by
 have y:=hid h.2;have aR:=h.1;clear h;go_enter func297,ntmps297;go_wp2_with fail
 go_loopw [8,5] (fun i _ wr=>∃ k:Nat,k<=l.length/\i=di k/\(∀ j (a2:j<l.length),j<k->x≠l[j])/\wr=w) (fun i _ _=>l.length - (intOf i).toNat)
 case atStart=>exact ⟨0,dY _,rfl,fun _ _ h=>N7,rfl⟩
 case round=>
  obtain ⟨k,N,rfl,P,rfl⟩:=hrel;have aV:=hid P;clear P
  by_cases ac:k<l.length
  . have bt:=y k ac
    by_cases S:x=l[k]
    . have aP:=hid (JU ac (fun i V h=>aV i V h) S)
      have D:(x == l[k])=true:=by rw [← S];simp
      generalize l[k]=a3 at *;subst S;go_wp2_with fail;go_ret;exact ⟨ret_int aP.symm,rfl⟩
    . have aQ:Hid (∀ j (a2:j<l.length),j<k+1->x≠l[j]):=fun j a2 h=>by
       rcases gZ j k with a5 | a5
       . exact aV j a2 a5
       . obtain rfl:j=k:=by omega
         exact S
      generalize l[k]=a3 at *;go_wp2_with fail;go_roundw
      case rel=>exact ⟨k+1,N7,Ou,aQ,trivial⟩
      case measure=>simp [intOf];omega
  . have aP:=hid (JV (fun i V=>aV i V N7))
    obtain rfl:k=l.length:=N7
    go_wp2_with fail;go_ret;exact ⟨ret_int aP.symm,rfl⟩
theorem x9 (l:List Int) (x:Int) (b q:Nat) (w:World) (h:oQ w b l) (X:l.length<=1000) :
 dw 287 #[.slice (some (dj b 0)) l.length q,di x] w fun e G=>e = .returned (.bool (l.contains x))/\G=w:=by
 have ao:=hid (JX l x b q w h X);have aL:=hid (JW l x);clear h X;generalize pL l x=i at *;go_enter func287,ntmps287
 go_wp2_with (go_at_call 297;refine ao.mono ?_;rintro e G ⟨rfl,rfl⟩)
 go_ret;exact ⟨ret_bool aL,rfl⟩
end Go.Proofs.YtndkhgakfodldaaGreatDoor
