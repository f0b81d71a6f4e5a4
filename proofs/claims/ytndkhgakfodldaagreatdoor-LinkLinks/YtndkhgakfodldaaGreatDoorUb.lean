import Derived.Test.YtndkhgakfodldaaGreatDoorTd
import Derived.DeepKeys4
set_option maxRecDepth 100000
set_option maxHeartbeats 800000
open Go.Proofs.Tryz
namespace Go.Proofs.YtndkhgakfodldaaGreatDoor
open Go.RowKit Go.Maps Go.WideMaps
variable {l:List Int} {v:Value} {w r:World} {x:Int}
def Mg.val (x:Mg):Value:=.agg #[em x.kind,em x.n,em x.m,em x.at_]
def jg (w:World) (v:Value) (K:Kn):Prop:=∀ r,et w r->∀ s u:ByteArray,s.size<=maxLen->u.size<=maxLen->
 (Instr.lookup 187 v (.agg #[.string s,.string u]) true).run prog r = .ok (.tuple #[((K s u).getD hf).val,.bool (K s u).isSome]) r
def jr (w:World) (v:Value) (L:Lc):Prop:=∀ r,et w r->∀ s:ByteArray,s.size<=maxLen->
 (Instr.lookup 185 v (.string s) true).run prog r = .ok (.tuple #[em ((L s).getD 0),.bool (L s).isSome]) r
theorem jg.later {K:Kn} (h:jg w v K) (F:et w r):jg r v K:=fun T q s u=>h T (es F q) s u
theorem jr.later {L:Lc} (h:jr w v L) (F:et w r):jr r v L:=fun T q s=>h T (es F q) s
def oH (w:World) (b:Nat) (l:List Int):Prop:=b<w.heap.size/\∀ j (h:j<l.length),w.cell? (ep b j)=some (em l[j])
theorem oH.later {b:Nat} (h:oH w b l) (F:et w r):oH r b l:=
 ⟨gl h.1 F.size,fun j ac=>(F.cell (p:=(ep b j)) h.1).trans (h.2 j ac)⟩
def pC (l:List Int) (x:Int):Int:=match l.findIdx? (fun o=>x == o) with | some i=>(i:Int) | none=>-1
theorem Hl {j:Nat} (h:j<l.length) (U:∀ i (X:i<l.length),i<j->x≠l[i]) (e:x=l[j]):pC l x=j:=by
 unfold pC
 have:l.findIdx? (fun o=>x == o)=some j:=by
  rw [rc];exact ⟨h,by simp [e],fun i X=>by have:=U i (by omega) X;simpa using this⟩
 rw [this]
theorem Hn (U:∀ i (X:i<l.length),x≠l[i]):pC l x = -1:=by
 unfold pC
 have:l.findIdx? (fun o=>x == o)=none:=by
  rw [tQ];intro o z;obtain ⟨i,X,rfl⟩:=kx z;simpa using U i X
 rw [this]
theorem Ho (l:List Int) (x:Int):decide (0<=pC l x)=l.contains x:=by
 unfold pC
 cases h:l.findIdx? (fun o=>x == o) with
 | none=>
   rw [tQ] at h
   have:l.contains x=false:=by
    rw [mU];intro a1;have:=h x (by simpa using a1);simp at this
   rw [this];rfl
 | some i=>
   rw [rc] at h;obtain ⟨X,e,_⟩:=h
   have:l.contains x=true:=by
    rw [rj]
    have A:x=l[i]:=by simpa using e
    rw [A];exact fO _
   rw [this];simp
theorem Hp (l:List Int) (x:Int) (b I:Nat) (w:World) (h:oH w b l) (a2:l.length<=1000) :
 ew 297 #[.slice (some (ep b 0)) l.length I,em x] w fun e r=>e = .returned (em (pC l x))/\r=w:=by
 have az:=hid h.2;have bk:=h.1;clear h;go_enter func297,ntmps297;go_wp2_with fail
 go_loopw [8,5] (fun i _ wr=>∃ k:Nat,k<=l.length/\i=em k/\(∀ j (ac:j<l.length),j<k->x≠l[j])/\wr=w) (fun i _ _=>l.length - (intOf i).toNat)
 case atStart=>exact ⟨0,eY _,rfl,fun _ _ h=>by omega,rfl⟩
 case round=>
  obtain ⟨k,N,rfl,a,rfl⟩:=hrel;have aF:=hid a;clear a
  by_cases a0:k<l.length
  . have bh:=az k a0
    by_cases Q:x=l[k]
    . have aH:=hid (Hl a0 (fun i X h=>aF i X h) Q)
      have a3:(x == l[k])=true:=by rw [← Q];simp
      generalize l[k]=o at *;subst Q;go_wp2_with fail;go_ret;exact ⟨ret_int aH.symm,rfl⟩
    . have aJ:Hid (∀ j (ac:j<l.length),j<k+1->x≠l[j]):=fun j ac h=>by
       rcases iS j k with q | q
       . exact aF j ac q
       . obtain rfl:j=k:=by omega
         exact Q
      generalize l[k]=o at *;go_wp2_with fail;go_roundw
      case rel=>exact ⟨k+1,by omega,by go_num,aJ,trivial⟩
      case measure=>simp [intOf];omega
  . have aH:=hid (Hn (fun i X=>aF i X (by omega)))
    obtain rfl:k=l.length:=by omega
    go_wp2_with fail;go_ret;exact ⟨ret_int aH.symm,rfl⟩
theorem xv (l:List Int) (x:Int) (b I:Nat) (w:World) (h:oH w b l) (a2:l.length<=1000) :
 ew 287 #[.slice (some (ep b 0)) l.length I,em x] w fun e r=>e = .returned (.bool (l.contains x))/\r=w:=by
 have ao:=hid (Hp l x b I w h a2);have S:=hid (Ho l x);clear h a2;generalize pC l x=i at *;go_enter func287,ntmps287
 go_wp2_with (go_at_call 297;refine ao.mono ?_;rintro e r ⟨rfl,rfl⟩)
 go_ret;exact ⟨ret_bool S,rfl⟩
end Go.Proofs.YtndkhgakfodldaaGreatDoor
