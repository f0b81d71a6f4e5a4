import Derived.Test.YtndkhgakfodldaaGreatDoorMxMem
import Derived.Lib.AppendZeros
namespace Go.Proofs.YtndkhgakfodldaaGreatDoor
namespace Mx
open Go.RowKit
structure Grew (w w':World) (B:Nat) (e:TypeId) (sz:Nat) (v:Value) (a':Option Addr) (n' cap':Nat) (xs':List Value):Prop where
 own:w'.ownsRow B e sz (.slice a' n' cap') n' xs'
 grown:w.grownBy w' v.ownBlock
 lies:∀ k,Value.ownBlock (.slice a' n' cap')=some k->k<w.heap.size->v.ownBlock=some k
section
variable {P:Program} (w:World)
theorem zjw (B:Nat) (t ty e:TypeId) (i:TypeInfo) (z:Value) (size bytes:Nat) (ht:P.underlying t=some (.slice e)) (hi:P.info? e=some i) (hz:i.zero=some z)
 (C6:i.size=size) (Dg:i.bytes=bytes) (Ff:z.cells.size=size) (Co:0<size)
 (v:Value) (n:Nat) (xs:List Value) (Ag:w.ownsRow B e size v n xs)
 (xa:Option Addr) (m c:Nat) (news:List Value) (hl:news.length=m*size) (hx:(xa=none/\m=0)\/∃ ad,xa=some ad/\∀ j u,news[j]? = some u->w.cell? (ad.add j)=some u) (h1:∀ u ∈ news,u.oneCell'=true)
 (OM:n+m<=maxLen) (GR:(n+m)*bytes<=140737488355328) (AN:B<=w.heap.size) :
 ∃ a' cap' w',(Builtin.append_ #[t,t] ty #[v,.slice xa m c]).run P w = .ok (.slice a' (n+m) cap') w'/\Grew w w' B e size v a' (n+m) cap' (xs++news):=by
 rcases hx with ⟨rfl,rfl⟩ | ⟨ad,rfl,hnews⟩
 . have hn:news=[]:=List.eq_nil_of_length_eq_zero (by simpa using hl)
   subst hn
   have Ci:∀ a cap,v = .slice a n cap->n<=cap->(Builtin.append_ #[t,t] ty #[v,.slice none 0 c]).run P w = .ok (.slice a (n+0) cap) w:=fun a cap hv hc=>by
    rw [hv]
    cases a<;>simp [Builtin.append_,run_underlying ht,sizeOf,typeInfo,hi,Builtin.lenOf,hc,run_firstCells_none,storeCells]
   rcases Ag.2 with ⟨hv,h0⟩ | ⟨g,cap,AC,hv,hr⟩
   . subst h0
     refine ⟨none,0,w,Ci none 0 hv (Nat.le_refl _),?_,⟨rfl,rfl,rfl,Nat.le_refl _,fun _ _ _=>rfl⟩,fun k hk=>by simp [Value.ownBlock] at hk⟩;rw [List.append_nil,← hv];exact Ag
   . refine ⟨some ⟨g,0,none⟩,cap,w,Ci _ cap hv hr.2.2.1,?_,⟨rfl,rfl,rfl,Nat.le_refl _,fun _ _ _=>rfl⟩,fun k hk _=>by rw [hv];exact hk⟩
     rw [List.append_nil,Nat.add_zero,← hv];exact Ag
 . obtain ⟨v',w',hr,h2,h3,_,h5⟩:=run_append_own_at (P:=P) w B t ty e i z size bytes ht hi hz C6 Dg Ff Co v n xs Ag ad m c news hl hnews h1 OM GR AN
   have FZ:∀ k,v'.ownBlock=some k->k<w.heap.size->v.ownBlock=some k:=fun k hk A0=>by
    rcases h5 with h5 | h5
    . rw [← h5];exact hk
    . rw [h5] at hk
      have e:w.heap.size=k:=Option.some.inj hk;omega
   rcases h2.2 with ⟨hv,h0⟩ | ⟨g,cap,AC,hv,_⟩
   . subst hv
     refine ⟨none,0,w',by rw [h0];exact hr,?_,h3,fun k hk A0=>FZ k hk A0⟩;rw [h0] at h2 ⊢;exact h2
   . subst hv
     exact ⟨_,cap,w',hr,h2,h3,FZ⟩
theorem zul (n:Nat):(Builtin.zeroCells #[.int .i64 0] n).toList=ints (List.replicate n 0):=by
 apply List.ext_getElem?
 intro i
 by_cases h:i<n
 . simp [Builtin.zeroCells,ints,h,Nat.mod_one]
 . simp [Builtin.zeroCells,ints,h]
theorem ziz (B:Nat) (t tn ty e:TypeId) (i:TypeInfo) (kn:IntKind) (ht:P.underlying t=some (.slice e)) (KC:P.underlying tn=some (.int kn)) (hi:P.info? e=some i) (hz:i.zero=some (.int .i64 0))
 (C6:i.size=1) (Dg:i.bytes=8)
 (v:Value) (n:Nat) (xs:List Value) (Ag:w.ownsRow B e 1 v n xs) (m:Nat) (OM:n+m<=1000000) (AN:B<=w.heap.size) :
 ∃ a' cap' w',(Builtin.append_ #[t,tn] ty #[v,.int .i64 m]).run P w = .ok (.slice a' (n+m) cap') w'/\Grew w w' B e 1 v a' (n+m) cap' (xs++ints (List.replicate m 0)):=by
 have hw:IntKind.i64.wrap (m:Int)=m:=by rw [IntKind.wrap_i64];omega
 have J8:¬ ((m:Int)<0):=by omega
 have FC:¬ (281474976710656<(m:Int)*8):=by omega
 have I8:=zul m
 have h1:∀ u ∈ (Builtin.zeroCells #[.int .i64 0] m).toList,u.oneCell'=true:=by rw [I8];exact zs5 _
 have Dt:(Builtin.zeroCells #[.int .i64 0] m).toList.length=m:=by rw [I8,zce,List.length_replicate]
 have Bg:(Value.int .i64 0).cells=#[.int .i64 0]:=rfl
 have Ed:IntKind.i64.wrap 0=0:=by rw [IntKind.wrap_i64];omega
 by_cases hm:m=0
 . subst hm
   have Ci:∀ a cap,v = .slice a n cap->n<=cap->(Builtin.append_ #[t,tn] ty #[v,.int .i64 ((0:Nat):Int)]).run P w = .ok (.slice a (n+0) cap) w:=fun a cap hv hc=>by
    rw [hv]
    cases a<;>simp [Builtin.append_,run_underlying ht,run_underlying KC,sizeOf,typeInfo,hi,asInt,asIntOf,Ed,hc,storeCells]
   rw [List.replicate_zero,show ints []=[] from rfl,List.append_nil]
   rcases Ag.2 with ⟨hv,h0⟩ | ⟨g,cap,AC,hv,hr⟩
   . subst h0
     refine ⟨none,0,w,Ci none 0 hv (Nat.le_refl _),?_,⟨rfl,rfl,rfl,Nat.le_refl _,fun _ _ _=>rfl⟩,fun k hk=>by simp [Value.ownBlock] at hk⟩;rw [← hv];exact Ag
   . refine ⟨some ⟨g,0,none⟩,cap,w,Ci _ cap hv hr.2.2.1,?_,⟨rfl,rfl,rfl,Nat.le_refl _,fun _ _ _=>rfl⟩,fun k hk _=>by rw [hv];exact hk⟩
     rw [Nat.add_zero,← hv];exact Ag
 have Dy:¬ (m*1=0):=by omega
 have Ai:(xs++ints (List.replicate m 0)).length=(n+m)*1:=by rw [List.length_append,Ag.1,zce,List.length_replicate];omega
 rcases Ag.2 with ⟨rfl,rfl⟩ | ⟨g,cap,AC,rfl,KR,hg,hnc,Ow,AY,htake⟩
 . have hx:xs=[]:=List.eq_nil_of_length_eq_zero (by simpa using Ag.1)
   subst hx;have hr:=Lib.run_append_nil_zeros (P:=P) w t tn ty e i _ .i64 kn ht KC hi hz m (by omega) (by omega) (by omega) (by rw [Dg];omega);simp only [Nat.zero_add,List.nil_append];refine ⟨_,_,_,hr,⟨by rw [zce,List.length_replicate,Nat.mul_one],.inr ⟨w.heap.size,_,_,rfl,AN,heap_alloc_new w.drew _,grownCap_ge w m 0 e,grownCap_le_maxLen w m 0 e (by unfold maxLen;omega),?_,?_⟩⟩,⟨rfl,rfl,rfl,by simp,fun k hk _=>Below.heap_alloc w.drew _ k hk⟩,fun k hk A0=>?_⟩
   . have:=grownCap_ge w m 0 e
     rw [Array.size_append,Bg,size_zeroCells,size_zeroCells];simp;omega
   . rw [Bg,Array.toList_append,Nat.mul_one,List.take_append_of_le_length (by rw [Dt];exact Nat.le_refl _),List.take_of_length_le (by rw [Dt];exact Nat.le_refl _),I8]
   . have e:w.heap.size=k:=by simpa [Value.ownBlock] using hk
     omega
 . by_cases Ey:n+m<=cap
   . have Cf:=run_storeCells_at (P:=P) g n e (Builtin.zeroCells #[.int .i64 0] m).toList 0 AC w hg (by rw [Dt,AY];omega) h1
     simp only [Nat.add_zero] at Cf;refine ⟨some ⟨g,0,none⟩,cap,w.setRow g (AC.toList.take n++(Builtin.zeroCells #[.int .i64 0] m).toList++AC.toList.drop (n+(Builtin.zeroCells #[.int .i64 0] m).toList.length)).toArray,?_,⟨Ai,.inr ⟨g,cap,_,rfl,KR,setRow_heap w g AC _ e _ hg,Ey,Ow,?_,?_⟩⟩,⟨rfl,rfl,rfl,by simp,fun k _ hk=>setRow_other w g k _ (fun e=>hk (by simp [Value.ownBlock,e]))⟩,fun k hk _=>hk⟩
     . simp [Builtin.append_,run_underlying ht,run_underlying KC,sizeOf,typeInfo,zeroValue,hi,hz,asInt,asIntOf,hw,J8,FC,C6,Dg,Ey,hm,Bg,Addr.add_lit,Cf]
     . simp only [List.size_toArray,List.length_append,List.length_take,List.length_drop,Array.length_toList,Dt]
       omega
     . simp only [Nat.mul_one] at htake Ai ⊢
       rw [htake,I8,← Ai];exact List.take_left
   . have J5:∀ j u,xs[j]? = some u->w.drew.cell? ((⟨g,0,none⟩:Addr).add j)=some u:=Ag.cells (g:=g) rfl
     have Fk:=run_firstCells_some (P:=P) w.drew 1 n ⟨g,0,none⟩ n cap xs Ag.1 J5;have Fu:=grownCap_ge w (n+m) cap e
     have MG:¬ (9223372036854775807<(n:Int)+(m:Int)):=by omega
     have Bo:¬ (281474976710656<Builtin.nextslicecap (n+m) cap*8):=by
      have:=growslice_fits (need:=n+m) (old:=cap) (bytes:=8) (by omega) (by omega);omega
     refine ⟨some ⟨w.heap.size,0,none⟩,grownCap w (n+m) cap e,w.drew.alloc (.cells (xs.toArray++(Builtin.zeroCells #[.int .i64 0] m)++Builtin.zeroCells #[.int .i64 0] (grownCap w (n+m) cap e - (n+m))) e),?_,⟨Ai,.inr ⟨w.heap.size,_,_,rfl,AN,heap_alloc_new w.drew _,Fu,grownCap_le_maxLen w (n+m) cap e (by unfold maxLen;omega),?_,?_⟩⟩,⟨rfl,rfl,rfl,by simp,fun k hk _=>Below.heap_alloc w.drew _ k hk⟩,fun k hk A0=>?_⟩
     . simp [Builtin.append_,run_underlying ht,run_underlying KC,sizeOf,typeInfo,zeroValue,hi,hz,asInt,asIntOf,hw,J8,FC,C6,Dg,Ey,hm,Bg,MG,Bo,Question.forced,newRow,grownCap,Fk]
     . rw [Array.size_append,Array.size_append,size_zeroCells,size_zeroCells,List.size_toArray,Ag.1]
       simp;omega
     . simp only [Nat.mul_one] at Ai ⊢
       rw [Array.toList_append,Array.toList_append,I8,List.append_assoc,← List.append_assoc,← Ai];exact List.take_left
     . have e:w.heap.size=k:=by simpa [Value.ownBlock] using hk
       omega
end
theorem step_append_run {P:Program} {w:World} {ops:Array Oper} {o:Oper} {a:Act} {K:Act->World->Prop} {Q:Exit->Act->World->Prop} {E:Prop} (BC:o.guard=none) (s x:Operand) (t tn:TypeId)
 (ho:o.op = .call { callee:=.builtin .append,args:=#[s,x],argTypes:=#[t,tn] }) (vs vx:Value) (hs:a.eval s=vs) (hx:a.eval x=vx)
 (v':Value) (w':World) (hr:(Builtin.append_ #[t,tn] o.type #[vs,vx]).run P w = .ok v' w') (h:K (a.put o.dst v') w'):if Region.wanted o (yielded ops a.tmps)=true then Oper.wp P o a w K Q else E:=by
 have hw:Region.wanted o (yielded ops a.tmps)=true:=by simp [Region.wanted,BC]
 rw [if_pos hw];exact Lib.wp_append_run w s x t tn ho vs vx hs hx v' w' hr h
theorem zel {P:Program} {w:World} {ops:Array Oper} {o:Oper} {a:Act} {K:Act->World->Prop} {Q:Exit->Act->World->Prop} {E:Prop} (BC:o.guard=none) (s x:Operand) (t tn:TypeId)
 (ho:o.op = .call { callee:=.builtin .append,args:=#[s,x],argTypes:=#[t,tn] }) (vs vx:Value) (hs:a.eval s=vs) (hx:a.eval x=vx) {n:Nat} {G:Option Addr->Nat->World->Prop}
 (Ml:∃ a' cap' w',(Builtin.append_ #[t,tn] o.type #[vs,vx]).run P w = .ok (.slice a' n cap') w'/\G a' cap' w') (h:∀ a' cap' w',G a' cap' w'->K (a.put o.dst (.slice a' n cap')) w'):if Region.wanted o (yielded ops a.tmps)=true then Oper.wp P o a w K Q else E:=by
 obtain ⟨a',cap',w',hr,hG⟩:=Ml;exact step_append_run BC s x t tn ho vs vx hs hx _ w' hr (h a' cap' w' hG)
theorem zdq {P:Program} {w:World} {ops:Array Oper} {rest:List Oper} {o:Oper} {a:Act} {Q:Exit->Act->World->Prop} (BC:o.guard=none) (s x:Operand) (t tn:TypeId)
 (ho:o.op = .call { callee:=.builtin .append,args:=#[s,x],argTypes:=#[t,tn] }) (vs vx:Value) (hs:a.eval s=vs) (hx:a.eval x=vx) {n:Nat} {G:Option Addr->Nat->World->Prop}
 (Ml:∃ a' cap' w',(Builtin.append_ #[t,tn] o.type #[vs,vx]).run P w = .ok (.slice a' n cap') w'/\G a' cap' w') (h:∀ a' cap' w',G a' cap' w'->wpList P ops Q rest (a.put o.dst (.slice a' n cap')) w'):wpList P ops Q (o :: rest) a w:=by
 obtain ⟨a',cap',w',hr,hG⟩:=Ml;exact Lib.wpList_append_run w BC s x t tn ho vs vx hs hx _ w' hr (h a' cap' w' hG)
end Mx
end Go.Proofs.YtndkhgakfodldaaGreatDoor
