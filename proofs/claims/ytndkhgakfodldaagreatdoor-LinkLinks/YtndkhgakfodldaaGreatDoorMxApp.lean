import Derived.Test.YtndkhgakfodldaaGreatDoorMxMem
import Derived.Lib.AppendZeros
namespace Go.Proofs.YtndkhgakfodldaaGreatDoor
namespace Mx
open Go.RowKit
structure Grew (w w':World) (B:Nat) (e:TypeId) (sz:Nat) (v:Value) (a':Option Addr) (n' cap':Nat) (xs':List Value):Prop where
 own:w'.ownsRow B e sz (.slice a' n' cap') n' xs'
 grown:w.grownBy w' v.ownBlock
 lies:∀ k,Value.ownBlock (.slice a' n' cap')=some k->k<w.heap.size->v.ownBlock=some k
section
variable {P:Program} (w:World)
theorem zlf (B:Nat) (t ty e:TypeId) (i:TypeInfo) (z:Value) (size bytes:Nat) (ht:P.underlying t=some (.slice e)) (hi:P.info? e=some i) (hz:i.zero=some z)
 (Cg:i.size=size) (DF:i.bytes=bytes) (G7:z.cells.size=size) (Cy:0<size)
 (v:Value) (n:Nat) (xs:List Value) (Ag:w.ownsRow B e size v n xs)
 (xa:Option Addr) (m c:Nat) (news:List Value) (hl:news.length=m*size) (hx:(xa=none/\m=0)\/∃ ad,xa=some ad/\∀ j u,news[j]? = some u->w.cell? (ad.add j)=some u) (h1:∀ u ∈ news,u.oneCell'=true)
 (Q5:n+m<=maxLen) (Io:(n+m)*bytes<=140737488355328) (AQ:B<=w.heap.size) :
 ∃ a' cap' w',(Builtin.append_ #[t,t] ty #[v,.slice xa m c]).run P w = .ok (.slice a' (n+m) cap') w'/\Grew w w' B e size v a' (n+m) cap' (xs++news):=by
 rcases hx with ⟨rfl,rfl⟩ | ⟨ad,rfl,hnews⟩
 . have hn:news=[]:=List.eq_nil_of_length_eq_zero (by simpa using hl)
   subst hn
   have Cp:∀ a cap,v = .slice a n cap->n<=cap->(Builtin.append_ #[t,t] ty #[v,.slice none 0 c]).run P w = .ok (.slice a (n+0) cap) w:=fun a cap hv hc=>by
    rw [hv]
    cases a<;>simp [Builtin.append_,run_underlying ht,sizeOf,typeInfo,hi,Builtin.lenOf,hc,run_firstCells_none,storeCells]
   rcases Ag.2 with ⟨hv,h0⟩ | ⟨g,cap,AD,hv,hr⟩
   . subst h0
     refine ⟨none,0,w,Cp none 0 hv (Nat.le_refl _),?_,⟨rfl,rfl,rfl,Nat.le_refl _,fun _ _ _=>rfl⟩,fun k hk=>by simp [Value.ownBlock] at hk⟩;rw [List.append_nil,← hv];exact Ag
   . refine ⟨some ⟨g,0,none⟩,cap,w,Cp _ cap hv hr.2.2.1,?_,⟨rfl,rfl,rfl,Nat.le_refl _,fun _ _ _=>rfl⟩,fun k hk _=>by rw [hv];exact hk⟩
     rw [List.append_nil,Nat.add_zero,← hv];exact Ag
 . obtain ⟨v',w',hr,h2,h3,_,h5⟩:=run_append_own_at (P:=P) w B t ty e i z size bytes ht hi hz Cg DF G7 Cy v n xs Ag ad m c news hl hnews h1 Q5 Io AQ
   have GZ:∀ k,v'.ownBlock=some k->k<w.heap.size->v.ownBlock=some k:=fun k hk A0=>by
    rcases h5 with h5 | h5
    . rw [← h5];exact hk
    . rw [h5] at hk
      have e:w.heap.size=k:=Option.some.inj hk;omega
   rcases h2.2 with ⟨hv,h0⟩ | ⟨g,cap,AD,hv,_⟩
   . subst hv
     refine ⟨none,0,w',by rw [h0];exact hr,?_,h3,fun k hk A0=>GZ k hk A0⟩;rw [h0] at h2 ⊢;exact h2
   . subst hv
     exact ⟨_,cap,w',hr,h2,h3,GZ⟩
theorem zwo (n:Nat):(Builtin.zeroCells #[.int .i64 0] n).toList=ints (List.replicate n 0):=by
 apply List.ext_getElem?
 intro i
 by_cases h:i<n
 . simp [Builtin.zeroCells,ints,h,Nat.mod_one]
 . simp [Builtin.zeroCells,ints,h]
theorem zkc (B:Nat) (t tn ty e:TypeId) (i:TypeInfo) (kn:IntKind) (ht:P.underlying t=some (.slice e)) (LH:P.underlying tn=some (.int kn)) (hi:P.info? e=some i) (hz:i.zero=some (.int .i64 0))
 (Cg:i.size=1) (DF:i.bytes=8)
 (v:Value) (n:Nat) (xs:List Value) (Ag:w.ownsRow B e 1 v n xs) (m:Nat) (Q5:n+m<=1000000) (AQ:B<=w.heap.size) :
 ∃ a' cap' w',(Builtin.append_ #[t,tn] ty #[v,.int .i64 m]).run P w = .ok (.slice a' (n+m) cap') w'/\Grew w w' B e 1 v a' (n+m) cap' (xs++ints (List.replicate m 0)):=by
 have hw:IntKind.i64.wrap (m:Int)=m:=by rw [IntKind.wrap_i64];omega
 have K5:¬ ((m:Int)<0):=ag
 have Gw:¬ (281474976710656<(m:Int)*8):=ag
 have J9:=zwo m
 have h1:∀ u ∈ (Builtin.zeroCells #[.int .i64 0] m).toList,u.oneCell'=true:=by rw [J9];exact zu3 _
 have E2:(Builtin.zeroCells #[.int .i64 0] m).toList.length=m:=by rw [J9,zct,List.length_replicate]
 have Bk:(Value.int .i64 0).cells=#[.int .i64 0]:=rfl
 have ER:IntKind.i64.wrap 0=0:=by rw [IntKind.wrap_i64];omega
 by_cases hm:m=0
 . subst hm
   have Cp:∀ a cap,v = .slice a n cap->n<=cap->(Builtin.append_ #[t,tn] ty #[v,.int .i64 ((0:Nat):Int)]).run P w = .ok (.slice a (n+0) cap) w:=fun a cap hv hc=>by
    rw [hv]
    cases a<;>simp [Builtin.append_,run_underlying ht,run_underlying LH,sizeOf,typeInfo,hi,asInt,asIntOf,ER,hc,storeCells]
   rw [List.replicate_zero,show ints []=[] from rfl,List.append_nil]
   rcases Ag.2 with ⟨hv,h0⟩ | ⟨g,cap,AD,hv,hr⟩
   . subst h0
     refine ⟨none,0,w,Cp none 0 hv (Nat.le_refl _),?_,⟨rfl,rfl,rfl,Nat.le_refl _,fun _ _ _=>rfl⟩,fun k hk=>by simp [Value.ownBlock] at hk⟩;rw [← hv];exact Ag
   . refine ⟨some ⟨g,0,none⟩,cap,w,Cp _ cap hv hr.2.2.1,?_,⟨rfl,rfl,rfl,Nat.le_refl _,fun _ _ _=>rfl⟩,fun k hk _=>by rw [hv];exact hk⟩
     rw [Nat.add_zero,← hv];exact Ag
 have E7:¬ (m*1=0):=ag
 have Ah:(xs++ints (List.replicate m 0)).length=(n+m)*1:=by rw [List.length_append,Ag.1,zct,List.length_replicate];omega
 rcases Ag.2 with ⟨rfl,rfl⟩ | ⟨g,cap,AD,rfl,LV,hg,hnc,PP,B5,htake⟩
 . have hx:xs=[]:=List.eq_nil_of_length_eq_zero (by simpa using Ag.1)
   subst hx;have hr:=Lib.run_append_nil_zeros (P:=P) w t tn ty e i _ .i64 kn ht LH hi hz m ag ag ag (by rw [DF];omega);simp only [Nat.zero_add,List.nil_append];refine ⟨_,_,_,hr,⟨by rw [zct,List.length_replicate,Nat.mul_one],.inr ⟨w.heap.size,_,_,rfl,AQ,heap_alloc_new w.drew _,grownCap_ge w m 0 e,grownCap_le_maxLen w m 0 e aQ,?_,?_⟩⟩,⟨rfl,rfl,rfl,aB,fun k hk _=>Below.heap_alloc w.drew _ k hk⟩,fun k hk A0=>?_⟩
   . have:=grownCap_ge w m 0 e
     rw [Array.size_append,Bk,size_zeroCells,size_zeroCells];simp;omega
   . rw [Bk,Array.toList_append,Nat.mul_one,List.take_append_of_le_length (by rw [E2];exact Nat.le_refl _),List.take_of_length_le (by rw [E2];exact Nat.le_refl _),J9]
   . exact jH
 . by_cases Fa:n+m<=cap
   . have Cs:=run_storeCells_at (P:=P) g n e (Builtin.zeroCells #[.int .i64 0] m).toList 0 AD w hg (by rw [E2,B5];omega) h1
     simp only [Nat.add_zero] at Cs;refine ⟨some ⟨g,0,none⟩,cap,w.setRow g (AD.toList.take n++(Builtin.zeroCells #[.int .i64 0] m).toList++AD.toList.drop (n+(Builtin.zeroCells #[.int .i64 0] m).toList.length)).toArray,?_,⟨Ah,.inr ⟨g,cap,_,rfl,LV,setRow_heap w g AD _ e _ hg,Fa,PP,?_,?_⟩⟩,⟨rfl,rfl,rfl,aB,fun k _ hk=>setRow_other w g k _ (fun e=>hk (by simp [Value.ownBlock,e]))⟩,fun k hk _=>hk⟩
     . simp [Builtin.append_,run_underlying ht,run_underlying LH,sizeOf,typeInfo,zeroValue,hi,hz,asInt,asIntOf,hw,K5,Gw,Cg,DF,Fa,hm,Bk,Addr.add_lit,Cs]
     . simp only [List.size_toArray,List.length_append,List.length_take,List.length_drop,Array.length_toList,E2]
       omega
     . simp only [Nat.mul_one] at htake Ah ⊢
       rw [htake,J9,← Ah];exact List.take_left
   . have JY:∀ j u,xs[j]? = some u->w.drew.cell? ((⟨g,0,none⟩:Addr).add j)=some u:=Ag.cells (g:=g) rfl
     have Ge:=run_firstCells_some (P:=P) w.drew 1 n ⟨g,0,none⟩ n cap xs Ag.1 JY;have Gn:=grownCap_ge w (n+m) cap e
     have NQ:¬ (9223372036854775807<(n:Int)+(m:Int)):=ag
     have Bu:¬ (281474976710656<Builtin.nextslicecap (n+m) cap*8):=by
      have:=growslice_fits (need:=n+m) (old:=cap) (bytes:=8) ag ag;omega
     refine ⟨some ⟨w.heap.size,0,none⟩,grownCap w (n+m) cap e,w.drew.alloc (.cells (xs.toArray++(Builtin.zeroCells #[.int .i64 0] m)++Builtin.zeroCells #[.int .i64 0] (grownCap w (n+m) cap e - (n+m))) e),?_,⟨Ah,.inr ⟨w.heap.size,_,_,rfl,AQ,heap_alloc_new w.drew _,Gn,grownCap_le_maxLen w (n+m) cap e aQ,?_,?_⟩⟩,⟨rfl,rfl,rfl,aB,fun k hk _=>Below.heap_alloc w.drew _ k hk⟩,fun k hk A0=>?_⟩
     . simp [Builtin.append_,run_underlying ht,run_underlying LH,sizeOf,typeInfo,zeroValue,hi,hz,asInt,asIntOf,hw,K5,Gw,Cg,DF,Fa,hm,Bk,NQ,Bu,Question.forced,newRow,grownCap,Ge]
     . rw [Array.size_append,Array.size_append,size_zeroCells,size_zeroCells,List.size_toArray,Ag.1]
       simp;omega
     . simp only [Nat.mul_one] at Ah ⊢
       rw [Array.toList_append,Array.toList_append,J9,List.append_assoc,← List.append_assoc,← Ah];exact List.take_left
     . exact jH
end
theorem step_append_run {P:Program} {w:World} {ops:Array Oper} {o:Oper} {a:Act} {K:Act->World->Prop} {Q:Exit->Act->World->Prop} {E:Prop} (BK:o.guard=none) (s x:Operand) (t tn:TypeId)
 (ho:o.op = .call { callee:=.builtin .append,args:=#[s,x],argTypes:=#[t,tn] }) (vs vx:Value) (hs:a.eval s=vs) (hx:a.eval x=vx)
 (v':Value) (w':World) (hr:(Builtin.append_ #[t,tn] o.type #[vs,vx]).run P w = .ok v' w') (h:K (a.put o.dst v') w'):if Region.wanted o (yielded ops a.tmps)=true then Oper.wp P o a w K Q else E:=by
 have hw:Region.wanted o (yielded ops a.tmps)=true:=bL
 rw [if_pos hw];exact Lib.wp_append_run w s x t tn ho vs vx hs hx v' w' hr h
theorem zfe {P:Program} {w:World} {ops:Array Oper} {o:Oper} {a:Act} {K:Act->World->Prop} {Q:Exit->Act->World->Prop} {E:Prop} (BK:o.guard=none) (s x:Operand) (t tn:TypeId)
 (ho:o.op = .call { callee:=.builtin .append,args:=#[s,x],argTypes:=#[t,tn] }) (vs vx:Value) (hs:a.eval s=vs) (hx:a.eval x=vx) {n:Nat} {G:Option Addr->Nat->World->Prop}
 (Nx:∃ a' cap' w',(Builtin.append_ #[t,tn] o.type #[vs,vx]).run P w = .ok (.slice a' n cap') w'/\G a' cap' w') (h:∀ a' cap' w',G a' cap' w'->K (a.put o.dst (.slice a' n cap')) w'):if Region.wanted o (yielded ops a.tmps)=true then Oper.wp P o a w K Q else E:=by
 obtain ⟨a',cap',w',hr,hG⟩:=Nx;exact step_append_run BK s x t tn ho vs vx hs hx _ w' hr (h a' cap' w' hG)
theorem zef {P:Program} {w:World} {ops:Array Oper} {rest:List Oper} {o:Oper} {a:Act} {Q:Exit->Act->World->Prop} (BK:o.guard=none) (s x:Operand) (t tn:TypeId)
 (ho:o.op = .call { callee:=.builtin .append,args:=#[s,x],argTypes:=#[t,tn] }) (vs vx:Value) (hs:a.eval s=vs) (hx:a.eval x=vx) {n:Nat} {G:Option Addr->Nat->World->Prop}
 (Nx:∃ a' cap' w',(Builtin.append_ #[t,tn] o.type #[vs,vx]).run P w = .ok (.slice a' n cap') w'/\G a' cap' w') (h:∀ a' cap' w',G a' cap' w'->wpList P ops Q rest (a.put o.dst (.slice a' n cap')) w'):wpList P ops Q (o :: rest) a w:=by
 obtain ⟨a',cap',w',hr,hG⟩:=Nx;exact Lib.wpList_append_run w BK s x t tn ho vs vx hs hx _ w' hr (h a' cap' w' hG)
end Mx
end Go.Proofs.YtndkhgakfodldaaGreatDoor
