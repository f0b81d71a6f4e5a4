import Derived.Test.YtndkhgakfodldaaGreatDoorMxMem
import Derived.Lib.AppendZeros
namespace Go.Proofs.YtndkhgakfodldaaGreatDoor
namespace Mx
open Go.RowKit
variable {E:Prop} {g:Option Addr->Nat->World->Prop} {K:Act->World->Prop} {P:Program} {T:Exit->Act->World->Prop} {a:Act} {n:Nat} {o:Oper} {ops:Array Oper} {w:World}
structure pd (w w':World) (B:Nat) (e:TypeId) (sz:Nat) (v:Value) (a':Option Addr) (n' cap':Nat) (xs':List Value):Prop where
 own:w'.ownsRow B e sz (.slice a' n' cap') n' xs'
 grown:w.grownBy w' v.ownBlock
 lies:∀ k,Value.ownBlock (.slice a' n' cap')=some k->k<w.heap.size->v.ownBlock=some k
section
variable {P:Program} (w:World)
theorem EE (B:Nat) (t d e:TypeId) (i:TypeInfo) (z:Value) (size bytes:Nat) (aj:P.underlying t=some (.slice e)) (X:P.info? e=some i) (aS:i.zero=some z)
 (a6:i.size=size) (a4:i.bytes=bytes) (C:z.cells.size=size) (O:0<size)
 (v:Value) (n:Nat) (ae:List Value) (aW:w.ownsRow B e size v n ae)
 (x:Option Addr) (m c:Nat) (h:List Value) (a2:h.length=m*size) (Q:(x=none/\m=0)\/∃ y,x=some y/\∀ j u,h[j]? = some u->w.cell? (y.add j)=some u) (G:∀ u ∈ h,u.oneCell'=true)
 (A:n+m<=maxLen) (s:(n+m)*bytes<=140737488355328) (p:B<=w.heap.size) :
 ∃ ad f r,(Builtin.append_ #[t,t] d #[v,.slice x m c]).run P w = .ok (.slice ad (n+m) f) r/\pd w r B e size v ad (n+m) f (ae++h):=by
 rcases Q with ⟨rfl,rfl⟩ | ⟨y,rfl,hnews⟩
 . have U:h=[]:=List.eq_nil_of_length_eq_zero (by simpa using a2)
   subst U
   have b:∀ a I,v = .slice a n I->n<=I->(Builtin.append_ #[t,t] d #[v,.slice none 0 c]).run P w = .ok (.slice a (n+0) I) w:=fun a I a7 a1=>by
    rw [a7]
    cases a<;>simp [Builtin.append_,run_underlying aj,sizeOf,typeInfo,X,Builtin.lenOf,a1,run_firstCells_none,storeCells]
   rcases aW.2 with ⟨a7,a3⟩ | ⟨g,I,o,a7,W⟩
   . subst a3
     refine ⟨none,0,w,b none 0 a7 (Nat.le_refl _),?_,⟨rfl,rfl,rfl,Nat.le_refl _,fun _ _ _=>rfl⟩,fun k N=>by simp [Value.ownBlock] at N⟩;rw [List.append_nil,← a7];exact aW
   . refine ⟨some ⟨g,0,none⟩,I,w,b _ I a7 W.2.2.1,?_,⟨rfl,rfl,rfl,Nat.le_refl _,fun _ _ _=>rfl⟩,fun k N _=>by rw [a7];exact N⟩
     rw [List.append_nil,Nat.add_zero,← a7];exact aW
 . obtain ⟨l,r,W,J,S,_,ap⟩:=run_append_own_at (P:=P) w B t d e i z size bytes aj X aS a6 a4 C O v n ae aW y m c h a2 hnews G A s p
   have q:∀ k,l.ownBlock=some k->k<w.heap.size->v.ownBlock=some k:=fun k N a0=>by
    rcases ap with ap | ap
    . rw [← ap];exact N
    . rw [ap] at N
      have e:w.heap.size=k:=Option.some.inj N;omega
   rcases J.2 with ⟨a7,a3⟩ | ⟨g,I,o,a7,_⟩
   . subst a7
     refine ⟨none,0,r,by rw [a3];exact W,?_,S,fun k N a0=>q k N a0⟩;rw [a3] at J ⊢;exact J
   . subst a7
     exact ⟨_,I,r,W,J,S,q⟩
theorem EF (n:Nat):(Builtin.zeroCells #[.int .i64 0] n).toList=ints (List.replicate n 0):=by
 apply List.ext_getElem?
 intro i
 by_cases h:i<n
 . simp [Builtin.zeroCells,ints,h,Nat.mod_one]
 . simp [Builtin.zeroCells,ints,h]
theorem EG (B:Nat) (t c d e:TypeId) (i:TypeInfo) (D:IntKind) (aj:P.underlying t=some (.slice e)) (l:P.underlying c=some (.int D)) (X:P.info? e=some i) (aS:i.zero=some (.int .i64 0))
 (a6:i.size=1) (a4:i.bytes=8)
 (v:Value) (n:Nat) (ae:List Value) (aW:w.ownsRow B e 1 v n ae) (m:Nat) (A:n+m<=1000000) (p:B<=w.heap.size) :
 ∃ ad f r,(Builtin.append_ #[t,c] d #[v,.int .i64 m]).run P w = .ok (.slice ad (n+m) f) r/\pd w r B e 1 v ad (n+m) f (ae++ints (List.replicate m 0)):=by
 have aq:IntKind.i64.wrap (m:Int)=m:=by rw [IntKind.wrap_i64];omega
 have E:¬ ((m:Int)<0):=by omega
 have C:¬ (281474976710656<(m:Int)*8):=by omega
 have h:=EF m
 have G:∀ u ∈ (Builtin.zeroCells #[.int .i64 0] m).toList,u.oneCell'=true:=by rw [h];exact zO _
 have s:(Builtin.zeroCells #[.int .i64 0] m).toList.length=m:=by rw [h,qh,List.length_replicate]
 have aM:(Value.int .i64 0).cells=#[.int .i64 0]:=rfl
 have ai:IntKind.i64.wrap 0=0:=by rw [IntKind.wrap_i64];omega
 by_cases a8:m=0
 . subst a8
   have b:∀ a I,v = .slice a n I->n<=I->(Builtin.append_ #[t,c] d #[v,.int .i64 ((0:Nat):Int)]).run P w = .ok (.slice a (n+0) I) w:=fun a I a7 a1=>by
    rw [a7]
    cases a<;>simp [Builtin.append_,run_underlying aj,run_underlying l,sizeOf,typeInfo,X,asInt,asIntOf,ai,a1,storeCells]
   rw [List.replicate_zero,show ints []=[] from rfl,List.append_nil]
   rcases aW.2 with ⟨a7,a3⟩ | ⟨g,I,o,a7,W⟩
   . subst a3
     refine ⟨none,0,w,b none 0 a7 (Nat.le_refl _),?_,⟨rfl,rfl,rfl,Nat.le_refl _,fun _ _ _=>rfl⟩,fun k N=>by simp [Value.ownBlock] at N⟩;rw [← a7];exact aW
   . refine ⟨some ⟨g,0,none⟩,I,w,b _ I a7 W.2.2.1,?_,⟨rfl,rfl,rfl,Nat.le_refl _,fun _ _ _=>rfl⟩,fun k N _=>by rw [a7];exact N⟩
     rw [Nat.add_zero,← a7];exact aW
 have ci:¬ (m*1=0):=by omega
 have aT:(ae++ints (List.replicate m 0)).length=(n+m)*1:=by rw [List.length_append,aW.1,qh,List.length_replicate];omega
 rcases aW.2 with ⟨rfl,rfl⟩ | ⟨g,I,o,rfl,q,af,hnc,z,R,htake⟩
 . have Q:ae=[]:=List.eq_nil_of_length_eq_zero (by simpa using aW.1)
   subst Q;have W:=Lib.run_append_nil_zeros (P:=P) w t c d e i _ .i64 D aj l X aS m (by omega) (by omega) (by omega) (by rw [a4];omega);simp only [Nat.zero_add,List.nil_append];refine ⟨_,_,_,W,⟨by rw [qh,List.length_replicate,Nat.mul_one],.inr ⟨w.heap.size,_,_,rfl,p,heap_alloc_new w.drew _,grownCap_ge w m 0 e,grownCap_le_maxLen w m 0 e (by unfold maxLen;omega),?_,?_⟩⟩,⟨rfl,rfl,rfl,by simp,fun k N _=>Below.heap_alloc w.drew _ k N⟩,fun k N a0=>?_⟩
   . have:=grownCap_ge w m 0 e
     rw [Array.size_append,aM,size_zeroCells,size_zeroCells];simp;omega
   . rw [aM,Array.toList_append,Nat.mul_one,List.take_append_of_le_length (by rw [s];exact Nat.le_refl _),List.take_of_length_le (by rw [s];exact Nat.le_refl _),h]
   . have e:w.heap.size=k:=by simpa [Value.ownBlock] using N
     omega
 . by_cases y:n+m<=I
   . have b6:=run_storeCells_at (P:=P) g n e (Builtin.zeroCells #[.int .i64 0] m).toList 0 o w af (by rw [s,R];omega) G
     simp only [Nat.add_zero] at b6;refine ⟨some ⟨g,0,none⟩,I,w.setRow g (o.toList.take n++(Builtin.zeroCells #[.int .i64 0] m).toList++o.toList.drop (n+(Builtin.zeroCells #[.int .i64 0] m).toList.length)).toArray,?_,⟨aT,.inr ⟨g,I,_,rfl,q,setRow_heap w g o _ e _ af,y,z,?_,?_⟩⟩,⟨rfl,rfl,rfl,by simp,fun k _ N=>setRow_other w g k _ (fun e=>N (by simp [Value.ownBlock,e]))⟩,fun k N _=>N⟩
     . simp [Builtin.append_,run_underlying aj,run_underlying l,sizeOf,typeInfo,zeroValue,X,aS,asInt,asIntOf,aq,E,C,a6,a4,y,a8,aM,Addr.add_lit,b6]
     . simp only [List.size_toArray,List.length_append,List.length_take,List.length_drop,Array.length_toList,s]
       omega
     . simp only [Nat.mul_one] at htake aT ⊢
       rw [htake,h,← aT];exact List.take_left
   . have H:∀ j u,ae[j]? = some u->w.drew.cell? ((⟨g,0,none⟩:Addr).add j)=some u:=aW.cells (g:=g) rfl
     have x:=run_firstCells_some (P:=P) w.drew 1 n ⟨g,0,none⟩ n I ae aW.1 H;have L:=grownCap_ge w (n+m) I e
     have F:¬ (9223372036854775807<(n:Int)+(m:Int)):=by omega
     have c7:¬ (281474976710656<Builtin.nextslicecap (n+m) I*8):=by
      have:=growslice_fits (need:=n+m) (old:=I) (bytes:=8) (by omega) (by omega);omega
     refine ⟨some ⟨w.heap.size,0,none⟩,grownCap w (n+m) I e,w.drew.alloc (.cells (ae.toArray++(Builtin.zeroCells #[.int .i64 0] m)++Builtin.zeroCells #[.int .i64 0] (grownCap w (n+m) I e - (n+m))) e),?_,⟨aT,.inr ⟨w.heap.size,_,_,rfl,p,heap_alloc_new w.drew _,L,grownCap_le_maxLen w (n+m) I e (by unfold maxLen;omega),?_,?_⟩⟩,⟨rfl,rfl,rfl,by simp,fun k N _=>Below.heap_alloc w.drew _ k N⟩,fun k N a0=>?_⟩
     . simp [Builtin.append_,run_underlying aj,run_underlying l,sizeOf,typeInfo,zeroValue,X,aS,asInt,asIntOf,aq,E,C,a6,a4,y,a8,aM,F,c7,Question.forced,newRow,grownCap,x]
     . rw [Array.size_append,Array.size_append,size_zeroCells,size_zeroCells,List.size_toArray,aW.1]
       simp;omega
     . simp only [Nat.mul_one] at aT ⊢
       rw [Array.toList_append,Array.toList_append,h,List.append_assoc,← List.append_assoc,← aT];exact List.take_left
     . have e:w.heap.size=k:=by simpa [Value.ownBlock] using N
       omega
end
theorem step_append_run (m:o.guard=none) (s x:Operand) (t c:TypeId)
 (aa:o.op = .call { callee:=.builtin .append,args:=#[s,x],argTypes:=#[t,c] }) (p b:Value) (Z:a.eval s=p) (Q:a.eval x=b)
 (v':Value) (r:World) (W:(Builtin.append_ #[t,c] o.type #[p,b]).run P w = .ok v' r) (h:K (a.put o.dst v') r):if Region.wanted o (yielded ops a.tmps)=true then Oper.wp P o a w K T else E:=by
 have aq:Region.wanted o (yielded ops a.tmps)=true:=by simp [Region.wanted,m]
 rw [if_pos aq];exact Lib.wp_append_run w s x t c aa p b Z Q v' r W h
theorem v6 (m:o.guard=none) (s x:Operand) (t c:TypeId)
 (aa:o.op = .call { callee:=.builtin .append,args:=#[s,x],argTypes:=#[t,c] }) (p b:Value) (Z:a.eval s=p) (Q:a.eval x=b)
 (d:∃ ad f r,(Builtin.append_ #[t,c] o.type #[p,b]).run P w = .ok (.slice ad n f) r/\g ad f r) (h:∀ ad f r,g ad f r->K (a.put o.dst (.slice ad n f)) r):if Region.wanted o (yielded ops a.tmps)=true then Oper.wp P o a w K T else E:=by
 obtain ⟨ad,f,r,W,A⟩:=d;exact step_append_run m s x t c aa p b Z Q _ r W (h ad f r A)
theorem v7 {rest:List Oper} (m:o.guard=none) (s x:Operand) (t c:TypeId)
 (aa:o.op = .call { callee:=.builtin .append,args:=#[s,x],argTypes:=#[t,c] }) (p b:Value) (Z:a.eval s=p) (Q:a.eval x=b)
 (d:∃ ad f r,(Builtin.append_ #[t,c] o.type #[p,b]).run P w = .ok (.slice ad n f) r/\g ad f r) (h:∀ ad f r,g ad f r->wpList P ops T rest (a.put o.dst (.slice ad n f)) r):wpList P ops T (o :: rest) a w:=by
 obtain ⟨ad,f,r,W,A⟩:=d;exact Lib.wpList_append_run w m s x t c aa p b Z Q _ r W (h ad f r A)
end Mx
end Go.Proofs.YtndkhgakfodldaaGreatDoor
