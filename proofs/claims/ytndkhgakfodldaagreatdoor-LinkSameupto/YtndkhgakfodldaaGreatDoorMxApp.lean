import Derived.Test.YtndkhgakfodldaaGreatDoorMxMem
import Derived.Lib.AppendZeros
namespace Go.Proofs.YtndkhgakfodldaaGreatDoor
namespace Mx
open Go.RowKit
variable {E:Prop} {d:Option Addr->Nat->World->Prop} {K:Act->World->Prop} {P:Program} {Y:Exit->Act->World->Prop} {a:Act} {n:Nat} {o:Oper} {ops:Array Oper} {w:World}
structure pm (w w':World) (B:Nat) (e:TypeId) (sz:Nat) (v:Value) (a':Option Addr) (n' cap':Nat) (xs':List Value):Prop where
 own:w'.ownsRow B e sz (.slice a' n' cap') n' xs'
 grown:w.grownBy w' v.ownBlock
 lies:∀ k,Value.ownBlock (.slice a' n' cap')=some k->k<w.heap.size->v.ownBlock=some k
section
variable {P:Program} (w:World)
theorem G6 (B:Nat) (t d e:TypeId) (i:TypeInfo) (z:Value) (size bytes:Nat) (ax:P.underlying t=some (.slice e)) (V:P.info? e=some i) (b2:i.zero=some z)
 (a0:i.size=size) (R:i.bytes=bytes) (C:z.cells.size=size) (am:0<size)
 (v:Value) (n:Nat) (ao:List Value) (T:w.ownsRow B e size v n ao)
 (x:Option Addr) (m c:Nat) (b:List Value) (X:b.length=m*size) (S:(x=none/\m=0)\/∃ H,x=some H/\∀ j u,b[j]? = some u->w.cell? (H.add j)=some u) (F:∀ u ∈ b,u.oneCell'=true)
 (D:n+m<=maxLen) (h:(n+m)*bytes<=140737488355328) (L:B<=w.heap.size) :
 ∃ O f G,(Builtin.append_ #[t,t] d #[v,.slice x m c]).run P w = .ok (.slice O (n+m) f) G/\pm w G B e size v O (n+m) f (ao++b):=by
 rcases S with ⟨rfl,rfl⟩ | ⟨H,rfl,hnews⟩
 . have Z:b=[]:=List.eq_nil_of_length_eq_zero (by simpa using X)
   subst Z
   have A:∀ a q,v = .slice a n q->n<=q->(Builtin.append_ #[t,t] d #[v,.slice none 0 c]).run P w = .ok (.slice a (n+0) q) w:=fun a q af W=>by
    rw [af]
    cases a<;>simp [Builtin.append_,run_underlying ax,sizeOf,typeInfo,V,Builtin.lenOf,W,run_firstCells_none,storeCells]
   rcases T.2 with ⟨af,ab⟩ | ⟨al,q,o,af,Q⟩
   . subst ab
     refine ⟨none,0,w,A none 0 af (Nat.le_refl _),?_,⟨rfl,rfl,rfl,Nat.le_refl _,fun _ _ _=>rfl⟩,fun k N=>by simp [Value.ownBlock] at N⟩;rw [List.append_nil,← af];exact T
   . refine ⟨some ⟨al,0,none⟩,q,w,A _ q af Q.2.2.1,?_,⟨rfl,rfl,rfl,Nat.le_refl _,fun _ _ _=>rfl⟩,fun k N _=>by rw [af];exact N⟩
     rw [List.append_nil,Nat.add_zero,← af];exact T
 . obtain ⟨aa,G,Q,J,U,_,aB⟩:=run_append_own_at (P:=P) w B t d e i z size bytes ax V b2 a0 R C am v n ao T H m c b X hnews F D h L
   have g:∀ k,aa.ownBlock=some k->k<w.heap.size->v.ownBlock=some k:=fun k N ac=>by
    rcases aB with aB | aB
    . rw [← aB];exact N
    . rw [aB] at N
      have e:w.heap.size=k:=Option.some.inj N;omega
   rcases J.2 with ⟨af,ab⟩ | ⟨al,q,o,af,_⟩
   . subst af
     refine ⟨none,0,G,by rw [ab];exact Q,?_,U,fun k N ac=>g k N ac⟩;rw [ab] at J ⊢;exact J
   . subst af
     exact ⟨_,q,G,Q,J,U,g⟩
theorem G7 (n:Nat):(Builtin.zeroCells #[.int .i64 0] n).toList=ints (List.replicate n 0):=by
 apply List.ext_getElem?
 intro i
 by_cases h:i<n
 . simp [Builtin.zeroCells,ints,h,Nat.mod_one]
 . simp [Builtin.zeroCells,ints,h]
theorem G8 (B:Nat) (t b d e:TypeId) (i:TypeInfo) (y:IntKind) (ax:P.underlying t=some (.slice e)) (p:P.underlying b=some (.int y)) (V:P.info? e=some i) (b2:i.zero=some (.int .i64 0))
 (a0:i.size=1) (R:i.bytes=8)
 (v:Value) (n:Nat) (ao:List Value) (T:w.ownsRow B e 1 v n ao) (m:Nat) (D:n+m<=1000000) (L:B<=w.heap.size) :
 ∃ O f G,(Builtin.append_ #[t,b] d #[v,.int .i64 m]).run P w = .ok (.slice O (n+m) f) G/\pm w G B e 1 v O (n+m) f (ao++ints (List.replicate m 0)):=by
 have aj:IntKind.i64.wrap (m:Int)=m:=by rw [IntKind.wrap_i64];omega
 have z:¬ ((m:Int)<0):=N8
 have C:¬ (281474976710656<(m:Int)*8):=N8
 have h:=G7 m
 have F:∀ u ∈ (Builtin.zeroCells #[.int .i64 0] m).toList,u.oneCell'=true:=by rw [h];exact Bc _
 have c:(Builtin.zeroCells #[.int .i64 0] m).toList.length=m:=by rw [h,qn,List.length_replicate]
 have aO:(Value.int .i64 0).cells=#[.int .i64 0]:=rfl
 have s:IntKind.i64.wrap 0=0:=by rw [IntKind.wrap_i64];omega
 by_cases a1:m=0
 . subst a1
   have A:∀ a q,v = .slice a n q->n<=q->(Builtin.append_ #[t,b] d #[v,.int .i64 ((0:Nat):Int)]).run P w = .ok (.slice a (n+0) q) w:=fun a q af W=>by
    rw [af]
    cases a<;>simp [Builtin.append_,run_underlying ax,run_underlying p,sizeOf,typeInfo,V,asInt,asIntOf,s,W,storeCells]
   rw [List.replicate_zero,show ints []=[] from rfl,List.append_nil]
   rcases T.2 with ⟨af,ab⟩ | ⟨al,q,o,af,Q⟩
   . subst ab
     refine ⟨none,0,w,A none 0 af (Nat.le_refl _),?_,⟨rfl,rfl,rfl,Nat.le_refl _,fun _ _ _=>rfl⟩,fun k N=>by simp [Value.ownBlock] at N⟩;rw [← af];exact T
   . refine ⟨some ⟨al,0,none⟩,q,w,A _ q af Q.2.2.1,?_,⟨rfl,rfl,rfl,Nat.le_refl _,fun _ _ _=>rfl⟩,fun k N _=>by rw [af];exact N⟩
     rw [Nat.add_zero,← af];exact T
 have aq:¬ (m*1=0):=N8
 have b1:(ao++ints (List.replicate m 0)).length=(n+m)*1:=by rw [List.length_append,T.1,qn,List.length_replicate];omega
 rcases T.2 with ⟨rfl,rfl⟩ | ⟨al,q,o,rfl,l,ak,hnc,bx,r,htake⟩
 . have S:ao=[]:=List.eq_nil_of_length_eq_zero (by simpa using T.1)
   subst S;have Q:=Lib.run_append_nil_zeros (P:=P) w t b d e i _ .i64 y ax p V b2 m N8 N8 N8 (by rw [R];omega);simp only [Nat.zero_add,List.nil_append];refine ⟨_,_,_,Q,⟨by rw [qn,List.length_replicate,Nat.mul_one],.inr ⟨w.heap.size,_,_,rfl,L,heap_alloc_new w.drew _,grownCap_ge w m 0 e,grownCap_le_maxLen w m 0 e Oi,?_,?_⟩⟩,⟨rfl,rfl,rfl,Oc,fun k N _=>Below.heap_alloc w.drew _ k N⟩,fun k N ac=>?_⟩
   . have:=grownCap_ge w m 0 e
     rw [Array.size_append,aO,size_zeroCells,size_zeroCells];simp;omega
   . rw [aO,Array.toList_append,Nat.mul_one,List.take_append_of_le_length (by rw [c];exact Nat.le_refl _),List.take_of_length_le (by rw [c];exact Nat.le_refl _),h]
   . exact SP
 . by_cases x:n+m<=q
   . have g:=run_storeCells_at (P:=P) al n e (Builtin.zeroCells #[.int .i64 0] m).toList 0 o w ak (by rw [c,r];omega) F
     simp only [Nat.add_zero] at g;refine ⟨some ⟨al,0,none⟩,q,w.setRow al (o.toList.take n++(Builtin.zeroCells #[.int .i64 0] m).toList++o.toList.drop (n+(Builtin.zeroCells #[.int .i64 0] m).toList.length)).toArray,?_,⟨b1,.inr ⟨al,q,_,rfl,l,setRow_heap w al o _ e _ ak,x,bx,?_,?_⟩⟩,⟨rfl,rfl,rfl,Oc,fun k _ N=>setRow_other w al k _ (fun e=>N (by simp [Value.ownBlock,e]))⟩,fun k N _=>N⟩
     . simp [Builtin.append_,run_underlying ax,run_underlying p,sizeOf,typeInfo,zeroValue,V,b2,asInt,asIntOf,aj,z,C,a0,R,x,a1,aO,Addr.add_lit,g]
     . simp only [List.size_toArray,List.length_append,List.length_take,List.length_drop,Array.length_toList,c]
       omega
     . simp only [Nat.mul_one] at htake b1 ⊢
       rw [htake,h,← b1];exact List.take_left
   . have H:∀ j u,ao[j]? = some u->w.drew.cell? ((⟨al,0,none⟩:Addr).add j)=some u:=T.cells (g:=al) rfl
     have I:=run_firstCells_some (P:=P) w.drew 1 n ⟨al,0,none⟩ n q ao T.1 H;have E:=grownCap_ge w (n+m) q e
     have J:¬ (9223372036854775807<(n:Int)+(m:Int)):=N8
     have bg:¬ (281474976710656<Builtin.nextslicecap (n+m) q*8):=by
      have:=growslice_fits (need:=n+m) (old:=q) (bytes:=8) N8 N8;omega
     refine ⟨some ⟨w.heap.size,0,none⟩,grownCap w (n+m) q e,w.drew.alloc (.cells (ao.toArray++(Builtin.zeroCells #[.int .i64 0] m)++Builtin.zeroCells #[.int .i64 0] (grownCap w (n+m) q e - (n+m))) e),?_,⟨b1,.inr ⟨w.heap.size,_,_,rfl,L,heap_alloc_new w.drew _,E,grownCap_le_maxLen w (n+m) q e Oi,?_,?_⟩⟩,⟨rfl,rfl,rfl,Oc,fun k N _=>Below.heap_alloc w.drew _ k N⟩,fun k N ac=>?_⟩
     . simp [Builtin.append_,run_underlying ax,run_underlying p,sizeOf,typeInfo,zeroValue,V,b2,asInt,asIntOf,aj,z,C,a0,R,x,a1,aO,J,bg,Question.forced,newRow,grownCap,I]
     . rw [Array.size_append,Array.size_append,size_zeroCells,size_zeroCells,List.size_toArray,T.1]
       simp;omega
     . simp only [Nat.mul_one] at b1 ⊢
       rw [Array.toList_append,Array.toList_append,h,List.append_assoc,← List.append_assoc,← b1];exact List.take_left
     . exact SP
end
theorem step_append_run (l:o.guard=none) (s x:Operand) (t b:TypeId)
 (ap:o.op = .call { callee:=.builtin .append,args:=#[s,x],argTypes:=#[t,b] }) (al c:Value) (a8:a.eval s=al) (S:a.eval x=c)
 (aa:Value) (G:World) (Q:(Builtin.append_ #[t,b] o.type #[al,c]).run P w = .ok aa G) (h:K (a.put o.dst aa) G):if Region.wanted o (yielded ops a.tmps)=true then Oper.wp P o a w K Y else E:=by
 have aj:Region.wanted o (yielded ops a.tmps)=true:=OS
 rw [if_pos aj];exact Lib.wp_append_run w s x t b ap al c a8 S aa G Q h
theorem wR (l:o.guard=none) (s x:Operand) (t b:TypeId)
 (ap:o.op = .call { callee:=.builtin .append,args:=#[s,x],argTypes:=#[t,b] }) (al c:Value) (a8:a.eval s=al) (S:a.eval x=c)
 (e:∃ O f G,(Builtin.append_ #[t,b] o.type #[al,c]).run P w = .ok (.slice O n f) G/\d O f G) (h:∀ O f G,d O f G->K (a.put o.dst (.slice O n f)) G):if Region.wanted o (yielded ops a.tmps)=true then Oper.wp P o a w K Y else E:=by
 obtain ⟨O,f,G,Q,g⟩:=e;exact step_append_run l s x t b ap al c a8 S _ G Q (h O f G g)
theorem wS {rest:List Oper} (l:o.guard=none) (s x:Operand) (t b:TypeId)
 (ap:o.op = .call { callee:=.builtin .append,args:=#[s,x],argTypes:=#[t,b] }) (al c:Value) (a8:a.eval s=al) (S:a.eval x=c)
 (e:∃ O f G,(Builtin.append_ #[t,b] o.type #[al,c]).run P w = .ok (.slice O n f) G/\d O f G) (h:∀ O f G,d O f G->wpList P ops Y rest (a.put o.dst (.slice O n f)) G):wpList P ops Y (o :: rest) a w:=by
 obtain ⟨O,f,G,Q,g⟩:=e;exact Lib.wpList_append_run w l s x t b ap al c a8 S _ G Q (h O f G g)
end Mx
end Go.Proofs.YtndkhgakfodldaaGreatDoor
