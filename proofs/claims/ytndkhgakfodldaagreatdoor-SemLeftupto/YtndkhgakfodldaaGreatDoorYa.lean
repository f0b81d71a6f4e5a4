import Derived.Test.YtndkhgakfodldaaGreatDoorUn
import Derived.Deep.RegionHeldLaw
namespace Go.Proofs.YtndkhgakfodldaaGreatDoor
set_option maxRecDepth 100000
set_option maxHeartbeats 6400000
open Go.RowKit Go.Maps Go.WideMaps
set_option linter.unusedSimpArgs false
set_option linter.unusedVariables false
def Apt (v u:Value):Prop:=∀ k,v.ownBlock=some k->u.ownBlock≠some k
theorem Apt.symm {v u:Value} (h:Apt v u):Apt u v:=fun k h1 h2=>h k h2 h1
theorem Apt.nil (u:Value):Apt (.slice none 0 0) u:=fun k h=>by simp [Value.ownBlock] at h
theorem zfu {P:Program} {ops:Array Oper} {rest:List Oper} {o:Oper} {a:Act} {Q:Exit->Act->World->Prop} (hgd:o.guard=none) (s x:Operand) (t:TypeId)
 (ho:o.op = .call { callee:=.builtin .append,args:=#[s,x],argTypes:=#[t,t] }) (base:Nat) (e:TypeId) (z:Value) (size bytes:Nat) (ht:P.underlying t=some (.slice e))
 (hi:(P.info? e).map (fun i=>(i.zero,i.size,i.bytes))=some (some z,size,bytes)) (hzs:z.cells.size=size) (hsz:0<size) (w:World) (v:Value) (n:Nat) (xs:List Value) (hs:a.eval s=v) (hrow:w.ownsRow base e size v n xs)
 (cs:Array Value) (H:Nat) (hH:H=w.heap.size) (hx:a.eval x = .slice (some ⟨H,0,none⟩) 1 1) (hcs:cs.size=size) (h1:∀ u ∈ cs.toList,u.oneCell'=true)
 (hn:n<=2000000) (hby:bytes<=200) (hbase:base<=w.heap.size)
 (h:∀ g cap w',w'.ownsRow base e size (.slice (some ⟨g,0,none⟩) (n+1) cap) (n+1) (xs++cs.toList)->Below base w w'->w.heap.size<w'.heap.size->
   (∀ (b2:Nat) (e2:TypeId) (z2 n2:Nat) (u:Value) (ys:List Value),w.ownsRow b2 e2 z2 u n2 ys->Apt u v->w'.ownsRow b2 e2 z2 u n2 ys/\Apt u (.slice (some ⟨g,0,none⟩) (n+1) cap))->(∀ (b:Nat) (x:Obj),w.heap[b]? = some x->v.ownBlock≠some b->w'.heap[b]? = some x)->
   wpList P ops Q rest (a.put o.dst (.slice (some ⟨g,0,none⟩) (n+1) cap)) w') :
 wpList P ops Q (o :: rest) a (w.alloc (.cells cs e)):=by
 obtain ⟨i0,hi,hz0,hz1,hz2⟩:=info_parts hi
 have hsize:(w.alloc (.cells cs e)).heap.size=w.heap.size+1:=by simp
 refine wpList_append_lies (w.alloc (.cells cs e)) hgd s x t ho base e i0 z size bytes ht hi hz0 hz1 hz2 hzs hsz v n xs hs (hrow.alloc _) ⟨H,0,none⟩ 1 1 cs.toList hx (by simp [hcs]) ?_ h1 (by omega) (by unfold maxLen;omega) ?_ (by omega) _ rfl ?_
 . intro j u hj
   subst hH
   have:(⟨w.heap.size,0,none⟩:Addr).add j=⟨w.heap.size,j,none⟩:=by unfold Addr.add;split<;>simp_all
   rw [this,vee (heap_newP w _)];simpa using hj
 . have:(n+1)*bytes<=2000001*200:=vdl (by omega) hby
   omega
 . intro g cap w' hown' hgrow hat hlt
   have hbel:Below base w w':=((Below.refl base w).alloc hbase _).grown hgrow (by omega) (fun k hk=>(hrow.lt k hk).1);have hgz:=hgrow.size;refine h g cap w' hown' hbel (by omega) (fun b2 e2 z2 n2 u ys hu hap=>?_) (fun b x hb hne=>?_)
   . refine ⟨(hu.alloc _).kept hgrow ?_,fun k hk hg=>?_⟩
     . cases hk:u.ownBlock with
       | none=>exact Or.inl rfl
       | some k=>exact Or.inr (fun e=>hap k hk e.symm)
     . have hlt2:=(hu.lt k hk).2
       simp only [Value.ownBlock,vcy] at hg
       rcases hat with h1 | h1
       . exact hap k hk (by rw [h1,hg])
       . omega
   . have hb':(w.alloc (.cells cs e)).heap[b]? = some x:=zae hb
     exact (hgrow.block b (zab hb') (fun e=>hne e.symm)).trans hb'
def zjn (w:World) (a:OA) (l:List Bool):Prop:=l=[]\/∃ b off,a=some ⟨b,off,none⟩/\b<w.heap.size/\∀ i (h:i<l.length),w.cell? ⟨b,off+i,none⟩=some (.bool l[i])
theorem zjn.later {w w':World} {a:OA} {l:List Bool} (h:zjn w a l) (hb:Below w.heap.size w w'):zjn w' a l:=by
 rcases h with h | ⟨b,off,e,hl,h⟩
 . exact Or.inl h
 . exact Or.inr ⟨b,off,e,vac hl hb.size,fun i hi=>(hb.cell (p:=⟨b,off+i,none⟩) hl).trans (h i hi)⟩
theorem zjn.place {w:World} {a:OA} {l:List Bool} (h:zjn w a l) {k:Nat} (hk:k<l.length):∃ b off,a=some ⟨b,off,none⟩/\b<w.heap.size/\w.cell? ⟨b,off+k,none⟩=some (.bool l[k]):=by
 rcases h with h | ⟨b,off,e,hl,h⟩
 . subst h;simp at hk
 . exact ⟨b,off,e,hl,h k hk⟩
structure Gi where
 op:Int
 a:Int
 b:Int
structure Gf where
 at_:Int
 kind:Int
 m:Int
structure Wrt where
 code:List Gi
 fixes:List Gf
def zwj (op a b:Int) (s:Wrt):Wrt:=⟨s.code++[⟨op,a,b⟩],s.fixes⟩
def z3z (kind m:Int) (i:Gi) (s:Wrt):Wrt:=⟨s.code++[i],s.fixes++[⟨s.code.length,kind,m⟩]⟩
def z4p (op t:Int) (s:Wrt):Wrt:=z3z 1 0 ⟨op,t,0⟩ s
def z0w (x:Int) (i:Gi):Gi:=⟨i.op,x,i.b⟩
def zog (k:Nat) (s:Wrt):Wrt:=⟨s.code.modify k (z0w s.code.length),s.fixes⟩
def nd0:Nd:=⟨0,0,0,0,[]⟩
def argN (l:List Nd) (i:Nat):Nd:=l.getD i nd0
theorem zrm (op a b:Int) (s:Wrt):(zwj op a b s).code.length=s.code.length+1:=by simp [zwj]
theorem zfh (k:Nat) (s:Wrt):(zog k s).code.length=s.code.length:=by simp [zog]
theorem zms (l:List Nd) (i:Nat) (h:i<l.length):argN l i=l[i]:=by simp [argN,var,vaj h]
def giV (i:Gi):List Value:=[.int .i64 i.op,.int .i64 i.a,.int .i64 i.b]
def z0x (l:List Gi):List Value:=l.flatMap giV
def gfV (f:Gf):List Value:=[.int .i64 f.at_,.int .i64 f.kind,.int .i64 f.m]
def z4q (l:List Gf):List Value:=l.flatMap gfV
theorem zrn:∀ (l:List Gi) (k:Nat) (x:Int),k<l.length->z0x (l.modify k (z0w x))=(z0x l).set (k*3+1) (.int .i64 x)
 | [],k,_,h=>by simp at h
 | i :: r,0,x,_=>by simp [z0x,giV,z0w]
 | i :: r,k+1,x,h=>by
   have:=zrn r k x (by simpa using h);simp only [z0x,List.modify_succ_cons,vbw] at this ⊢;rw [this,show (k+1)*3+1=(giV i).length+(k*3+1) from by simp [giV];omega,List.set_append_right _ _ (by omega),Nat.add_sub_cancel_left]
theorem zyw (l:List Gi) (k:Nat) (h:k<l.length):(z0x l)[k*3+1]? = some (.int .i64 l[k].a):=by
 induction l generalizing k with
 | nil=>simp at h
 | cons x r ih=>
   cases k with
   | zero=>rfl
   | succ k=>
     have:=ih k (by simpa using h);simp only [z0x,vbw,vbo] at this ⊢;rw [vbb (by simp [giV];omega),show (k+1)*3+1 - (giV x).length=k*3+1 from by simp [giV];omega];exact this
end Go.Proofs.YtndkhgakfodldaaGreatDoor

namespace Go.Proofs.YtndkhgakfodldaaGreatDoor
open Go.RowKit
structure Sw where
 data:List Int
 inp:List Int
 out:List Int
 ticks:Nat
 calls:Nat
inductive Rr (α:Type) where
 | ok (a:α) (s:Sw)
 | stop (e:Int) (s:Sw)
def Rr.bind {α β:Type}:Rr α->(α->Sw->Rr β)->Rr β
 | .ok a s,f=>f a s
 | .stop e s,_=>.stop e s
structure Cx where
 us:List Un
 near:List (List Nat)
 beg:List Int
 lim:Nat
structure Fr where
 loc:List Int
 ret:Int
def zd8 (lim:Nat) (s:Sw):Rr Unit:=if s.ticks=lim then .stop 3 s else .ok () { s with ticks:=s.ticks+1 }
def zhb (s:Sw):Rr Int:=match s.inp with
 | []=>.ok 0 s
 | x :: r=>.ok x { s with inp:=r }
def zhc (n:Int) (s:Sw):Rr Unit:=if s.out.length=200 then .stop 5 s else .ok () { s with out:=s.out++[n] }
def zzn (cx:Cx) (u:Nat) (m:Int):Nat:=(cx.near.getD u []).getD m.toNat 0
def plcS (cx:Cx) (u:Nat) (m at_:Int):Int:=cx.beg.getD (zzn cx u m) 0+at_
def zbv (b:Bool):Int:=if b=true then 1 else 0
def ofS (op a b:Int):Option Int:=
 if op=9 then some (wrap64 (a+b))
 else if op=10 then some (wrap64 (a - b))
 else if op=11 then some (wrap64 (a*b))
 else if op=14 then some (zbv (a == b))
 else if op=15 then some (zbv (decide (a<b)))
 else if b=0 then none
 else if op=12 then some (wrap64 (Int.tdiv a b))
 else if op=13 then some (Int.tmod a b)
 else none
def zdd (f:Nd->Sw->Rr Int):List Nd->Sw->Rr (List Int)
 | [],s=>.ok [] s
 | x :: r,s=>(f x s).bind fun v s=>(zdd f r s).bind fun vs s=>.ok (v :: vs) s
def elmS (f:Sw->Rr Int) (p n:Int) (s:Sw):Rr Int:=(f s).bind fun i s=>if i<0\/n<=i then .stop 2 s else .ok (p+i) s
abbrev ztg:=Nat->List Ac->List Int->Sw->Rr Int
def zoh (cx:Cx) (u:Nat) (m at_:Int):Pt:=match cx.us[zzn cx u m]? with
 | some x=>x.parts.getD at_.toNat ⟨0,0,[]⟩
 | none=>⟨0,0,[]⟩
def zdm (vs:List Int) (n:Int):List Int:=vs++List.replicate (n.toNat - vs.length) 0
def pcallS (E:ztg) (cx:Cx) (u:Nat) (f:Nd->Sw->Rr Int) (m at_:Int) (args:List Nd) (s:Sw):Rr Int:=
 (zdd f args s).bind fun vs s=>E (zzn cx u m) (zoh cx u m at_).body (zdm vs ((zoh cx u m at_).params+(zoh cx u m at_).locals)) s
def vN (E:ztg) (cx:Cx) (u:Nat) (loc:List Int):Nat->Nd->Sw->Rr Int
 | 0,_,s=>.ok 0 s
 | k+1,x,s=>
   if x.op=1 then .ok x.n s
   else if x.op=2 then zhb s
   else if x.op=16 then .ok (loc.getD x.at_.toNat 0) s
   else if x.op=3 then .ok (s.data.getD (plcS cx u x.m x.at_).toNat 0) s
   else if x.op=4 then (elmS (vN E cx u loc k (argN x.args 0)) (plcS cx u x.m x.at_) x.n s).bind fun p s=>.ok (s.data.getD p.toNat 0) s
   else if x.op=5 then pcallS E cx u (vN E cx u loc k) x.m x.at_ x.args s
   else if x.op=6 then (vN E cx u loc k (argN x.args 0) s).bind fun v s=>.ok (zbv (decide (v=0))) s
   else if x.op=7 then (vN E cx u loc k (argN x.args 0) s).bind fun v s=>if v=0 then .ok 0 s else (vN E cx u loc k (argN x.args 1) s).bind fun v s=>.ok (zbv (decide (v≠0))) s
   else if x.op=8 then (vN E cx u loc k (argN x.args 0) s).bind fun v s=>if v=0 then (vN E cx u loc k (argN x.args 1) s).bind fun v s=>.ok (zbv (decide (v≠0))) s else .ok 1 s
   else (vN E cx u loc k (argN x.args 0) s).bind fun a s=>(vN E cx u loc k (argN x.args 1) s).bind fun b s=>match ofS x.op a b with
    | some n=>.ok n s
    | none=>.stop 1 s
def bN (f:Ac->Fr->Sw->Rr (Bool × Fr)):List Ac->Fr->Sw->Rr (Bool × Fr)
 | [],c,s=>.ok (false,c) s
 | a :: r,c,s=>(f a c s).bind fun d s=>if d.1=true then .ok (true,d.2) s else bN f r d.2 s
abbrev Whl:=Nat->Nd->List Ac->Fr->Sw->Rr (Bool × Fr)
def aN (E:ztg) (L:Whl) (cx:Cx) (u:Nat):Nat->Ac->Fr->Sw->Rr (Bool × Fr)
 | 0,_,c,s=>.ok (false,c) s
 | k+1,a,c,s=>
   if a.op=1 then (vN E cx u c.loc 6 (argN a.args 0) s).bind fun v s=>if a.m = -1 then .ok (false,{ c with loc:=c.loc.set a.at_.toNat v }) s else .ok (false,c) { s with data:=s.data.set (plcS cx u a.m a.at_).toNat v }
   else if a.op=2 then (elmS (vN E cx u c.loc 6 (argN a.args 0)) (plcS cx u a.m a.at_) a.n s).bind fun p s=>(vN E cx u c.loc 6 (argN a.args 1) s).bind fun v s=>.ok (false,c) { s with data:=s.data.set p.toNat v }
   else if a.op=3 then (pcallS E cx u (vN E cx u c.loc 6) a.m a.at_ a.args s).bind fun _ s=>.ok (false,c) s
   else if a.op=4 then (vN E cx u c.loc 6 (argN a.args 0) s).bind fun v s=>if v=0 then bN (aN E L cx u k) a.other c s else bN (aN E L cx u k) a.body c s
   else if a.op=5 then L u (argN a.args 0) a.body c s
   else if a.op=6 then (vN E cx u c.loc 6 (argN a.args 0) s).bind fun v s=>.ok (true,{ c with ret:=v }) s
   else if a.op=7 then (vN E cx u c.loc 6 (argN a.args 0) s).bind fun v s=>(zhc v s).bind fun _ s=>.ok (false,c) s
   else .ok (false,c) s
structure Lv where
 ent:ztg
 whl:Whl
def z4r (r:Lv) (cx:Cx) (u:Nat) (body:List Ac) (loc:List Int) (s:Sw):Rr Int:=
 (bN (aN r.ent r.whl cx u 6) body ⟨loc,0⟩ { s with calls:=s.calls+1 }).bind fun d s=>.ok d.2.ret { s with calls:=s.calls - 1 }
def zth (r:Lv) (cx:Cx):ztg:=fun u body loc s=>(zd8 cx.lim s).bind fun _ s=>if s.calls=24 then .stop 4 s else z4r r cx u body loc s
def z0y (r:Lv) (cx:Cx) (E:ztg):Whl:=fun u x body c s=>
 (vN E cx u c.loc 6 x s).bind fun v s=>if v=0 then .ok (false,c) s else
   (zd8 cx.lim s).bind fun _ s=>(bN (aN r.ent r.whl cx u 6) body c s).bind fun d s=>if d.1=true then .ok (true,d.2) s else r.whl u x body d.2 s
def lv0:Lv:=⟨fun _ _ _ s=>.stop 3 s,fun _ _ _ _ s=>.stop 3 s⟩
def lv (cx:Cx):Nat->Lv
 | 0=>⟨zth lv0 cx,z0y lv0 cx (zth lv0 cx)⟩
 | t+1=>⟨zth (lv cx t) cx,z0y (lv cx t) cx (zth (lv cx t) cx)⟩
def mainsS (E:ztg):List (Nat × Un)->Sw->Rr Unit
 | [],s=>.ok () s
 | x :: r,s=>(E x.1 x.2.main [] s).bind fun _ s=>mainsS E r s
def nearU (l:List Un) (i:Nat) (x:Un):List Nat:=i :: x.uses.map (fun s=>((zhy (namesU (l.take (i+1))) s).getD 0).toNat)
def nearS (l:List Un):List (List Nat):=(List.range l.length).map fun i=>nearU l i (l.getD i un0)
def zh3 (l:List Un):List Int:=(List.range l.length).map fun i=>sumD (l.take i)
def zv4 (l:List Un):Int:=sumD l
def cxS (l:List Un) (lim:Nat):Cx:=⟨l,nearS l,zh3 l,lim⟩
def sw0 (l:List Un) (inp:List Int):Sw:=⟨List.replicate (zv4 l).toNat 0,inp,[],0,0⟩
def zqe (l:List Un) (inp:List Int) (lim:Nat):Rr Unit:=mainsS (lv (cxS l lim) lim).ent ((List.range l.length).zip l) (sw0 l inp)
structure Rs where
 end_:Int
 out:List Int
 data:List Int
 ticks:Nat
def Rr.res {α:Type}:Rr α->Rs
 | .ok _ s=>⟨0,s.out,s.data,s.ticks⟩
 | .stop e s=>⟨e,s.out,s.data,s.ticks⟩
end Go.Proofs.YtndkhgakfodldaaGreatDoor

namespace Go.Proofs.YtndkhgakfodldaaGreatDoor
set_option linter.unusedSimpArgs false
set_option linter.unusedVariables false
structure Smi (lim lim':Nat) where
 Sm:Nat->(α:Type)->(Sw->Rr α)->(Sw->Rr α)->Prop
 ok:∀ n α (a:α),Sm n α (fun s=>.ok a s) (fun s=>.ok a s)
 stop:∀ n α (e:Int),e≠3->Sm n α (fun s=>.stop e s) (fun s=>.stop e s)
 bind:∀ n α β (F F':Sw->Rr α) (f f':α->Sw->Rr β),Sm n α F F'->(∀ a,Sm n β (f a) (f' a))->Sm n β (fun s=>(F s).bind f) (fun s=>(F' s).bind f')
 tick:∀ n α (F F':Sw->Rr α),Sm n α F F'->Sm (n+1) α (fun s=>(zd8 lim s).bind fun _ s=>F s) (fun s=>(zd8 lim' s).bind fun _ s=>F' s)
 next:∀ n,Sm n Int zhb zhb
 tell:∀ n v,Sm n Unit (zhc v) (zhc v)
 get:∀ n α (g:List Int->α),Sm n α (fun s=>.ok (g s.data) s) (fun s=>.ok (g s.data) s)
 set:∀ n α (i:Nat) (v:Int) (a:α),Sm n α (fun s=>.ok a { s with data:=s.data.set i v }) (fun s=>.ok a { s with data:=s.data.set i v })
 dip:∀ n α β (F F':Sw->Rr α) (g:α->β),Sm n α F F'->Sm n β (fun s=>if s.calls=24 then .stop 4 s else (F { s with calls:=s.calls+1 }).bind fun a s=>.ok (g a) { s with calls:=s.calls - 1 }) (fun s=>if s.calls=24 then .stop 4 s else (F' { s with calls:=s.calls+1 }).bind fun a s=>.ok (g a) { s with calls:=s.calls - 1 })
structure Smo (lim lim':Nat) where
 Sm:Nat->(α:Type)->(Sw->Rr α)->(Sw->Rr α)->Prop
 ok:∀ n α (a:α),Sm n α (fun s=>.ok a s) (fun s=>.ok a s)
 stop:∀ n α (e:Int),e≠3->Sm n α (fun s=>.stop e s) (fun s=>.stop e s)
 bind:∀ n α β (F F':Sw->Rr α) (f f':α->Sw->Rr β),Sm n α F F'->(∀ a,Sm n β (f a) (f' a))->Sm n β (fun s=>(F s).bind f) (fun s=>(F' s).bind f')
 tick:∀ n α (F F':Sw->Rr α),Sm n α F F'->Sm (n+1) α (fun s=>(zd8 lim s).bind fun _ s=>F s) (fun s=>(zd8 lim' s).bind fun _ s=>F' s)
 next:∀ n,Sm n Int zhb zhb
 tell:∀ n v,Sm n Unit (zhc v) (zhc v)
 get:∀ n α (g:List Int->α),Sm n α (fun s=>.ok (g s.data) s) (fun s=>.ok (g s.data) s)
 set:∀ n α (i:Nat) (v:Int) (a:α),Sm n α (fun s=>.ok a { s with data:=s.data.set i v }) (fun s=>.ok a { s with data:=s.data.set i v })
 deep:∀ n α (F F':Sw->Rr α),Sm n α F F'->Sm n α (fun s=>if s.calls=24 then .stop 4 s else F s) (fun s=>if s.calls=24 then .stop 4 s else F' s)
 down:∀ n α (F F':Sw->Rr α),Sm n α F F'->Sm n α (fun s=>F { s with calls:=s.calls+1 }) (fun s=>F' { s with calls:=s.calls+1 })
 up:∀ n α (a:α),Sm n α (fun s=>.ok a { s with calls:=s.calls - 1 }) (fun s=>.ok a { s with calls:=s.calls - 1 })
def Smo.smi {lim lim':Nat} (I:Smo lim lim'):Smi lim lim' where
 Sm:=I.Sm
 ok:=I.ok
 stop:=I.stop
 bind:=I.bind
 tick:=I.tick
 next:=I.next
 tell:=I.tell
 get:=I.get
 set:=I.set
 dip:=fun n _ _ F F' g h=>I.deep n _ _ _ (I.down n _ (fun s=>(F s).bind fun a s=>.ok (g a) { s with calls:=s.calls - 1 }) (fun s=>(F' s).bind fun a s=>.ok (g a) { s with calls:=s.calls - 1 }) (I.bind n _ _ F F' _ _ h (fun a=>I.up n _ (g a))))
section
variable {lim lim':Nat} (I:Smi lim lim') {n:Nat}
theorem Smi.pick {α:Type} {F F' G G':Sw->Rr α} (p:Prop) [Decidable p] (hF:I.Sm n α F F') (hG:I.Sm n α G G'):I.Sm n α (fun s=>if p then F s else G s) (fun s=>if p then F' s else G' s):=by
 by_cases h:p
 . simp only [if_pos h];exact hF
 . simp only [if_neg h];exact hG
theorem zro {f f':Nd->Sw->Rr Int} (h:∀ x,I.Sm n Int (f x) (f' x)):∀ l,I.Sm n (List Int) (zdd f l) (zdd f' l)
 | []=>I.ok n _ []
 | x :: r=>I.bind n _ _ _ _ _ _ (h x) (fun v=>I.bind n _ _ _ _ _ _ (zro h r) (fun vs=>I.ok n _ (v :: vs)))
theorem zmt {f f':Sw->Rr Int} (h:I.Sm n Int f f') (p m:Int):I.Sm n Int (elmS f p m) (elmS f' p m):=
 I.bind n _ _ _ _ _ _ h (fun i=>I.pick (i<0\/m<=i) (I.stop n _ 2 (by decide)) (I.ok n _ (p+i)))
variable {E E':ztg} (hE:∀ u b l,I.Sm n Int (E u b l) (E' u b l)) (cx:Cx) (m':Nat)
include hE
theorem zij (u:Nat) {f f':Nd->Sw->Rr Int} (h:∀ x,I.Sm n Int (f x) (f' x)) (m at_:Int) (l:List Nd):I.Sm n Int (pcallS E cx u f m at_ l) (pcallS E' { cx with lim:=m' } u f' m at_ l):=
 I.bind n _ _ _ _ _ _ (zro I h l) (fun vs=>hE _ _ _)
theorem zrp (u:Nat) (loc:List Int):∀ k x,I.Sm n Int (vN E cx u loc k x) (vN E' { cx with lim:=m' } u loc k x)
 | 0,x=>I.ok n _ 0
 | k + 1,x=>by
   have ih:=zrp u loc k;refine I.pick (x.op=1) (I.ok n _ x.n) (I.pick (x.op=2) (I.next n) (I.pick (x.op=16) (I.ok n _ _) (I.pick (x.op=3) (I.get n _ fun d=>d.getD (plcS cx u x.m x.at_).toNat 0) (I.pick (x.op=4) ?_ (I.pick (x.op=5) (zij I hE cx m' u ih x.m x.at_ x.args) (I.pick (x.op=6) ?_ (I.pick (x.op=7) ?_ (I.pick (x.op=8) ?_ ?_))))))))
   . exact I.bind n _ _ _ _ _ _ (zmt I (ih (argN x.args 0)) _ _) (fun p=>I.get n _ fun d=>d.getD p.toNat 0)
   . exact I.bind n _ _ _ _ _ _ (ih (argN x.args 0)) (fun v=>I.ok n _ _)
   . exact I.bind n _ _ _ _ _ _ (ih (argN x.args 0)) (fun v=>I.pick (v=0) (I.ok n _ 0) (I.bind n _ _ _ _ _ _ (ih (argN x.args 1)) (fun v=>I.ok n _ _)))
   . exact I.bind n _ _ _ _ _ _ (ih (argN x.args 0)) (fun v=>I.pick (v=0) (I.bind n _ _ _ _ _ _ (ih (argN x.args 1)) (fun v=>I.ok n _ _)) (I.ok n _ 1))
   . refine I.bind n _ _ _ _ _ _ (ih (argN x.args 0)) (fun a=>I.bind n _ _ _ _ _ _ (ih (argN x.args 1)) (fun b=>?_))
     cases ofS x.op a b with
     | none=>exact I.stop n _ 1 (by decide)
     | some v=>exact I.ok n _ v
omit hE in
theorem zjo {f f':Ac->Fr->Sw->Rr (Bool × Fr)} (h:∀ a c,I.Sm n _ (f a c) (f' a c)):∀ l c,I.Sm n _ (bN f l c) (bN f' l c)
 | [],c=>I.ok n _ (false,c)
 | a :: r,c=>I.bind n _ _ _ _ _ _ (h a c) (fun d=>I.pick (d.1=true) (I.ok n _ (true,d.2)) (zjo h r d.2))
theorem zoi {L L':Whl} (hL:∀ u x b c,I.Sm n _ (L u x b c) (L' u x b c)) (u:Nat):∀ k a c,I.Sm n _ (aN E L cx u k a c) (aN E' L' { cx with lim:=m' } u k a c)
 | 0,a,c=>I.ok n _ (false,c)
 | k+1,a,c=>by
   have ih:=zoi hL u k;have hv:=zrp I hE cx m' u c.loc 6;refine I.pick (a.op=1) ?_ (I.pick (a.op=2) ?_ (I.pick (a.op=3) ?_ (I.pick (a.op=4) ?_ (I.pick (a.op=5) (hL u _ _ c) (I.pick (a.op=6) ?_ (I.pick (a.op=7) ?_ (I.ok n _ (false,c))))))))
   . exact I.bind n _ _ _ _ _ _ (hv (argN a.args 0)) (fun v=>I.pick (a.m = -1) (I.ok n _ _) (I.set n _ (plcS cx u a.m a.at_).toNat v (false,c)))
   . exact I.bind n _ _ _ _ _ _ (zmt I (hv (argN a.args 0)) _ _) (fun p=>I.bind n _ _ _ _ _ _ (hv (argN a.args 1)) (fun v=>I.set n _ p.toNat v (false,c)))
   . exact I.bind n _ _ _ _ _ _ (zij I hE cx m' u hv a.m a.at_ a.args) (fun _=>I.ok n _ (false,c))
   . exact I.bind n _ _ _ _ _ _ (hv (argN a.args 0)) (fun v=>I.pick (v=0) (zjo I ih a.other c) (zjo I ih a.body c))
   . exact I.bind n _ _ _ _ _ _ (hv (argN a.args 0)) (fun v=>I.ok n _ _)
   . exact I.bind n _ _ _ _ _ _ (hv (argN a.args 0)) (fun v=>I.bind n _ _ _ _ _ _ (I.tell n v) (fun _=>I.ok n _ (false,c)))
end
structure Alike {lim lim':Nat} (I:Smi lim lim') (n:Nat) (r r':Lv):Prop where
 ent:∀ u b l,I.Sm n Int (r.ent u b l) (r'.ent u b l)
 whl:∀ u x b c,I.Sm n _ (r.whl u x b c) (r'.whl u x b c)
theorem zv5 {lim lim':Nat} (I:Smi lim lim') {n:Nat} {r r':Lv} (h:Alike I n r r') (cx:Cx) (hc:cx.lim=lim) (u:Nat) (b:List Ac) (l:List Int):I.Sm (n+1) Int (zth r cx u b l) (zth r' { cx with lim:=lim' } u b l):=by
 subst hc;exact I.tick n _ _ _ (I.dip n _ _ (bN (aN r.ent r.whl cx u 6) b ⟨l,0⟩) (bN (aN r'.ent r'.whl { cx with lim:=lim' } u 6) b ⟨l,0⟩) (fun d=>d.2.ret) (zjo I (zoi I h.ent cx lim' h.whl u 6) b ⟨l,0⟩))
theorem z0z {lim lim':Nat} (I:Smi lim lim') {n:Nat} {r r':Lv} (h:Alike I n r r') (cx:Cx) (hc:cx.lim=lim) {E E':ztg} (hE:∀ u b l,I.Sm (n+1) Int (E u b l) (E' u b l)) (u:Nat) (x:Nd) (b:List Ac) (c:Fr):I.Sm (n+1) _ (z0y r cx E u x b c) (z0y r' { cx with lim:=lim' } E' u x b c):=by
 subst hc;refine I.bind (n+1) _ _ _ _ _ _ (zrp I hE cx lim' u c.loc 6 x) (fun v=>I.pick (v=0) (I.ok _ _ (false,c)) (I.tick n _ _ _ ?_));exact I.bind n _ _ _ _ _ _ (zjo I (zoi I h.ent cx lim' h.whl u 6) b c) (fun d=>I.pick (d.1=true) (I.ok n _ (true,d.2)) (h.whl u x b d.2))
theorem zmu {lim lim':Nat} (I:Smi lim lim') {n:Nat} {r r':Lv} (h:Alike I n r r') (cx:Cx) (hc:cx.lim=lim):Alike I (n+1) ⟨zth r cx,z0y r cx (zth r cx)⟩ ⟨zth r' { cx with lim:=lim' },z0y r' { cx with lim:=lim' } (zth r' { cx with lim:=lim' })⟩:=
 ⟨zv5 I h cx hc,z0z I h cx hc (zv5 I h cx hc)⟩
def lvp (cx:Cx):Nat->Lv
 | 0=>lv0
 | k+1=>lv cx k
theorem zlh (cx:Cx):∀ t,lvp cx (t+1)=⟨zth (lvp cx t) cx,z0y (lvp cx t) cx (zth (lvp cx t) cx)⟩
 | 0=>rfl
 | _+1=>rfl
theorem zzo {lim lim':Nat} (I:Smi lim lim') (cx:Cx) (hc:cx.lim=lim) (d:Nat) (h0:Alike I 0 lv0 (lvp { cx with lim:=lim' } d)):∀ t,Alike I t (lvp cx t) (lvp { cx with lim:=lim' } (t+d))
 | 0=>by
   rw [vbc];exact h0
 | t+1=>by
   have ih:=zzo I cx hc d h0 t;rw [show t+1+d=(t+d)+1 from by omega,zlh,zlh];exact zmu I ih cx hc
theorem zjp {lim lim':Nat} (I:Smi lim lim') {n:Nat} {E E':ztg} (hE:∀ u b l,I.Sm n Int (E u b l) (E' u b l)):∀ l,I.Sm n Unit (mainsS E l) (mainsS E' l)
 | []=>I.ok n _ ()
 | x :: r=>I.bind n _ _ _ _ _ _ (hE x.1 x.2.main []) (fun _=>zjp I hE r)
def Rr.st {α:Type}:Rr α->Sw
 | .ok _ s=>s
 | .stop _ s=>s
theorem zev {lim:Nat} {s:Sw} (h:s.ticks=lim):zd8 lim s = .stop 3 s:=if_pos h
theorem zgi {lim:Nat} {s:Sw} (h:s.ticks≠lim):zd8 lim s = .ok () { s with ticks:=s.ticks+1 }:=if_neg h
def zh4 (s t:Sw):Prop:=s.out <+: t.out/\t.data.length=s.data.length/\(s.out.length<=200->t.out.length<=200)/\s.ticks<=t.ticks
theorem zh4.refl (s:Sw):zh4 s s:=⟨vdg _,rfl,id,vaa _⟩
theorem zh4.trans {a b c:Sw} (h:zh4 a b) (k:zh4 b c):zh4 a c:=⟨h.1.trans k.1,k.2.1.trans h.2.1,fun x=>k.2.2.1 (h.2.2.1 x),vav h.2.2.2 k.2.2.2⟩
def Kp {α:Type} (F:Sw->Rr α):Prop:=∀ s,zh4 s (F s).st
theorem zv6 {α β:Type} {F:Sw->Rr α} {f:α->Sw->Rr β} (h1:Kp F) (h2:∀ a,Kp (f a)):Kp (fun s=>(F s).bind f):=fun s=>by
 have:=h1 s;show zh4 s ((F s).bind f).st
 cases hr:F s with
 | ok a t=>rw [hr] at this;exact zh4.trans (b:=t) this (h2 a t)
 | stop e t=>rw [hr] at this;exact this
theorem z00 {α:Type} {F:Sw->Rr α} (lim:Nat) (h:Kp F):Kp (fun s=>(zd8 lim s).bind fun _ s=>F s):=fun s=>by
 by_cases hl:s.ticks=lim
 . simp only [zev hl,Rr.bind];exact zh4.refl s
 . simp only [zgi hl,Rr.bind];exact (show zh4 s { s with ticks:=s.ticks+1 } from ⟨vdg _,rfl,id,vda _⟩).trans (h _)
theorem zv7:Kp zhb:=fun s=>by
 unfold zhb
 split<;>exact zh4.refl s
theorem kp_tell (v:Int):Kp (zhc v):=fun s=>by
 unfold zhc;split
 . exact zh4.refl s
 . rename_i h
   refine ⟨List.prefix_append _ _,rfl,fun k=>?_,vaa _⟩;show (s.out++[v]).length<=200;rw [vag,vbg];omega
theorem z2n {α:Type} (i:Nat) (v:Int) (a:α):Kp (fun s=>.ok a { s with data:=s.data.set i v }):=fun s=>⟨vdg _,vcq ..,id,vaa _⟩
theorem z01 {α:Type} {F:Sw->Rr α} (h:Kp F):Kp (fun s=>if s.calls=24 then .stop 4 s else F s):=fun s=>by
 by_cases hc:s.calls=24
 . simp only [if_pos hc];exact zh4.refl s
 . simp only [if_neg hc];exact h s
theorem z02 {α:Type} {F:Sw->Rr α} (h:Kp F):Kp (fun s=>F { s with calls:=s.calls+1 }):=fun s=>(show zh4 s { s with calls:=s.calls+1 } from zh4.refl s).trans (h _)
def z3r (lim lim':Nat):Smo lim lim' where
 Sm:=fun _ _ _ F'=>Kp F'
 ok:=fun _ _ _ s=>zh4.refl s
 stop:=fun _ _ _ _ s=>zh4.refl s
 bind:=fun _ _ _ _ _ _ _ h1 h2=>zv6 h1 h2
 tick:=fun _ _ _ _ h=>z00 lim' h
 next:=fun _=>zv7
 tell:=fun _ v=>kp_tell v
 get:=fun _ _ _ s=>zh4.refl s
 set:=fun _ _ i v a=>z2n i v a
 deep:=fun _ _ _ _ h=>z01 h
 down:=fun _ _ _ _ h=>z02 h
 up:=fun _ _ _ s=>zh4.refl s
def zkd (lim lim':Nat):Smi lim lim':=(z3r lim lim').smi
theorem zd3 (cx:Cx):∀ t,Alike (zkd cx.lim cx.lim) 0 (lvp cx t) (lvp cx t)
 | 0=>⟨fun _ _ _ s=>zh4.refl s,fun _ _ _ _ s=>zh4.refl s⟩
 | t+1=>by
   have ih:=zd3 cx t;have:=zmu (zkd cx.lim cx.lim) ih cx rfl;rw [zlh];exact ⟨this.ent,this.whl⟩
def Cq {α:Type} (F:Sw->Rr α):Prop:=∀ s a t,F s = .ok a t->t.calls=s.calls
def zyx (lim lim':Nat):Smi lim lim' where
 Sm:=fun _ _ _ F'=>Cq F'
 ok:=fun _ _ _ s a t h=>by cases h;rfl
 stop:=fun _ _ _ _ s a t h=>by cases h
 bind:=fun _ _ _ _ F' _ f' h1 h2 s a t h=>by
  have h:(F' s).bind f' = .ok a t:=h
  cases hr:F' s with
  | ok b u=>rw [hr] at h;exact (h2 b u a t h).trans (h1 s b u hr)
  | stop e u=>rw [hr] at h;cases h
 tick:=fun _ _ _ F' h1 s a t h=>by
  have h:(zd8 lim' s).bind (fun _ s=>F' s) = .ok a t:=h
  by_cases hl:s.ticks=lim'
  . rw [zev hl] at h;cases h
  . rw [zgi hl] at h;exact h1 { s with ticks:=s.ticks+1 } a t h
 next:=fun _ s a t h=>by
  unfold zhb at h
  split at h<;>(cases h;rfl)
 tell:=fun _ v s a t h=>by
  unfold zhc at h
  split at h
  . cases h
  . cases h;rfl
 get:=fun _ _ _ s a t h=>by cases h;rfl
 set:=fun _ _ _ _ _ s a t h=>by cases h;rfl
 dip:=fun _ _ _ _ F' g h1 s a t h=>by
  have h:(if s.calls=24 then Rr.stop 4 s else (F' { s with calls:=s.calls+1 }).bind fun a s=>.ok (g a) { s with calls:=s.calls - 1 }) = .ok a t:=h
  split at h
  . cases h
  . cases hr:F' { s with calls:=s.calls+1 } with
    | stop e u=>rw [hr] at h;cases h
    | ok b u=>
      rw [hr] at h;have:=h1 _ b u hr;cases h;show u.calls - 1=s.calls;rw [this];show s.calls+1 - 1=s.calls;omega
theorem zmv (cx:Cx):∀ t,Alike (zyx cx.lim cx.lim) 0 (lvp cx t) (lvp cx t)
 | 0=>⟨fun _ _ _ s a t h=>(by cases h),fun _ _ _ _ s a t h=>(by cases h)⟩
 | t+1=>by
   have ih:=zmv cx t;have:=zmu (zyx cx.lim cx.lim) ih cx rfl;rw [zlh];exact ⟨this.ent,this.whl⟩
theorem zqf (l:List Un) (inp:List Int) (lim:Nat):zqe l inp lim=mainsS (lvp (cxS l lim) (lim+1)).ent ((List.range l.length).zip l) (sw0 l inp):=rfl
def Lf (s t:Sw):Prop:=t.data=s.data/\t.out=s.out/\t.ticks=s.ticks/\t.calls=s.calls/\(t.inp=s.inp++[0]\/(s.inp=[]/\t.inp=[]))
def LfR {α:Type}:Rr α->Rr α->Prop
 | .ok a s,.ok b t=>b=a/\Lf s t
 | .stop e s,.stop f t=>f=e/\Lf s t
 | _,_=>False
def z3s (lim:Nat):Smo lim lim where
 Sm:=fun _ _ F F'=>∀ s t,Lf s t->LfR (F s) (F' t)
 ok:=fun _ _ _ s t h=>⟨rfl,h⟩
 stop:=fun _ _ _ _ s t h=>⟨rfl,h⟩
 bind:=fun _ _ _ F F' f f' h1 h2 s t h=>by
  have:=h1 s t h;show LfR ((F s).bind f) ((F' t).bind f')
  cases hr:F s with
  | ok a u=>
    cases hq:F' t with
    | ok b v=>rw [hr,hq] at this;obtain ⟨rfl,h3⟩:=this;exact h2 _ u v h3
    | stop e v=>rw [hr,hq] at this;exact this.elim
  | stop e u=>
    cases hq:F' t with
    | ok b v=>rw [hr,hq] at this;exact this.elim
    | stop e v=>rw [hr,hq] at this;exact this
 tick:=fun _ _ F F' hF s t h=>by
  show LfR ((zd8 lim s).bind fun _ s=>F s) ((zd8 lim t).bind fun _ s=>F' s);obtain ⟨h1,h2,h3,h4,h5⟩:=h
  by_cases hs:s.ticks=lim
  . rw [zev hs,zev (h3.trans hs)]
    exact ⟨rfl,h1,h2,h3,h4,h5⟩
  . rw [zgi hs,zgi (fun e=>hs (h3.symm.trans e))]
    exact hF _ _ ⟨h1,h2,by show t.ticks+1=s.ticks+1;rw [h3],h4,h5⟩
 next:=fun _ s t h=>by
  obtain ⟨h1,h2,h3,h4,h5⟩:=h;unfold zhb
  rcases h5 with e | ⟨e1,e2⟩
  . cases hi:s.inp with
    | nil=>rw [e,hi];exact ⟨rfl,h1,h2,h3,h4,Or.inr ⟨hi,rfl⟩⟩
    | cons x r=>rw [e,hi];exact ⟨rfl,h1,h2,h3,h4,Or.inl rfl⟩
  . rw [e1,e2];exact ⟨rfl,h1,h2,h3,h4,Or.inr ⟨e1,e2⟩⟩
 tell:=fun _ v s t h=>by
  obtain ⟨h1,h2,h3,h4,h5⟩:=h;unfold zhc;rw [h2]
  by_cases hs:s.out.length=200
  . rw [if_pos hs,if_pos hs];exact ⟨rfl,h1,h2,h3,h4,h5⟩
  . rw [if_neg hs,if_neg hs];exact ⟨rfl,h1,rfl,h3,h4,h5⟩
 get:=fun _ _ g s t h=>⟨by rw [h.1],h⟩
 set:=fun _ _ i v a s t h=>⟨rfl,by show t.data.set i v=s.data.set i v;rw [h.1],h.2⟩
 deep:=fun _ _ F F' hF s t h=>by
  by_cases hc:s.calls=24
  . simp only [if_pos hc,if_pos (h.2.2.2.1.trans hc)];exact ⟨rfl,h⟩
  . simp only [if_neg hc,if_neg (fun e=>hc (h.2.2.2.1.symm.trans e):¬ t.calls=24)];exact hF s t h
 down:=fun _ _ F F' hF s t h=>hF _ _ ⟨h.1,h.2.1,h.2.2.1,by show t.calls+1=s.calls+1;rw [h.2.2.2.1],h.2.2.2.2⟩
 up:=fun _ _ a s t h=>⟨rfl,h.1,h.2.1,h.2.2.1,by show t.calls - 1=s.calls - 1;rw [h.2.2.2.1],h.2.2.2.2⟩
def z03 (lim:Nat):Smi lim lim:=(z3s lim).smi
theorem zyy (l:List Un) (inp:List Int) (lim:Nat):(zqe l (inp++[0]) lim).res=(zqe l inp lim).res:=by
 have h0:Alike (z03 lim) 0 lv0 (lvp { cxS l lim with lim:=lim } 0):=⟨fun _ _ _ s t h=>⟨rfl,h⟩,fun _ _ _ _ s t h=>⟨rfl,h⟩⟩
 have h1:=zzo (z03 lim) (cxS l lim) rfl 0 h0 (lim+1);have h2:=zjp (z03 lim) h1.ent ((List.range l.length).zip l) (sw0 l inp) (sw0 l (inp++[0])) ⟨rfl,rfl,rfl,rfl,Or.inl rfl⟩;rw [zqf,zqf];have h3:LfR (mainsS (lvp (cxS l lim) (lim+1)).ent ((List.range l.length).zip l) (sw0 l inp)) (mainsS (lvp (cxS l lim) (lim+1)).ent ((List.range l.length).zip l) (sw0 l (inp++[0]))):=h2
 revert h3
 cases mainsS (lvp (cxS l lim) (lim+1)).ent ((List.range l.length).zip l) (sw0 l inp) with
 | ok a s=>
   cases mainsS (lvp (cxS l lim) (lim+1)).ent ((List.range l.length).zip l) (sw0 l (inp++[0])) with
   | ok b t=>rintro ⟨_,h⟩;unfold Rr.res;simp only [h.1,h.2.1,h.2.2.1]
   | stop e t=>exact fun h=>h.elim
 | stop e s=>
   cases mainsS (lvp (cxS l lim) (lim+1)).ent ((List.range l.length).zip l) (sw0 l (inp++[0])) with
   | ok b t=>exact fun h=>h.elim
   | stop f t=>rintro ⟨rfl,h⟩;unfold Rr.res;simp only [h.1,h.2.1,h.2.2.1]
theorem zyz (l:List Un) (inp:List Int) (lim:Nat):(zqe l inp lim).res.data.length=(zv4 l).toNat/\(zqe l inp lim).res.out.length<=200:=by
 have h1:=zd3 (cxS l lim) (lim+1);have h2:zh4 (sw0 l inp) (mainsS (lvp (cxS l lim) (lim+1)).ent ((List.range l.length).zip l) (sw0 l inp)).st:=zjp (zkd lim lim) h1.ent ((List.range l.length).zip l) (sw0 l inp);rw [zqf]
 have e:∀ r:Rr Unit,r.res.data=r.st.data/\r.res.out=r.st.out:=fun r=>by cases r<;>exact ⟨rfl,rfl⟩
 rw [(e _).1,(e _).2];refine ⟨h2.2.1.trans ?_,h2.2.2.1 (by show ([]:List Int).length<=200;decide)⟩;show (List.replicate (zv4 l).toNat (0:Int)).length=_;rw [List.length_replicate]
end Go.Proofs.YtndkhgakfodldaaGreatDoor

namespace Go.Proofs.YtndkhgakfodldaaGreatDoor
set_option maxRecDepth 100000
open Go.RowKit Go.Maps Go.WideMaps
set_option linter.unusedSimpArgs false
set_option linter.unusedVariables false
theorem zbg {w w':World} {B:Nat} {e:TypeId} {sz:Nat} {v:Value} {n:Nat} {xs:List Value} (h:w.ownsRow B e sz v n xs) (hk:∀ k,v.ownBlock=some k->w'.heap[k]? = w.heap[k]?):w'.ownsRow B e sz v n xs:=by
 refine ⟨h.1,?_⟩
 rcases h.2 with h1 | ⟨g,cap,cur,hv,hb,hg,hr⟩
 . exact Or.inl h1
 . exact Or.inr ⟨g,cap,cur,hv,hb,(hk g (by rw [hv];rfl)).trans hg,hr⟩
theorem zba {w:World} {B:Nat} {e:TypeId} {sz:Nat} {v:Value} {n:Nat} {xs:List Value} (h:w.ownsRow B e sz v n xs):∃ a cap,v = .slice a n cap/\n<=cap/\cap<=maxLen:=by
 rcases h.2 with ⟨h1,h2⟩ | ⟨g,cap,cur,hv,_,_,h3,h4,_⟩
 . exact ⟨none,0,by rw [h2];exact h1,by omega,by unfold maxLen;omega⟩
 . exact ⟨_,cap,hv,h3,h4⟩
theorem zqg {w:World} {B:Nat} {e:TypeId} {sz:Nat} {g n cap:Nat} {xs:List Value} (h:w.ownsRow B e sz (.slice (some ⟨g,0,none⟩) n cap) n xs) (j:Nat) (u:Value) (hj:j<n*sz) :
 (w.setCell ⟨g,j,none⟩ u).ownsRow B e sz (.slice (some ⟨g,0,none⟩) n cap) n (xs.set j u):=by
 refine ⟨by rw [vcq];exact h.1,?_⟩
 rcases h.2 with ⟨h1,_⟩ | ⟨g',cap',cur,hv,hb,hg,h3,h4,h5,h6⟩
 . cases h1
 . cases hv
   refine Or.inr ⟨g,cap,cur.setIfInBounds j u,rfl,hb,zaf hg u,h3,h4,by rw [Array.size_setIfInBounds];exact h5,?_⟩;rw [Array.toList_setIfInBounds,← h6,List.take_set]
structure WAt (w0 w:World) (R:Nat) (K:List (Nat × Obj)) (cv fv:Value) (s:Wrt):Prop where
 blk:w.heap[R]? = some (.cells #[cv,fv] 136)
 hR:w0.heap.size<=R
 code:w.ownsRow w0.heap.size 69 3 cv s.code.length (z0x s.code)
 fix:w.ownsRow w0.heap.size 67 3 fv s.fixes.length (z4q s.fixes)
 apt:Apt cv fv
 nc:cv.ownBlock≠some R
 nf:fv.ownBlock≠some R
 below:Below w0.heap.size w0 w
 kp:∀ x ∈ K,w.heap[x.1]? = some x.2/\x.1≠R/\cv.ownBlock≠some x.1/\fv.ownBlock≠some x.1
def Wri (w0 w:World) (R:Nat) (K:List (Nat × Obj)) (s:Wrt):Prop:=s.fixes.length<=s.code.length/\∃ cv fv,WAt w0 w R K cv fv s
section
variable {w0 w w':World} {R:Nat} {K K':List (Nat × Obj)} {cv fv:Value} {s:Wrt}
theorem WAt.ltR (h:WAt w0 w R K cv fv s):R<w.heap.size:=zab h.blk
theorem WAt.hB (h:WAt w0 w R K cv fv s):w0.heap.size<=w.heap.size:=vav h.hR (Nat.le_of_lt h.ltR)
theorem WAt.later (h:WAt w0 w R K cv fv s) (hb:Below w.heap.size w w'):WAt w0 w' R K cv fv s:=
 { h with
   blk:=(hb.block R h.ltR).trans h.blk
   code:=ownsRow_later h.code hb
   fix:=ownsRow_later h.fix hb
   below:=h.below.trans (hb.mono h.hB)
   kp:=fun x hx=>⟨(hb.block _ (zab (h.kp x hx).1)).trans (h.kp x hx).1,(h.kp x hx).2⟩}
theorem WAt.alloc (h:WAt w0 w R K cv fv s) (o:Obj):WAt w0 (w.alloc o) R K cv fv s:=h.later ((Below.refl _ _).alloc (vaa _) o)
theorem WAt.drew (h:WAt w0 w R K cv fv s):WAt w0 w.drew R K cv fv s:=h.later (Below.refl _ _).drew
theorem WAt.sub (h:WAt w0 w R K cv fv s) (hK:∀ x ∈ K',x ∈ K):WAt w0 w R K' cv fv s:={ h with kp:=fun x hx=>h.kp x (hK x hx) }
theorem Wri.later (h:Wri w0 w R K s) (hb:Below w.heap.size w w'):Wri w0 w' R K s:=by obtain ⟨hl,_,_,h⟩:=h;exact ⟨hl,_,_,h.later hb⟩
theorem Wri.alloc (h:Wri w0 w R K s) (o:Obj):Wri w0 (w.alloc o) R K s:=by obtain ⟨hl,_,_,h⟩:=h;exact ⟨hl,_,_,h.alloc o⟩
theorem Wri.drew (h:Wri w0 w R K s):Wri w0 w.drew R K s:=by obtain ⟨hl,_,_,h⟩:=h;exact ⟨hl,_,_,h.drew⟩
theorem Wri.sub (h:Wri w0 w R K s) (hK:∀ x ∈ K',x ∈ K):Wri w0 w R K' s:=by obtain ⟨hl,_,_,h⟩:=h;exact ⟨hl,_,_,h.sub hK⟩
theorem Wri.tail {x:Nat × Obj} (h:Wri w0 w R (x :: K) s):Wri w0 w R K s:=h.sub fun _=>vcc _
theorem Wri.has (h:Wri w0 w R K s) {b:Nat} {o:Obj} (hx:(b,o) ∈ K):w.heap[b]? = some o:=by obtain ⟨_,_,_,h⟩:=h;exact (h.kp _ hx).1
theorem Wri.head {b:Nat} {o:Obj} (h:Wri w0 w R ((b,o) :: K) s):w.heap[b]? = some o:=h.has (vcw ..)
theorem Wri.below (h:Wri w0 w R K s):Below w0.heap.size w0 w:=by obtain ⟨_,_,_,h⟩:=h;exact h.below
theorem WAt.cells (h:WAt w0 w R K cv fv s):w.cell? ⟨R,0,none⟩=some cv/\w.cell? ⟨R,1,none⟩=some fv/\∀ j,w.frozen? ⟨R,j,none⟩=false:=
 ⟨by rw [vee h.blk];rfl,by rw [vee h.blk];rfl,fun j=>vef h.blk j⟩
end
set_option maxHeartbeats 1600000
theorem WAt.land {w0 w:World} {R:Nat} {K:List (Nat × Obj)} {s:Wrt} {g cap:Nat} {fv:Value} (h:WAt w0 w R K (.slice (some ⟨g,0,none⟩) s.code.length cap) fv s) (k:Nat) (hk:k<s.code.length) :
 w.cell? ⟨g,k*3+1,none⟩=some (.int .i64 s.code[k].a)/\w.frozen? ⟨g,k*3+1,none⟩=false/\WAt w0 (w.setCell ⟨g,k*3+1,none⟩ (.int .i64 s.code.length)) R K (.slice (some ⟨g,0,none⟩) s.code.length cap) fv (zog k s):=by
 have hc:=h.code.cells (g:=g) rfl _ _ (zyw s.code k hk);rw [show (⟨g,0,none⟩:Addr).add (k*3+1)=⟨g,k*3+1,none⟩ from by unfold Addr.add;split<;>simp_all] at hc;have hg0:w0.heap.size<=g:=(h.code.lt g rfl).1
 have hne:∀ b,b≠g->(w.setCell ⟨g,k*3+1,none⟩ (.int .i64 s.code.length)).heap[b]? = w.heap[b]?:=fun b hb=>zac (p:=⟨g,k*3+1,none⟩) hb _
 have hgR:R≠g:=fun e=>h.nc (by rw [e];rfl)
 refine ⟨hc,?_,?_⟩
 . rcases h.code.2 with ⟨h1,_⟩ | ⟨g',cap',cur,hv,_,hg,_⟩
   . cases h1
   . cases hv;exact vef hg _
 . have hrow:=zqg h.code (k*3+1) (.int .i64 s.code.length) (by omega)
   rw [← zrn s.code k _ hk] at hrow
   exact {
    blk:=(hne R hgR).trans h.blk
    hR:=h.hR
    code:=by rw [zfh];exact hrow
    fix:=zbg h.fix (fun b hb=>hne b (fun e=>h.apt g rfl (by rw [hb,e])))
    apt:=h.apt
    nc:=h.nc
    nf:=h.nf
    below:=h.below.setCell (p:=⟨g,k*3+1,none⟩) hg0 _
    kp:=fun x hx=>by
     obtain ⟨h1,h2,h3,h4⟩:=h.kp x hx
     exact ⟨(hne _ (fun e=>h3 (by rw [e];rfl))).trans h1,h2,h3,h4⟩}
structure Ob where
 name:ByteArray
 uses:List ByteArray
 data:Int
 code:List Gi
 fixes:List Gf
 entries:List Int
 main:Int
def wr0:Wrt:=⟨[],[]⟩
end Go.Proofs.YtndkhgakfodldaaGreatDoor

namespace Go.Proofs.YtndkhgakfodldaaGreatDoor
set_option linter.unusedSimpArgs false
set_option linter.unusedVariables false
def inR (i:Gi) (n:Nat):Prop:=(1<=i.op/\i.op<=22)/\(0<=i.a/\i.a<=1099511627776+n)/\(0<=i.b/\i.b<=64)
theorem inR.mono {i:Gi} {n n':Nat} (h:inR i n) (hn:n<=n'):inR i n':=by unfold inR at *;omega
theorem zzp (op a b:Int) (h:(1<=op/\op<=22)/\(0<=a/\a<=1099511627776)/\(0<=b/\b<=64)):inR ⟨op,a,b⟩ 0:=by unfold inR;simp only;omega
def z2o (us:Int) (J:Nat->Prop) (lo hi k:Nat) (f:Gf) (a:Int):Prop:=
 (f.kind=1/\f.m=0/\(J k\/((lo:Int)<=a/\a<=hi)))\/((f.kind=2\/f.kind=3)/\¬ J k/\(0<=a/\a<=2048)/\(0<=f.m/\f.m<=us))
theorem z2o.mono {us:Int} {J J':Nat->Prop} {lo hi hi' k:Nat} {f:Gf} {a:Int} (h:z2o us J lo hi k f a) (hJ:J' k↔J k) (hh:hi<=hi'):z2o us J' lo hi' k f a:=by
 rcases h with ⟨h1,h2,h3⟩ | ⟨h1,h2,h3⟩
 . refine Or.inl ⟨h1,h2,?_⟩
   rcases h3 with h3 | h3
   . exact Or.inl (hJ.2 h3)
   . exact Or.inr (by omega)
 . exact Or.inr ⟨h1,fun h=>h2 (hJ.1 h),h3⟩
structure Adds (us:Int) (J:Nat->Prop) (s t:Wrt):Prop where
 le:s.code.length<=t.code.length
 pre:∀ k,k<s.code.length->t.code[k]? = s.code[k]?
 ins:∀ (k:Nat) (i:Gi),s.code.length<=k->t.code[k]? = some i->inR i t.code.length
 jb:∀ k,J k->s.code.length<=k/\k<t.code.length
 fx:∃ e,t.fixes=s.fixes++e/\e.Pairwise (fun f g=>f.at_<g.at_)/\∀ f ∈ e,∃ (k:Nat) (i:Gi),t.code[k]? = some i/\f.at_=(k:Int)/\s.code.length<=k/\z2o us J s.code.length t.code.length k f i.a
theorem zew {α:Type} {l:List α} {k:Nat} {x:α} (h:l[k]? = some x):k<l.length:=by
 rcases vbe k l.length with h1 | h1
 . exact h1
 . rw [vbi h1] at h;cases h
section
variable {us:Int} {J J':Nat->Prop} {s t u:Wrt}
theorem Adds.refl (s:Wrt):Adds us (fun _=>False) s s:=
 ⟨vaa _,fun _ _=>rfl,fun k i h1 h2=>by have:=zew h2;omega,fun _ h=>h.elim,[],by simp,List.Pairwise.nil,fun f hf=>by cases hf⟩
theorem Adds.snoc (h:Adds us J s t) (i:Gi) (hi:inR i 0\/inR i (t.code.length+1)) (hJ:∀ k,k<t.code.length->(J' k↔J k)) (hJb:∀ k,J' k->s.code.length<=k/\k<=t.code.length) (e':List Gf)
 (he':e'=[]\/∃ f,e'=[f]/\f.at_=(t.code.length:Int)/\z2o us J' s.code.length (t.code.length+1) t.code.length f i.a):Adds us J' s ⟨t.code++[i],t.fixes++e'⟩:=by
 obtain ⟨e,he,hp,hf⟩:=h.fx;have hl:=h.le
 have hlen:(t.code++[i]).length=t.code.length+1:=by simp
 have old:∀ k,k<t.code.length->(t.code++[i])[k]? = t.code[k]?:=fun k hk=>vaw hk
 have new:(t.code++[i])[t.code.length]? = some i:=by simp
 have hi':inR i (t.code.length+1):=by rcases hi with h1 | h1;exact h1.mono (vad _);exact h1
 refine ⟨by simp only [hlen];omega,fun k hk=>(old k (by omega)).trans (h.pre k hk),fun k x hk hx=>?_,fun k hk=>by have:=hJb k hk;simp only [hlen];omega,e++e',by simp only [he,vcz],?_,fun f hfm=>?_⟩
 . simp only [hlen]
   have hx':=zew hx;rw [hlen] at hx'
   rcases vbe k t.code.length with h1 | h1
   . exact (h.ins k x hk ((old k h1).symm.trans hx)).mono (by omega)
   . obtain rfl:k=t.code.length:=by omega
     obtain rfl:i=x:=by rw [new] at hx;exact vab hx
     exact hi'
 . refine List.pairwise_append.2 ⟨hp,?_,fun f hfm g hg=>?_⟩
   . rcases he' with rfl | ⟨f,rfl,_⟩
     . exact List.Pairwise.nil
     . exact List.pairwise_singleton ..
   . obtain ⟨k,x,hx,hk,_⟩:=hf f hfm
     have:=zew hx
     rcases he' with rfl | ⟨f',rfl,ha,_⟩
     . cases hg
     . rw [vby] at hg;subst hg;omega
 . rcases vbp.1 hfm with h1 | h1
   . obtain ⟨k,x,hx,hk,hs,hr⟩:=hf f h1
     have hkl:=zew hx;exact ⟨k,x,(old k hkl).trans hx,hk,hs,hr.mono (hJ k hkl) (by simp only [hlen];omega)⟩
   . rcases he' with rfl | ⟨f',rfl,ha,hr⟩
     . cases h1
     . rw [vby] at h1;subst h1
       exact ⟨t.code.length,i,new,ha,hl,by simp only [hlen];exact hr⟩
theorem Adds.put (h:Adds us J s t) (op a b:Int) (hi:(1<=op/\op<=22)/\(0<=a/\a<=1099511627776)/\(0<=b/\b<=64)):Adds us J s (zwj op a b t):=by
 have:=h.snoc (J':=J) ⟨op,a,b⟩ (Or.inl (zzp _ _ _ hi)) (fun _ _=>Iff.rfl) (fun k hk=>by have:=h.jb k hk;omega) [] (Or.inl rfl);rw [vcf] at this;exact this
theorem Adds.fix (h:Adds us J s t) (kind m op a b:Int) (hk:kind=2\/kind=3) (hi:(1<=op/\op<=22)/\(0<=a/\a<=2048)/\(0<=b/\b<=64)) (hm:0<=m/\m<=us):Adds us J s (z3z kind m ⟨op,a,b⟩ t):=
 h.snoc (J':=J) ⟨op,a,b⟩ (Or.inl (zzp _ _ _ (by omega))) (fun _ _=>Iff.rfl) (fun k hk=>by have:=h.jb k hk;omega) [⟨t.code.length,kind,m⟩]
  (Or.inr ⟨_,rfl,rfl,Or.inr ⟨hk,fun hj=>by have:=(h.jb _ hj).2;omega,hi.2.1,hm⟩⟩)
theorem Adds.back (h:Adds us J s t) (op:Int) (ho:1<=op/\op<=22):Adds us J s (z4p op s.code.length t):=
 have hl:=h.le
 h.snoc (J':=J) ⟨op,s.code.length,0⟩ (Or.inr (by unfold inR;simp only;omega)) (fun _ _=>Iff.rfl) (fun k hk=>by have:=h.jb k hk;omega) [⟨t.code.length,1,0⟩]
  (Or.inr ⟨_,rfl,rfl,Or.inl ⟨rfl,rfl,Or.inr (by simp only;omega)⟩⟩)
theorem zqh (t:Wrt) {j k:Nat} (h:j≠k):(zog k t).code[j]? = t.code[j]?:=by
 simp only [zog,List.getElem?_modify];rw [show (fun a=>if k=j then z0w (t.code.length:Int) a else a)=id from funext fun a=>if_neg (fun e=>h e.symm)];simp
theorem zv8 (t:Wrt) {k:Nat} {i:Gi} (h:t.code[k]? = some i):(zog k t).code[k]? = some (z0w t.code.length i):=by
 simp only [zog,List.getElem?_modify,h];simp
theorem Adds.land (h:Adds us J s t) {k:Nat} (hk:J k):Adds us (fun x=>J x/\x≠k) s (zog k t):=by
 obtain ⟨e,he,hp,hf⟩:=h.fx;have hl:=h.le;have hkb:=h.jb k hk;refine ⟨by rw [zfh];exact hl,fun j hj=>(zqh t (by omega)).trans (h.pre j hj),fun j i hj hi=>?_,fun j hj=>by rw [zfh];exact h.jb j hj.1,e,he,hp,fun f hfm=>?_⟩
 . rw [zfh]
   by_cases e:j=k
   . subst e
     have hg:t.code[j]? = some t.code[j]:=vaj hkb.2;rw [zv8 t hg] at hi;obtain rfl:=vab hi;have:=h.ins j _ hj hg;unfold inR at this ⊢;simp only [z0w];omega
   . rw [zqh t e] at hi;exact h.ins j i hj hi
 . obtain ⟨j,i,hi,ha,hs,hr⟩:=hf f hfm
   rw [zfh]
   by_cases e:j=k
   . subst e
     refine ⟨j,_,zv8 t hi,ha,hs,?_⟩
     rcases hr with ⟨h1,h2,_⟩ | ⟨_,h2,_⟩
     . exact Or.inl ⟨h1,h2,Or.inr (by simp only [z0w];omega)⟩
     . exact absurd hk h2
   . exact ⟨j,i,(zqh t e).trans hi,ha,hs,hr.mono ⟨fun h=>h.1,fun h=>⟨h,e⟩⟩ (vaa _)⟩
theorem Adds.then (h:Adds us J s t) (g:Adds us (fun _=>False) t u):Adds us J s u:=by
 obtain ⟨e,he,hp,hf⟩:=h.fx;obtain ⟨e',he',hp',hf'⟩:=g.fx;have hl:=h.le;have gl:=g.le;refine ⟨by omega,fun k hk=>(g.pre k (by omega)).trans (h.pre k hk),fun k i hk hi=>?_,fun k hk=>by have:=h.jb k hk;omega,e++e',by rw [he',he,vcz],?_,fun f hfm=>?_⟩
 . rcases vbe k t.code.length with h1 | h1
   . exact (h.ins k i hk ((g.pre k h1).symm.trans hi)).mono gl
   . exact g.ins k i h1 hi
 . refine List.pairwise_append.2 ⟨hp,hp',fun f hfm x hx=>?_⟩
   obtain ⟨k,i,hi,ha,_⟩:=hf f hfm;obtain ⟨k',i',hi',ha',hs',_⟩:=hf' x hx;have:=zew hi;omega
 . rcases vbp.1 hfm with h1 | h1
   . obtain ⟨k,i,hi,ha,hs,hr⟩:=hf f h1
     exact ⟨k,i,(g.pre k (zew hi)).trans hi,ha,hs,hr.mono Iff.rfl gl⟩
   . obtain ⟨k,i,hi,ha,hs,hr⟩:=hf' f h1
     refine ⟨k,i,hi,ha,by omega,?_⟩
     rcases hr with ⟨h1,h2,h3⟩ | ⟨h1,h2,h3⟩
     . exact Or.inl ⟨h1,h2,Or.inr (by rcases h3 with h3 | h3;exact h3.elim;omega)⟩
     . exact Or.inr ⟨h1,fun hj=>by have:=(h.jb k hj).2;omega,h3⟩
end
end Go.Proofs.YtndkhgakfodldaaGreatDoor

namespace Go.Proofs.YtndkhgakfodldaaGreatDoor
set_option maxRecDepth 100000
open Go.RowKit Go.Maps Go.WideMaps
set_option linter.unusedSimpArgs false
set_option linter.unusedVariables false
def intV (l:List Int):List Value:=l.map (Value.int .i64 ·)
theorem zv9 (l:List Int) (x:Int):intV (l++[x])=intV l++[.int .i64 x]:=by simp [intV]
def Ent (B:Nat) (v:Value) (es:List Int) (E:List (Nat × Obj)):Prop:=
 (es=[]/\v = .slice none 0 0/\E=[])\/∃ g cap cur,v = .slice (some ⟨g,0,none⟩) es.length cap/\E=[(g,.cells cur 3)]/\B<=g/\es.length<=cap/\cap<=maxLen/\cur.size=cap*1/\cur.toList.take (es.length*1)=intV es
def Wre (w0 w:World) (R:Nat) (K:List (Nat × Obj)) (s:Wrt) (v:Value) (es:List Int):Prop:=∃ E,Ent w0.heap.size v es E/\Wri w0 w R (E++K) s/\∀ x ∈ K,v.ownBlock≠some x.1
section
variable {w0 w w':World} {R:Nat} {K:List (Nat × Obj)} {s:Wrt} {v:Value} {es:List Int}
theorem Wre.start (h:Wri w0 w R K s):Wre w0 w R K s (.slice none 0 0) []:=⟨[],Or.inl ⟨rfl,rfl,rfl⟩,h,fun x _ e=>by simp [Value.ownBlock] at e⟩
theorem Wre.own (h:Wre w0 w R K s v es):w.ownsRow w0.heap.size 3 1 v es.length (intV es):=by
 obtain ⟨E,hE,hw,_⟩:=h;refine ⟨by simp [intV],?_⟩
 rcases hE with ⟨h1,h2,_⟩ | ⟨g,cap,cur,hv,hE,hB,h3,h4,h5,h6⟩
 . exact Or.inl ⟨h2,by rw [h1];rfl⟩
 . subst hE
   exact Or.inr ⟨g,cap,cur,hv,hB,hw.head,h3,h4,h5,h6⟩
theorem Wre.form (h:Wre w0 w R K s v es):∃ a cap,v = .slice a es.length cap/\es.length<=cap/\cap<=maxLen:=zba h.own
theorem Wre.wri (h:Wre w0 w R K s v es):Wri w0 w R K s:=by
 obtain ⟨E,_,hw,_⟩:=h;exact hw.sub (fun x hx=>List.mem_append_right _ hx)
theorem Wre.later (h:Wre w0 w R K s v es) (hb:Below w.heap.size w w'):Wre w0 w' R K s v es:=by
 obtain ⟨E,hE,hw,hx⟩:=h;exact ⟨E,hE,hw.later hb,hx⟩
theorem Wre.alloc (h:Wre w0 w R K s v es) (o:Obj):Wre w0 (w.alloc o) R K s v es:=h.later ((Below.refl _ _).alloc (vaa _) o)
theorem Wre.tail {x:Nat × Obj} (h:Wre w0 w R (x :: K) s v es):Wre w0 w R K s v es:=by
 obtain ⟨E,hE,hw,hx⟩:=h;refine ⟨E,hE,hw.sub (fun y hy=>?_),fun y hy=>hx y (vcc _ hy)⟩
 rcases vbp.1 hy with h1 | h1
 . exact List.mem_append_left _ h1
 . exact List.mem_append_right _ (vcc _ h1)
theorem Wre.call {P:Program} {f:FuncId} {args:Array Value} {s':Wrt} (h:Wre w0 w R K s v es) (hc:∀ K',Wri w0 w R K' s->Calls P f args w fun e w'=>e = .returned (.tuple #[])/\Wri w0 w' R K' s') :
 Calls P f args w fun e w'=>e = .returned (.tuple #[])/\Wre w0 w' R K s' v es:=by
 obtain ⟨E,hE,hw,hx⟩:=h;exact (hc _ hw).mono (fun e w' h=>⟨h.1,E,hE,h.2,hx⟩)
end
set_option maxHeartbeats 3200000
set_option maxHeartbeats 6400000
theorem Tryz.infoInt:(Tryz.prog.info? 3).map (fun i=>(i.zero,i.size,i.bytes))=some (some (.int .i64 0),1,8):=by kernel_rfl
theorem Wri.new {w0 w:World} {K:List (Nat × Obj)} (hb:Below w0.heap.size w0 w) (hK:∀ x ∈ K,w.heap[x.1]? = some x.2):Wri w0 (w.alloc (.cells #[.slice none 0 0,.slice none 0 0] 136)) w.heap.size K wr0:=
 ⟨vaa _,_,_,{
  blk:=heap_newP _ _
  hR:=hb.size
  code:=vei _ _ _ _
  fix:=vei _ _ _ _
  apt:=Apt.nil _
  nc:=fun e=>by simp [Value.ownBlock] at e
  nf:=fun e=>by simp [Value.ownBlock] at e
  below:=hb.alloc hb.size _
  kp:=fun x hx=>⟨zae (hK x hx),fun e=>by have:=zab (hK x hx);omega,fun e=>by simp [Value.ownBlock] at e,fun e=>by simp [Value.ownBlock] at e⟩}⟩
theorem Wre.has {w0 w:World} {R:Nat} {K:List (Nat × Obj)} {s:Wrt} {v:Value} {es:List Int} (h:Wre w0 w R K s v es) {b:Nat} {o:Obj} (hx:(b,o) ∈ K):w.heap[b]? = some o:=h.wri.has hx
def Gi.ds (i:Gi):List D:=[.int i.op,.int i.a,.int i.b]
def z3t (l:List Gi):List D:=l.flatMap Gi.ds
def Gf.ds (f:Gf):List D:=[.int f.at_,.int f.kind,.int f.m]
def z3u (l:List Gf):List D:=l.flatMap Gf.ds
def zdx (l:List Int):List D:=l.map D.int
def Ob.ds (o:Ob):List D:=[.str o.name,.list o.uses.length (zal o.uses),.int o.data,.list o.code.length (z3t o.code),.list o.fixes.length (z3u o.fixes),.list o.entries.length (zdx o.entries),.int o.main]
structure OvAt (w:World) (o:Ob) (x1:OA) (x3:OA) (x4:OA) (x5:OA):Prop where
 wn:o.name.size<=maxLen
 uses:DAt w Tt x1 o.uses.length (zal o.uses)
 wd:(Lit.int .i64 o.data).wf=true
 code:DAt w Tt x3 o.code.length (z3t o.code)
 fixes:DAt w Tt x4 o.fixes.length (z3u o.fixes)
 entries:DAt w Tt x5 o.entries.length (zdx o.entries)
 wm:(Lit.int .i64 o.main).wf=true
theorem OvAt.later {w w':World} {o:Ob} {x1 x3 x4 x5:OA} (h:OvAt w o x1 x3 x4 x5) (hb:Below w.heap.size w w'):OvAt w' o x1 x3 x4 x5:=
 ⟨h.wn,h.uses.later hb,h.wd,h.code.later hb,h.fixes.later hb,h.entries.later hb,h.wm⟩
theorem DAt.num {w:World} {A:Nat->Prop} {a:OA} {l:List Int} (h:DAt w A a l.length (zdx l)) (i:Nat) (hi:i<l.length):∃ b off,a=some ⟨b,off,none⟩/\b<w.heap.size/\w.cell? ⟨b,off+i,none⟩=some (.int .i64 l[i])/\(Lit.int .i64 l[i]).wf=true:=by
 obtain ⟨b,off,ha,hb,hc⟩:=h.cell (by omega);obtain ⟨v0,q0,d0⟩:=hc i (.int l[i]) (by simp [zdx,hi]);obtain ⟨rfl,w0⟩:=zbh d0;exact ⟨b,off,ha,hb,q0,w0⟩
end Go.Proofs.YtndkhgakfodldaaGreatDoor

namespace Go.Proofs.YtndkhgakfodldaaGreatDoor
set_option linter.unusedSimpArgs false
set_option linter.unusedVariables false
def z1c (B:List Nat) (s:Wrt):Prop:=(∀ b ∈ B,b<=s.code.length)/\∀ f ∈ s.fixes,f.kind=1->∃ (k:Nat) (i:Gi),s.code[k]? = some i/\f.at_=(k:Int)/\i.a<s.code.length/\∀ b ∈ B,(k<b->i.a<b)/\(b<=k->(b:Int)<=i.a)
theorem z1c.more {B:List Nat} {s:Wrt} (h:z1c B s):z1c (s.code.length :: B) s:=by
 refine ⟨fun b hb=>?_,fun f hf hk=>?_⟩
 . rcases vci.1 hb with rfl | hb
   . exact vaa _
   . exact h.1 b hb
 . obtain ⟨k,i,h1,h2,h3,h4⟩:=h.2 f hf hk
   refine ⟨k,i,h1,h2,h3,fun b hb=>?_⟩
   rcases vci.1 hb with rfl | hb
   . have:=zew h1
     exact ⟨fun _=>h3,fun h=>by omega⟩
   . exact h4 b hb
theorem z1c.body {us:Int} {B:List Nat} {s t:Wrt} (h:z1c B s) (ha:Adds us (fun _=>False) s t):z1c B (zwj 15 0 0 (zwj 1 0 0 t)):=by
 obtain ⟨e,he,_,hf⟩:=ha.fx;have hl:=ha.le
 have len:(zwj 15 0 0 (zwj 1 0 0 t)).code.length=t.code.length+2:=by rw [zrm,zrm]
 have old:∀ k,k<t.code.length->(zwj 15 0 0 (zwj 1 0 0 t)).code[k]? = t.code[k]?:=fun k hk=>by
  simp only [zwj];rw [vaw (by simp;omega),vaw hk]
 refine ⟨fun b hb=>by have:=h.1 b hb;rw [len];omega,fun f hfm hk=>?_⟩
 have hfm':f ∈ s.fixes++e:=by rw [← he];exact hfm
 rw [len]
 rcases vbp.1 hfm' with h1 | h1
 . obtain ⟨k,i,h1,h2,h3,h4⟩:=h.2 f h1 hk
   have hks:=zew h1;exact ⟨k,i,(old k (by omega)).trans ((ha.pre k hks).trans h1),h2,by omega,h4⟩
 . obtain ⟨k,i,h1,h2,h3,h4⟩:=hf f h1
   refine ⟨k,i,(old k (zew h1)).trans h1,h2,?_,fun b hb=>?_⟩
   all_goals rcases h4 with ⟨_,_,h5 | h5⟩ | ⟨h5,_⟩
   . exact h5.elim
   . omega
   . omega
   . exact h5.elim
   . have:=h.1 b hb
     exact ⟨fun _=>by omega,fun _=>by omega⟩
   . omega
end Go.Proofs.YtndkhgakfodldaaGreatDoor

namespace Go.Proofs.YtndkhgakfodldaaGreatDoor
set_option maxRecDepth 100000
set_option maxHeartbeats 3200000
open Go.RowKit Go.Maps Go.WideMaps
set_option linter.unusedSimpArgs false
set_option linter.unusedVariables false
theorem DVals.take {w:World} {lo:Nat->Prop}:∀ {l:List D} {cs:List Value},DVals w lo l cs->∀ j,DVals w lo (l.take j) (cs.take j)
 | [],cs,h,j=>by unfold DVals at h;subst h;simp only [List.take_nil];exact DVals.nil
 | d :: ds,cs,h,0=>by simp only [vdz];exact DVals.nil
 | d :: ds,cs,h,j+1=>by
   unfold DVals at h;obtain ⟨v,r,rfl,h1,h2⟩:=h;exact DVals.cons h1 (DVals.take h2 j)
set_option maxHeartbeats 1600000
end Go.Proofs.YtndkhgakfodldaaGreatDoor
