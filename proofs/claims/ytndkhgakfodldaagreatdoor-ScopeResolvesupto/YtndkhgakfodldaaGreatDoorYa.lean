import Derived.Test.YtndkhgakfodldaaGreatDoorUn
import Derived.Deep.RegionHeldLaw
namespace Go.Proofs.YtndkhgakfodldaaGreatDoor
set_option maxRecDepth 100000
set_option maxHeartbeats 6400000
open Go.RowKit Go.Maps Go.WideMaps
set_option linter.unusedSimpArgs false
set_option linter.unusedVariables false
def itV (i:It):List Value:=[.int .i64 i.kind,.int .i64 i.n,.int .i64 i.at_,.string i.name]
def zng (l:List It):List Value:=l.flatMap itV
theorem zfr (l:List It) (i:It):zng (l++[i])=zng l++itV i:=by simp [zng]
def zf9 (l:List Bool):List Value:=l.map Value.bool
theorem zf2 (l:List Bool) (b:Bool):zf9 (l++[b])=zf9 l++[.bool b]:=by simp [zf9]
def Apt (v u:Value):Prop:=∀ k,v.ownBlock=some k->u.ownBlock≠some k
theorem Apt.symm {v u:Value} (h:Apt v u):Apt u v:=fun k h1 h2=>h k h2 h1
theorem Apt.nil (u:Value):Apt (.slice none 0 0) u:=fun k h=>by simp [Value.ownBlock] at h
theorem zck {P:Program} {ops:Array Oper} {rest:List Oper} {o:Oper} {a:Act} {Q:Exit->Act->World->Prop} (hgd:o.guard=none) (s x:Operand) (t:TypeId)
 (ho:o.op = .call { callee:=.builtin .append,args:=#[s,x],argTypes:=#[t,t] }) (base:Nat) (e:TypeId) (z:Value) (size bytes:Nat) (ht:P.underlying t=some (.slice e))
 (hi:(P.info? e).map (fun i=>(i.zero,i.size,i.bytes))=some (some z,size,bytes)) (hzs:z.cells.size=size) (hsz:0<size) (w:World) (v:Value) (n:Nat) (xs:List Value) (hs:a.eval s=v) (hrow:w.ownsRow base e size v n xs)
 (cs:Array Value) (H:Nat) (hH:H=w.heap.size) (hx:a.eval x = .slice (some ⟨H,0,none⟩) 1 1) (hcs:cs.size=size) (h1:∀ u ∈ cs.toList,u.oneCell'=true)
 (hn:n<=2000000) (hby:bytes<=200) (hbase:base<=w.heap.size)
 (h:∀ g cap w',w'.ownsRow base e size (.slice (some ⟨g,0,none⟩) (n+1) cap) (n+1) (xs++cs.toList)->Below base w w'->w.heap.size<w'.heap.size->
   (∀ (b2:Nat) (e2:TypeId) (z2 n2:Nat) (u:Value) (ys:List Value),w.ownsRow b2 e2 z2 u n2 ys->Apt u v->w'.ownsRow b2 e2 z2 u n2 ys/\Apt u (.slice (some ⟨g,0,none⟩) (n+1) cap))->(∀ (b:Nat) (x:Obj),w.heap[b]? = some x->v.ownBlock≠some b->w'.heap[b]? = some x)->
   wpList P ops Q rest (a.put o.dst (.slice (some ⟨g,0,none⟩) (n+1) cap)) w') :
 wpList P ops Q (o :: rest) a (w.alloc (.cells cs e)):=by
 obtain ⟨i0,hi,hz0,hz1,hz2⟩:=info_parts hi
 have hsize:(w.alloc (.cells cs e)).heap.size=w.heap.size+1:=by simp
 refine wpList_append_lies (w.alloc (.cells cs e)) hgd s x t ho base e i0 z size bytes ht hi hz0 hz1 hz2 hzs hsz v n xs hs (hrow.alloc _) ⟨H,0,none⟩ 1 1 cs.toList hx (by simp [hcs]) ?_ h1 (by omega) (by unfold maxLen;omega) ?_ (by omega) _ rfl ?_
 . intro j u hj
   subst hH
   have:(⟨w.heap.size,0,none⟩:Addr).add j=⟨w.heap.size,j,none⟩:=by unfold Addr.add;split<;>simp_all
   rw [this,veb (heap_newP w _)];simpa using hj
 . have:(n+1)*bytes<=2000001*200:=vdf (by omega) hby
   omega
 . intro g cap w' hown' hgrow hat hlt
   have hbel:Below base w w':=((Below.refl base w).alloc hbase _).grown hgrow (by omega) (fun k hk=>(hrow.lt k hk).1);have hgz:=hgrow.size;refine h g cap w' hown' hbel (by omega) (fun b2 e2 z2 n2 u ys hu hap=>?_) (fun b x hb hne=>?_)
   . refine ⟨(hu.alloc _).kept hgrow ?_,fun k hk hg=>?_⟩
     . cases hk:u.ownBlock with
       | none=>exact Or.inl rfl
       | some k=>exact Or.inr (fun e=>hap k hk e.symm)
     . have hlt2:=(hu.lt k hk).2
       simp only [Value.ownBlock,vcx] at hg
       rcases hat with h1 | h1
       . exact hap k hk (by rw [h1,hg])
       . omega
   . have hb':(w.alloc (.cells cs e)).heap[b]? = some x:=zad hb
     exact (hgrow.block b (zaa hb') (fun e=>hne e.symm)).trans hb'
theorem zfs {P:Program} {ops:Array Oper} {o:Oper} {a:Act} {K:Act->World->Prop} {Q:Exit->Act->World->Prop} {E:Prop} (hgd:o.guard=none) (s x:Operand) (t:TypeId)
 (ho:o.op = .call { callee:=.builtin .append,args:=#[s,x],argTypes:=#[t,t] }) (base:Nat) (e:TypeId) (z:Value) (size bytes:Nat) (ht:P.underlying t=some (.slice e))
 (hi:(P.info? e).map (fun i=>(i.zero,i.size,i.bytes))=some (some z,size,bytes)) (hzs:z.cells.size=size) (hsz:0<size) (w:World) (v:Value) (n:Nat) (xs:List Value) (hs:a.eval s=v) (hrow:w.ownsRow base e size v n xs)
 (cs:Array Value) (H:Nat) (hH:H=w.heap.size) (hx:a.eval x = .slice (some ⟨H,0,none⟩) 1 1) (hcs:cs.size=size) (h1:∀ u ∈ cs.toList,u.oneCell'=true)
 (hn:n<=2000000) (hby:bytes<=200) (hbase:base<=w.heap.size) (W:World) (hW:W=w.alloc (.cells cs e))
 (h:∀ g cap w',w'.ownsRow base e size (.slice (some ⟨g,0,none⟩) (n+1) cap) (n+1) (xs++cs.toList)->Below base w w'->w.heap.size<w'.heap.size->
   (∀ (b2:Nat) (e2:TypeId) (z2 n2:Nat) (u:Value) (ys:List Value),w.ownsRow b2 e2 z2 u n2 ys->Apt u v->w'.ownsRow b2 e2 z2 u n2 ys/\Apt u (.slice (some ⟨g,0,none⟩) (n+1) cap))->(∀ (b:Nat) (x:Obj),w.heap[b]? = some x->v.ownBlock≠some b->w'.heap[b]? = some x)->
   K (a.put o.dst (.slice (some ⟨g,0,none⟩) (n+1) cap)) w') :
 if Region.wanted o (yielded ops a.tmps)=true then Oper.wp P o a W K Q else E:=by
 subst hW;obtain ⟨i0,hi,hz0,hz1,hz2⟩:=info_parts hi
 have hsize:(w.alloc (.cells cs e)).heap.size=w.heap.size+1:=by simp
 refine step_append_lies (w.alloc (.cells cs e)) hgd s x t ho base e i0 z size bytes ht hi hz0 hz1 hz2 hzs hsz v n xs hs (hrow.alloc _) ⟨H,0,none⟩ 1 1 cs.toList hx (by simp [hcs]) ?_ h1 (by omega) (by unfold maxLen;omega) ?_ (by omega) _ rfl ?_
 . intro j u hj
   subst hH
   have:(⟨w.heap.size,0,none⟩:Addr).add j=⟨w.heap.size,j,none⟩:=by unfold Addr.add;split<;>simp_all
   rw [this,veb (heap_newP w _)];simpa using hj
 . have:(n+1)*bytes<=2000001*200:=vdf (by omega) hby
   omega
 . intro g cap w' hown' hgrow hat hlt
   have hbel:Below base w w':=((Below.refl base w).alloc hbase _).grown hgrow (by omega) (fun k hk=>(hrow.lt k hk).1);have hgz:=hgrow.size;refine h g cap w' hown' hbel (by omega) (fun b2 e2 z2 n2 u ys hu hap=>?_) (fun b x hb hne=>?_)
   . refine ⟨(hu.alloc _).kept hgrow ?_,fun k hk hg=>?_⟩
     . cases hk:u.ownBlock with
       | none=>exact Or.inl rfl
       | some k=>exact Or.inr (fun e=>hap k hk e.symm)
     . have hlt2:=(hu.lt k hk).2
       simp only [Value.ownBlock,vcx] at hg
       rcases hat with h1 | h1
       . exact hap k hk (by rw [h1,hg])
       . omega
   . have hb':(w.alloc (.cells cs e)).heap[b]? = some x:=zad hb
     exact (hgrow.block b (zaa hb') (fun e=>hne e.symm)).trans hb'
theorem Tryz.infoBool:(Tryz.prog.info? 4).map (fun i=>(i.zero,i.size,i.bytes))=some (some (.bool false),1,1):=by kernel_rfl
theorem zov (i:It):∀ u ∈ (#[Value.int .i64 i.kind,.int .i64 i.n,.int .i64 i.at_,.string i.name]:Array Value).toList,u.oneCell'=true:=by
 intro u hu;simp at hu
 rcases hu with rfl | rfl | rfl | rfl<;>rfl
theorem zi8 (b:Bool):∀ u ∈ (#[Value.bool b]:Array Value).toList,u.oneCell'=true:=by
 intro u hu;simp at hu
 subst hu;rfl
theorem zow {w:World} {A:Nat->Prop}:∀ l:List It,(∀ i ∈ l,i.name.size<=maxLen)->zap w A (zfe l) (zng l)
 | [],_=>.nil
 | i :: r,h=>by
   have:=(ze8 (w:=w) (A:=A) (k:=i.kind) (n:=i.n) (a:=i.at_) (h i (by simp))).append (zow r (fun x hx=>h x (by simp [hx])));exact this
def zgv (w:World) (a:OA) (l:List Bool):Prop:=l=[]\/∃ b off,a=some ⟨b,off,none⟩/\b<w.heap.size/\∀ i (h:i<l.length),w.cell? ⟨b,off+i,none⟩=some (.bool l[i])
theorem zgv.later {w w':World} {a:OA} {l:List Bool} (h:zgv w a l) (hb:Below w.heap.size w w'):zgv w' a l:=by
 rcases h with h | ⟨b,off,e,hl,h⟩
 . exact Or.inl h
 . exact Or.inr ⟨b,off,e,vai hl hb.size,fun i hi=>(hb.cell (p:=⟨b,off+i,none⟩) hl).trans (h i hi)⟩
theorem zgv.place {w:World} {a:OA} {l:List Bool} (h:zgv w a l) {k:Nat} (hk:k<l.length):∃ b off,a=some ⟨b,off,none⟩/\b<w.heap.size/\w.cell? ⟨b,off+k,none⟩=some (.bool l[k]):=by
 rcases h with h | ⟨b,off,e,hl,h⟩
 . subst h;simp at hk
 . exact ⟨b,off,e,hl,h k hk⟩
theorem zwp {w:World} {B:Nat} {v:Value} {l:List Bool} (h:w.ownsRow B 4 1 v l.length (zf9 l)):∃ a cap,v = .slice a l.length cap/\zgv w a l:=by
 rcases h.2 with ⟨hv,h0⟩ | ⟨g,cap,cur,hv,hB,hg,_⟩
 . have hl:l=[]:=vaj h0
   exact ⟨none,0,by rw [hv,hl];rfl,Or.inl hl⟩
 . refine ⟨_,cap,hv,Or.inr ⟨g,0,rfl,zaa hg,fun i hi=>?_⟩⟩
   have:=h.cells (g:=g) (by rw [hv];rfl) i (.bool l[i]) (by simp [zf9,hi]);rw [show (⟨g,0,none⟩:Addr).add i=⟨g,i,none⟩ from by unfold Addr.add;split<;>simp_all] at this;rw [vbc];exact this
theorem zwq {w:World} {B:Nat} {v:Value} {l:List It} (h:w.ownsRow B 98 4 v l.length (zng l)) (hl:∀ i ∈ l,i.name.size<=maxLen):∃ a cap,v = .slice a l.length cap/\EAt w (B<=·) a l.length (zfe l):=by
 rcases h.2 with ⟨hv,h0⟩ | ⟨g,cap,cur,hv,hB,hg,_⟩
 . exact ⟨none,0,by rw [hv,h0],Or.inl h0⟩
 . subst hv
   exact ⟨_,cap,rfl,EAt.of_own h (fun _ h=>h) (zow l hl)⟩
theorem zwr {w:World} {b:Nat} {x0 x1 x2 x3:Value} {t:TypeId} (h:w.heap[b]? = some (.cells #[x0,x1,x2,x3] t (0,0))) :
 w.cell? ⟨b,0,none⟩=some x0/\w.cell? ⟨b,1,none⟩=some x1/\w.cell? ⟨b,2,none⟩=some x2/\w.cell? ⟨b,3,none⟩=some x3:=by
 refine ⟨?_,?_,?_,?_⟩<;>(rw [veb h];rfl)
theorem zkk (m:Mo) (v:Value) (a1:OA) (c1:Nat) (a2:OA) (c2:Nat) (a3:OA) (c3:Nat) (a4:OA) (c4:Nat) (w:World) (hM:MoAt w Tt m v a1 c1 a2 c2 a3 c3 a4 c4) (hok:LayOk m) :
 Calls Tryz.prog 52 #[v] w fun e w'=>(∃ ai ci ap cp,e = .returned (.tuple #[.slice ai (layItems m).length ci,.slice ap (zgt m).length cp,.int .i64 (zav m)])/\EAt w' (w.heap.size<=·) ai (layItems m).length (zfe (layItems m))/\zgv w' ap (zgt m))/\Below w.heap.size w w':=by
 obtain rfl:=hM.val;have HDe:=hid hM.decls;have HPr:=hid hM.procs;have HOk:=hid hok;have hd10:=hok.decls;have hp6:=hok.procs
 have HNm:Hid (∀ i ∈ layItems m,i.name.size<=maxLen):=fun i hi=>by
  unfold layItems at hi
  rcases vca.1 hi with h | h
  . have:∀ (l:List De) (a:Int),(∀ d ∈ l,d.name.size<=maxLen)->∀ x ∈ (layD a l).1,x.name.size<=maxLen:=by
     intro l
     induction l with
     | nil=>intro a _ x hx;cases hx
     | cons d r ih=>
       intro a hl x hx
       rcases vbo.1 hx with rfl | hx
       . exact hl d (by simp)
       . exact ih _ (fun y hy=>hl y (by simp [hy])) x hx
    refine this m.decls 0 (fun d hd=>?_) i h;obtain ⟨j,hj,rfl⟩:=vay hd;obtain ⟨_,_,_,hx⟩:=HDe.out.de j hj;exact hx.wna
  . have:∀ (l:List Pr) (n:Nat),(∀ p ∈ l,p.name.size<=maxLen)->∀ x ∈ prIts n l,x.name.size<=maxLen:=by
     intro l
     induction l with
     | nil=>intro n _ x hx;cases hx
     | cons d r ih=>
       intro n hl x hx
       rcases vbo.1 hx with rfl | hx
       . exact hl d (by simp)
       . exact ih _ (fun y hy=>hl y (by simp [hy])) x hx
    refine this m.procs 0 (fun p hp=>?_) i h;obtain ⟨j,hj,rfl⟩:=vay hp;obtain ⟨_,_,_,_,_,_,_,_,_,hx⟩:=HPr.out.pr j hj;exact hx.wna
 clear hM hok;go_enter Tryz.func52,Tryz.ntmps52;go_wp2_with fail
 go_loopw [5,6,7,8] (fun v pv dv i wr=>∃ (j:Nat) (acc:List It) (dt:Int),j<=m.decls.length/\i = .int .i64 j/\dv = .int .i64 dt/\acc.length=j/\layD 0 (m.decls.take j)=(acc,dt)/\wr.ownsRow (w.heap.size+1) 98 4 v j (zng acc)/\wr.ownsRow (w.heap.size+1) 4 1 pv j (zf9 ((m.decls.take j).map De.pub))/\Apt v pv/\wr.heap[w.heap.size]? = some (.cells #[.string m.name,.slice a1 m.uses.length c1,.slice a2 m.decls.length c2,.slice a3 m.procs.length c3,.slice a4 m.main.length c4] 27)/\Below w.heap.size w wr) (fun _ _ _ i _=>m.decls.length - (intOf i).toNat)
 case atStart=>exact ⟨0,[],0,vad _,rfl,rfl,rfl,rfl,veg _ _ _ _,veg _ _ _ _,Apt.nil _,heap_newP _ _,al1 _ _⟩
 case round=>
  obtain ⟨j,acc,dt,hj,rfl,rfl,hacc,hlay,hrow,hpr,hap,hbx,hb⟩:=hrel;have HO:=hid hrow;have HP:=hid hpr;have HAp:=hid hap;have HM0:=hid hbx;have HB:=hid hb;have HLa:=hid hlay;have hzr:=hb.size;have hxlt:=zaa hbx;obtain ⟨m0,m1,m2,m3,m4,_⟩:=zac hbx;clear hrow hpr hap hb hlay hbx
  by_cases hlt:j<m.decls.length
  . obtain ⟨b,off,rfl,hx⟩:=(HDe.out.later HB.out).de j hlt
    obtain ⟨hbl,x0,x1,x2,x3,_,_,hnm⟩:=hx
    have HSn:Hid (layD 0 (m.decls.take (j+1))=(acc++[layIt dt m.decls[j]],zcc dt m.decls[j])):=by
     show layD 0 (m.decls.take (j+1))=_;rw [vag hlt,zka,HLa.out]
    have HPb:Hid ((m.decls.take (j+1)).map De.pub=(m.decls.take j).map De.pub++[m.decls[j].pub]):=by show _=_;rw [vag hlt,vbr];rfl
    have hkk:=HOk.out.kinds m.decls[j] (vah _)
    have hbd:0<=dt/\dt<=320:=by
     have:=zia (m.decls.take j) 0 (fun d hd=>HOk.out.kinds d (List.mem_of_mem_take hd));rw [HLa.out] at this;simp only [vbu] at this;omega
    generalize m.decls[j]=d at *;have hk1':=hkk.1;have hk3':=hkk.2.1;have h33:=hkk.2.2;clear hkk
    by_cases hk1:d.kind=1
    . have HX:Hid (layIt dt d=⟨1,d.n,0,d.name⟩):=by show _=_;unfold layIt;rw [hk1];rfl
      have HN:Hid (zcc dt d=dt):=by show _=_;unfold zcc;rw [hk1];rfl
      have HO1:Hid (((wr.alloc (.cells #[.int .i64 1,.string d.name,.bool d.pub,.int .i64 d.n] 170)).alloc (.cells #[.int .i64 1,.int .i64 d.n,.int .i64 0,.string d.name] 98)).ownsRow (w.heap.size+1) 98 4 u5 j (zng acc)):=(HO.out.alloc _).alloc _;have HP1:Hid (((wr.alloc (.cells #[.int .i64 1,.string d.name,.bool d.pub,.int .i64 d.n] 170)).alloc (.cells #[.int .i64 1,.int .i64 d.n,.int .i64 0,.string d.name] 98)).ownsRow (w.heap.size+1) 4 1 u6 j (zf9 ((m.decls.take j).map De.pub))):=(HP.out.alloc _).alloc _;have HBA:Hid (Below w.heap.size w ((wr.alloc (.cells #[.int .i64 1,.string d.name,.bool d.pub,.int .i64 d.n] 170)).alloc (.cells #[.int .i64 1,.int .i64 d.n,.int .i64 0,.string d.name] 98))):=thenB HB.out (bl2 _ _ _);have HX1:Hid (((wr.alloc (.cells #[.int .i64 1,.string d.name,.bool d.pub,.int .i64 d.n] 170)).alloc (.cells #[.int .i64 1,.int .i64 d.n,.int .i64 0,.string d.name] 98)).heap[w.heap.size]? = some (.cells #[.string m.name,.slice a1 m.uses.length c1,.slice (some ⟨b,off,none⟩) m.decls.length c2,.slice a3 m.procs.length c3,.slice a4 m.main.length c4] 27)):=zad (zad HM0.out)
      have HD1:Hid (((wr.alloc (.cells #[.int .i64 1,.string d.name,.bool d.pub,.int .i64 d.n] 170)).alloc (.cells #[.int .i64 1,.int .i64 d.n,.int .i64 0,.string d.name] 98)).heap[wr.heap.size]? = some (.cells #[.int .i64 1,.string d.name,.bool d.pub,.int .i64 d.n] 170)):=zad (heap_newP _ _)
      have HZ:Hid (((wr.alloc (.cells #[.int .i64 1,.string d.name,.bool d.pub,.int .i64 d.n] 170)).alloc (.cells #[.int .i64 1,.int .i64 d.n,.int .i64 0,.string d.name] 98)).heap.size=wr.heap.size+2):=by show _=_;simp
      have HNb:Hid (u5.ownBlock≠some wr.heap.size):=fun e=>by have:=(HO.out.lt _ e).2;omega
      have HNm:Hid (u5.ownBlock≠some w.heap.size):=fun e=>by have:=(HO.out.lt _ e).1;omega
      have HNc:Hid (u6.ownBlock≠some w.heap.size):=fun e=>by have:=(HP.out.lt _ e).1;omega
      clear hk1' hk3' h33
      go_wp2_with (first
       | (at_builtin;refine zck rfl (.tmp 48) (.tmp 50) 28 rfl (w.heap.size+1) 98 _ 4 40 Tryz.underlying28 Tryz.infoItem rfl (by decide) ((wr.alloc (.cells #[.int .i64 1,.string d.name,.bool d.pub,.int .i64 d.n] 170)).alloc (.cells #[.int .i64 1,.int .i64 d.n,.int .i64 0,.string d.name] 98)) u5 j (zng acc) rfl HO1.out #[.int .i64 1,.int .i64 d.n,.int .i64 0,.string d.name] _ (by simp) rfl rfl (zov ⟨1,d.n,0,d.name⟩) (by omega) (by decide) (by simp;omega) ?_;intro g5 k5 w5 ho5 hb5 hz5 hkp5 hkb5;have HO5:=hid ho5;have HB5:=hid hb5;have HKb5:=hid hkb5;obtain ⟨hp5,hap5⟩:=hkp5 _ _ _ _ _ _ HP1.out (HAp.out.symm);have HP5:=hid hp5;have HAp5:=hid hap5;obtain ⟨y0,y1,y2,y3,y4,_⟩:=zac (HKb5.out _ _ HX1.out HNm.out);obtain ⟨f0,f1,f2,f3⟩:=zwr (HKb5.out _ _ HD1.out HNb.out);have fz:=zaa (HKb5.out _ _ HD1.out HNb.out);have HM5:=hid (HKb5.out _ _ HX1.out HNm.out);have hz5':wr.heap.size+2<w5.heap.size:=(by have:=HZ.out;omega);clear ho5 hb5 hkp5 hkb5 hp5 hap5)
       | (at_builtin;refine zck rfl (.tmp 52) (.tmp 55) 94 rfl (w.heap.size+1) 4 _ 1 1 Tryz.underlying94 Tryz.infoBool rfl (by decide) w5 u6 j (zf9 ((m.decls.take j).map De.pub)) rfl HP5.out #[.bool d.pub] _ rfl rfl rfl (zi8 d.pub) (by omega) (by decide) (by omega) ?_;intro g6 k6 w6 hp6 hb6 hz6 hkp6 hkb6;have HP6:=hid hp6;have HB6:=hid hb6;obtain ⟨ho6,hap6⟩:=hkp6 _ _ _ _ _ _ HO5.out (HAp5.out.symm);have HO6:=hid ho6;have HAp6:=hid hap6;have HM6:=hid (hkb6 _ _ HM5.out HNc.out);clear hp6 hb6 hkp6 hkb6 ho6 hap6))
      go_roundw
      case rel=>exact ⟨j+1,acc++[_],_,by omega,by go_num,rfl,by simp [hacc],HSn.out.trans (by rw [HX.out,HN.out]),by rw [zfr];exact HO6.out,by rw [HPb.out,zf2];exact HP6.out,HAp6.out,HM6.out,HBA.out.trans ((HB5.out.trans HB6.out).mono (by omega))⟩
      case measure=>simp [intOf];omega
    by_cases hk2:d.kind=2
    . have HX:Hid (layIt dt d=⟨2,d.n,dt,d.name⟩):=by show _=_;unfold layIt;rw [hk2];rfl
      have HN:Hid (zcc dt d=dt+1):=by show _=_;unfold zcc;rw [hk2];rfl
      have hwr:IntKind.i64.wrap (dt+1)=dt+1:=by simp only [IntKind.wrap,IntKind.bits,IntKind.signed];simp;omega
      have HO1:Hid (((wr.alloc (.cells #[.int .i64 2,.string d.name,.bool d.pub,.int .i64 d.n] 170)).alloc (.cells #[.int .i64 2,.int .i64 d.n,.int .i64 dt,.string d.name] 98)).ownsRow (w.heap.size+1) 98 4 u5 j (zng acc)):=(HO.out.alloc _).alloc _;have HP1:Hid (((wr.alloc (.cells #[.int .i64 2,.string d.name,.bool d.pub,.int .i64 d.n] 170)).alloc (.cells #[.int .i64 2,.int .i64 d.n,.int .i64 dt,.string d.name] 98)).ownsRow (w.heap.size+1) 4 1 u6 j (zf9 ((m.decls.take j).map De.pub))):=(HP.out.alloc _).alloc _;have HBA:Hid (Below w.heap.size w ((wr.alloc (.cells #[.int .i64 2,.string d.name,.bool d.pub,.int .i64 d.n] 170)).alloc (.cells #[.int .i64 2,.int .i64 d.n,.int .i64 dt,.string d.name] 98))):=thenB HB.out (bl2 _ _ _);have HX1:Hid (((wr.alloc (.cells #[.int .i64 2,.string d.name,.bool d.pub,.int .i64 d.n] 170)).alloc (.cells #[.int .i64 2,.int .i64 d.n,.int .i64 dt,.string d.name] 98)).heap[w.heap.size]? = some (.cells #[.string m.name,.slice a1 m.uses.length c1,.slice (some ⟨b,off,none⟩) m.decls.length c2,.slice a3 m.procs.length c3,.slice a4 m.main.length c4] 27)):=zad (zad HM0.out)
      have HD1:Hid (((wr.alloc (.cells #[.int .i64 2,.string d.name,.bool d.pub,.int .i64 d.n] 170)).alloc (.cells #[.int .i64 2,.int .i64 d.n,.int .i64 dt,.string d.name] 98)).heap[wr.heap.size]? = some (.cells #[.int .i64 2,.string d.name,.bool d.pub,.int .i64 d.n] 170)):=zad (heap_newP _ _)
      have HZ:Hid (((wr.alloc (.cells #[.int .i64 2,.string d.name,.bool d.pub,.int .i64 d.n] 170)).alloc (.cells #[.int .i64 2,.int .i64 d.n,.int .i64 dt,.string d.name] 98)).heap.size=wr.heap.size+2):=by show _=_;simp
      have HNb:Hid (u5.ownBlock≠some wr.heap.size):=fun e=>by have:=(HO.out.lt _ e).2;omega
      have HNm:Hid (u5.ownBlock≠some w.heap.size):=fun e=>by have:=(HO.out.lt _ e).1;omega
      have HNc:Hid (u6.ownBlock≠some w.heap.size):=fun e=>by have:=(HP.out.lt _ e).1;omega
      clear hk1' hk3' h33
      go_wp2_with (first
       | (at_builtin;refine zck rfl (.tmp 48) (.tmp 50) 28 rfl (w.heap.size+1) 98 _ 4 40 Tryz.underlying28 Tryz.infoItem rfl (by decide) ((wr.alloc (.cells #[.int .i64 2,.string d.name,.bool d.pub,.int .i64 d.n] 170)).alloc (.cells #[.int .i64 2,.int .i64 d.n,.int .i64 dt,.string d.name] 98)) u5 j (zng acc) rfl HO1.out #[.int .i64 2,.int .i64 d.n,.int .i64 dt,.string d.name] _ (by simp) rfl rfl (zov ⟨2,d.n,dt,d.name⟩) (by omega) (by decide) (by simp;omega) ?_;intro g5 k5 w5 ho5 hb5 hz5 hkp5 hkb5;have HO5:=hid ho5;have HB5:=hid hb5;have HKb5:=hid hkb5;obtain ⟨hp5,hap5⟩:=hkp5 _ _ _ _ _ _ HP1.out (HAp.out.symm);have HP5:=hid hp5;have HAp5:=hid hap5;obtain ⟨y0,y1,y2,y3,y4,_⟩:=zac (HKb5.out _ _ HX1.out HNm.out);obtain ⟨f0,f1,f2,f3⟩:=zwr (HKb5.out _ _ HD1.out HNb.out);have fz:=zaa (HKb5.out _ _ HD1.out HNb.out);have HM5:=hid (HKb5.out _ _ HX1.out HNm.out);have hz5':wr.heap.size+2<w5.heap.size:=(by have:=HZ.out;omega);clear ho5 hb5 hkp5 hkb5 hp5 hap5)
       | (at_builtin;refine zck rfl (.tmp 52) (.tmp 55) 94 rfl (w.heap.size+1) 4 _ 1 1 Tryz.underlying94 Tryz.infoBool rfl (by decide) w5 u6 j (zf9 ((m.decls.take j).map De.pub)) rfl HP5.out #[.bool d.pub] _ rfl rfl rfl (zi8 d.pub) (by omega) (by decide) (by omega) ?_;intro g6 k6 w6 hp6 hb6 hz6 hkp6 hkb6;have HP6:=hid hp6;have HB6:=hid hb6;obtain ⟨ho6,hap6⟩:=hkp6 _ _ _ _ _ _ HO5.out (HAp5.out.symm);have HO6:=hid ho6;have HAp6:=hid hap6;have HM6:=hid (hkb6 _ _ HM5.out HNc.out);clear hp6 hb6 hkp6 hkb6 ho6 hap6))
      go_roundw
      case rel=>exact ⟨j+1,acc++[_],_,by omega,by go_num,rfl,by simp [hacc],HSn.out.trans (by rw [HX.out,HN.out]),by rw [zfr];exact HO6.out,by rw [HPb.out,zf2];exact HP6.out,HAp6.out,HM6.out,HBA.out.trans ((HB5.out.trans HB6.out).mono (by omega))⟩
      case measure=>simp [intOf];omega
    by_cases hk3:d.kind=3
    . have HX:Hid (layIt dt d=⟨3,d.n,dt,d.name⟩):=by show _=_;unfold layIt;rw [hk3];rfl
      have HN:Hid (zcc dt d=dt+d.n):=by show _=_;unfold zcc;rw [hk3];rfl
      have hdn:=h33 hk3
      have hwr:IntKind.i64.wrap (dt+d.n)=dt+d.n:=by simp only [IntKind.wrap,IntKind.bits,IntKind.signed];simp;omega
      have HO1:Hid (((wr.alloc (.cells #[.int .i64 3,.string d.name,.bool d.pub,.int .i64 d.n] 170)).alloc (.cells #[.int .i64 3,.int .i64 d.n,.int .i64 dt,.string d.name] 98)).ownsRow (w.heap.size+1) 98 4 u5 j (zng acc)):=(HO.out.alloc _).alloc _;have HP1:Hid (((wr.alloc (.cells #[.int .i64 3,.string d.name,.bool d.pub,.int .i64 d.n] 170)).alloc (.cells #[.int .i64 3,.int .i64 d.n,.int .i64 dt,.string d.name] 98)).ownsRow (w.heap.size+1) 4 1 u6 j (zf9 ((m.decls.take j).map De.pub))):=(HP.out.alloc _).alloc _;have HBA:Hid (Below w.heap.size w ((wr.alloc (.cells #[.int .i64 3,.string d.name,.bool d.pub,.int .i64 d.n] 170)).alloc (.cells #[.int .i64 3,.int .i64 d.n,.int .i64 dt,.string d.name] 98))):=thenB HB.out (bl2 _ _ _);have HX1:Hid (((wr.alloc (.cells #[.int .i64 3,.string d.name,.bool d.pub,.int .i64 d.n] 170)).alloc (.cells #[.int .i64 3,.int .i64 d.n,.int .i64 dt,.string d.name] 98)).heap[w.heap.size]? = some (.cells #[.string m.name,.slice a1 m.uses.length c1,.slice (some ⟨b,off,none⟩) m.decls.length c2,.slice a3 m.procs.length c3,.slice a4 m.main.length c4] 27)):=zad (zad HM0.out)
      have HD1:Hid (((wr.alloc (.cells #[.int .i64 3,.string d.name,.bool d.pub,.int .i64 d.n] 170)).alloc (.cells #[.int .i64 3,.int .i64 d.n,.int .i64 dt,.string d.name] 98)).heap[wr.heap.size]? = some (.cells #[.int .i64 3,.string d.name,.bool d.pub,.int .i64 d.n] 170)):=zad (heap_newP _ _)
      have HZ:Hid (((wr.alloc (.cells #[.int .i64 3,.string d.name,.bool d.pub,.int .i64 d.n] 170)).alloc (.cells #[.int .i64 3,.int .i64 d.n,.int .i64 dt,.string d.name] 98)).heap.size=wr.heap.size+2):=by show _=_;simp
      have HNb:Hid (u5.ownBlock≠some wr.heap.size):=fun e=>by have:=(HO.out.lt _ e).2;omega
      have HNm:Hid (u5.ownBlock≠some w.heap.size):=fun e=>by have:=(HO.out.lt _ e).1;omega
      have HNc:Hid (u6.ownBlock≠some w.heap.size):=fun e=>by have:=(HP.out.lt _ e).1;omega
      clear hk1' hk3' h33
      go_wp2_with (first
       | (at_builtin;refine zck rfl (.tmp 48) (.tmp 50) 28 rfl (w.heap.size+1) 98 _ 4 40 Tryz.underlying28 Tryz.infoItem rfl (by decide) ((wr.alloc (.cells #[.int .i64 3,.string d.name,.bool d.pub,.int .i64 d.n] 170)).alloc (.cells #[.int .i64 3,.int .i64 d.n,.int .i64 dt,.string d.name] 98)) u5 j (zng acc) rfl HO1.out #[.int .i64 3,.int .i64 d.n,.int .i64 dt,.string d.name] _ (by simp) rfl rfl (zov ⟨3,d.n,dt,d.name⟩) (by omega) (by decide) (by simp;omega) ?_;intro g5 k5 w5 ho5 hb5 hz5 hkp5 hkb5;have HO5:=hid ho5;have HB5:=hid hb5;have HKb5:=hid hkb5;obtain ⟨hp5,hap5⟩:=hkp5 _ _ _ _ _ _ HP1.out (HAp.out.symm);have HP5:=hid hp5;have HAp5:=hid hap5;obtain ⟨y0,y1,y2,y3,y4,_⟩:=zac (HKb5.out _ _ HX1.out HNm.out);obtain ⟨f0,f1,f2,f3⟩:=zwr (HKb5.out _ _ HD1.out HNb.out);have fz:=zaa (HKb5.out _ _ HD1.out HNb.out);have HM5:=hid (HKb5.out _ _ HX1.out HNm.out);have hz5':wr.heap.size+2<w5.heap.size:=(by have:=HZ.out;omega);clear ho5 hb5 hkp5 hkb5 hp5 hap5)
       | (at_builtin;refine zck rfl (.tmp 52) (.tmp 55) 94 rfl (w.heap.size+1) 4 _ 1 1 Tryz.underlying94 Tryz.infoBool rfl (by decide) w5 u6 j (zf9 ((m.decls.take j).map De.pub)) rfl HP5.out #[.bool d.pub] _ rfl rfl rfl (zi8 d.pub) (by omega) (by decide) (by omega) ?_;intro g6 k6 w6 hp6 hb6 hz6 hkp6 hkb6;have HP6:=hid hp6;have HB6:=hid hb6;obtain ⟨ho6,hap6⟩:=hkp6 _ _ _ _ _ _ HO5.out (HAp5.out.symm);have HO6:=hid ho6;have HAp6:=hid hap6;have HM6:=hid (hkb6 _ _ HM5.out HNc.out);clear hp6 hb6 hkp6 hkb6 ho6 hap6))
      go_roundw
      case rel=>exact ⟨j+1,acc++[_],_,by omega,by go_num,rfl,by simp [hacc],HSn.out.trans (by rw [HX.out,HN.out]),by rw [zfr];exact HO6.out,by rw [HPb.out,zf2];exact HP6.out,HAp6.out,HM6.out,HBA.out.trans ((HB5.out.trans HB6.out).mono (by omega))⟩
      case measure=>simp [intOf];omega
    omega
  . obtain rfl:j=m.decls.length:=by omega
    have HL0:Hid (layD 0 m.decls=(acc,dt)):=by have:=HLa.out;rw [vav] at this;exact this
    have HP0:Hid (wr.ownsRow (w.heap.size+1) 4 1 u6 m.decls.length (zf9 (m.decls.map De.pub))):=by have:=HP.out;rw [vav] at this;exact this
    clear HLa HP;go_wp2_with fail;clear m0 m1 m2 m3 m4
    go_loopw [5,6,11] (fun v pv i wr=>∃ (j:Nat) (ac2:List It),j<=m.procs.length/\i = .int .i64 j/\ac2=acc++prIts 0 (m.procs.take j)/\wr.ownsRow (w.heap.size+1) 98 4 v (m.decls.length+j) (zng ac2)/\wr.ownsRow (w.heap.size+1) 4 1 pv (m.decls.length+j) (zf9 (m.decls.map De.pub++(m.procs.take j).map Pr.pub))/\Apt v pv/\wr.heap[w.heap.size]? = some (.cells #[.string m.name,.slice a1 m.uses.length c1,.slice a2 m.decls.length c2,.slice a3 m.procs.length c3,.slice a4 m.main.length c4] 27)/\Below w.heap.size w wr) (fun _ _ i _=>m.procs.length - (intOf i).toNat)
    case atStart=>exact ⟨0,acc,vad _,rfl,by simp [prIts],HO.out,by simpa using HP0.out,HAp.out,HM0.out,HB.out⟩
    case round=>
     clear HO HP0 HAp HM0 HB hzr hxlt;obtain ⟨j,ac2,hj2,rfl,hdef,hrow,hpr,hap,hbx,hb⟩:=hrel;have HO:=hid hrow;have HP:=hid hpr;have HAp:=hid hap;have HM0:=hid hbx;have HB:=hid hb;have HDf:=hid hdef;have hzr:=hb.size;have hxlt:=zaa hbx;obtain ⟨m0,m1,m2,m3,m4,_⟩:=zac hbx;clear hrow hpr hap hb hdef hbx
     by_cases hlt:j<m.procs.length
     . obtain ⟨b,off,q1,d1,q2,d2,q3,d3,rfl,hx⟩:=(HPr.out.later HB.out).pr j hlt
       obtain ⟨hbl,x0,x1,x2,x3,x4,hpa,_,_,hnm⟩:=hx;have hpab:=hpa.bound
       have HSn:Hid (ac2++[zts j m.procs[j]]=acc++prIts 0 (m.procs.take (j+1))):=by
        show ac2++[zts j m.procs[j]]=_;rw [vag hlt,zh9,HDf.out,vds,vbu,vdl (by omega),vbc]
       have HPb:Hid (m.decls.map De.pub++(m.procs.take (j+1)).map Pr.pub=(m.decls.map De.pub++(m.procs.take j).map Pr.pub)++[m.procs[j].pub]):=by show _=_;rw [vag hlt,vbr,vds];rfl
       obtain ⟨b0,off0,q1',d1',q2',d2',q3',d3',hbo,hx0⟩:=HPr.out.pr j hlt
       obtain ⟨rfl,rfl⟩:b0=b/\off0=off:=by injection hbo with hbo;injection hbo with h1 h2;exact ⟨h1.symm,h2.symm⟩
       have hbl0:=hx0.lt;clear hx0 hbo
       have HMc:Hid (∀ W,Below (w.heap.size+1) wr W->W.cell? ⟨w.heap.size,3,none⟩=some (.slice (some ⟨b0,off0,none⟩) m.procs.length c3)/\W.cell? ⟨b0,off0+j*5+2,none⟩=some (.slice q1 m.procs[j].params.length d1)/\W.cell? ⟨b0,off0+j*5,none⟩=some (.string m.procs[j].name)/\W.cell? ⟨b0,off0+j*5+1,none⟩=some (.bool m.procs[j].pub)):=fun W hW=>
        ⟨(hW.cell (p:=⟨w.heap.size,3,none⟩) (by show w.heap.size<_;omega)).trans m3,(hW.cell (p:=⟨b0,_,none⟩) (by show b0<_;omega)).trans x2,(hW.cell (p:=⟨b0,_,none⟩) (by show b0<_;omega)).trans x0,(hW.cell (p:=⟨b0,_,none⟩) (by show b0<_;omega)).trans x1⟩
       generalize m.procs[j]=p at *
       have HNb:Hid (u5.ownBlock≠some w.heap.size):=fun e=>by have:=(HO.out.lt _ e).1;omega
       have HNc:Hid (u6.ownBlock≠some w.heap.size):=fun e=>by have:=(HP.out.lt _ e).1;omega
       have hjp:(j:Int)<m.procs.length:=by omega
       have HO1:Hid (wr.drew.ownsRow (w.heap.size+1) 98 4 u5 (m.decls.length+j) (zng ac2)):=HO.out.drew;have HP1:Hid (wr.drew.ownsRow (w.heap.size+1) 4 1 u6 (m.decls.length+j) (zf9 (m.decls.map De.pub++(m.procs.take j).map Pr.pub))):=HP.out.drew;have HBd:Hid (Below (w.heap.size+1) wr wr.drew):=(Below.refl _ _).drew;have HMd:Hid (wr.drew.heap[w.heap.size]? = some (.cells #[.string m.name,.slice a1 m.uses.length c1,.slice a2 m.decls.length c2,.slice (some ⟨b0,off0,none⟩) m.procs.length c3,.slice a4 m.main.length c4] 27)):=HM0.out;go_wp2_with fail;clear m0 m1 m2 m3 m4 x0 x1 x2 x3 x4
       go_region_held_law (fun W=>W.cell? ⟨w.heap.size,3,none⟩=some (.slice (some ⟨b0,off0,none⟩) m.procs.length c3)/\W.cell? ⟨b0,off0+j*5+2,none⟩=some (.slice q1 p.params.length d1)/\W.cell? ⟨b0,off0+j*5,none⟩=some (.string p.name)/\W.cell? ⟨b0,off0+j*5+1,none⟩=some (.bool p.pub)) (first | with_reducible exact HMc.out _ HB5.out | with_reducible exact HMc.out _ HBd.out | with_reducible exact HMc.out _ (((Below.refl _ wr).alloc (by omega) _).drew) | with_reducible exact HMc.out _ (HBd.out.alloc (by simp;omega) _))
        (first | (refine zfs rfl (.tmp 64) (.tmp 80) 28 rfl (w.heap.size+1) 98 _ 4 40 Tryz.underlying28 Tryz.infoItem rfl (by decide) wr.drew u5 (m.decls.length+j) (zng ac2) rfl HO1.out #[.int .i64 4,.int .i64 p.params.length,.int .i64 j,.string p.name] _ (by simp) rfl rfl (zov ⟨4,p.params.length,j,p.name⟩) (by omega) (by decide) (by simp;omega) _ rfl ?_;intro g5 k5 w5 ho5 hb5 hz5 hkp5 hkb5;have HO5:=hid ho5;have HB5:=hid (HBd.out.trans hb5);have HM5:=hid (hkb5 _ _ HMd.out HNb.out);obtain ⟨hp5,hap5⟩:=hkp5 _ _ _ _ _ _ HP1.out (HAp.out.symm);have HP5:=hid hp5;have HAp5:=hid hap5;have hz5':wr.heap.size<w5.heap.size:=(by simpa using hz5);clear ho5 hb5 hkp5 hkb5 hp5 hap5 hz5))
       all_goals
        obtain ⟨y3,y2,y0,y1⟩:=HMc.out _ HB5.out;have yz:=zaa HM5.out
        have yb:b0<w5.heap.size:=by omega
        go_wp2_with (at_builtin;refine zck rfl (.tmp 82) (.tmp 89) 94 rfl (w.heap.size+1) 4 _ 1 1 Tryz.underlying94 Tryz.infoBool rfl (by decide) w5 u6 (m.decls.length+j) (zf9 (m.decls.map De.pub++(m.procs.take j).map Pr.pub)) rfl HP5.out #[.bool p.pub] _ rfl rfl rfl (zi8 p.pub) (by omega) (by decide) (by omega) ?_;intro g6 k6 w6 hp6 hb6 hz6 hkp6 hkb6;have HP6:=hid hp6;have HB6:=hid hb6;obtain ⟨ho6,hap6⟩:=hkp6 _ _ _ _ _ _ HO5.out (HAp5.out.symm);have HO6:=hid ho6;have HAp6:=hid hap6;have HM6:=hid (hkb6 _ _ HM5.out HNc.out);clear hp6 hb6 hkp6 hkb6 ho6 hap6)
        go_roundw
        case rel=>exact ⟨j+1,ac2++[zts j p],by omega,by go_num,HSn.out,by rw [zfr];exact HO6.out,by rw [HPb.out,zf2];exact HP6.out,HAp6.out,HM6.out,HB.out.trans ((HB5.out.trans HB6.out).mono (by omega))⟩
        case measure=>simp [intOf];omega
     . obtain rfl:j=m.procs.length:=by omega
       have hli:ac2=layItems m:=by rw [HDf.out,vav];unfold layItems;rw [HL0.out]
       have hld:dt=zav m:=by unfold zav;rw [HL0.out]
       have hpb:m.decls.map De.pub++(m.procs.take m.procs.length).map Pr.pub=zgt m:=by rw [vav];rfl
       have l1:=zc4 m;have l2:=ze9 m;obtain ⟨ai,ci,rfl,hE⟩:=zwq (l:=ac2) (by rw [hli,l1,← hli];exact HO.out) (by rw [hli];exact HNm.out);obtain ⟨ap,cp,rfl,hBo⟩:=zwp (l:=zgt m) (by rw [l2,← hpb];exact HP.out);have HE:=hid hE;have HBo:=hid hBo;have HLi:=hid hli;have HLd:=hid hld;clear hE hBo hli hld hpb l1 l2 HO HP HAp;go_wp2_with fail
       go_ret3
       refine ⟨⟨ai,ci,ap,cp,by rw [HLi.out,HLd.out];rfl,?_,HBo.out⟩,HB.out⟩;rw [← HLi.out];exact HE.out.moves ⟨vaa _,fun b _ h=>⟨by have:w.heap.size+1<=b:=h;show w.heap.size<=b;omega,rfl⟩⟩
end Go.Proofs.YtndkhgakfodldaaGreatDoor
