import Derived.Test.YtndkhgakfodldaaGreatDoorUh
import Derived.Test.YtndkhgakfodldaaGreatDoorXc
import Derived.Test.YtndkhgakfodldaaGreatDoorLex
namespace Go.Proofs.YtndkhgakfodldaaGreatDoor
set_option maxRecDepth 100000
set_option maxHeartbeats 3200000
open Go.RowKit Go.Maps Go.WideMaps
set_option linter.unusedSimpArgs false
abbrev pU (p:Pr) (a:OA) (b:Nat) (c:OA) (e:Nat) (f:OA) (g:Nat):Obj:=.cells #[.string p.name,.bool p.pub,.slice a p.params.length b,.slice c p.locals.length e,.slice f p.body.length g] 118
abbrev It:=Fx.It
def itD (i:It):List D:=[.int i.kind,.int i.n,.int i.at_,.str i.name]
def zfp (l:List It):List D:=l.flatMap itD
def layIt (at_:Int) (d:De):It:=⟨d.kind,d.n,if d.kind=2\/d.kind=3 then at_ else 0,d.name⟩
def zd7 (at_:Int) (d:De):Int:=if d.kind=2 then at_+1 else if d.kind=3 then at_+d.n else at_
def zk8:Int->List De->List It × Int
 | a,[]=>([],a)
 | a,d :: r=>(layIt a d :: (zk8 (zd7 a d) r).1,(zk8 (zd7 a d) r).2)
def zzi (i:Nat) (p:Pr):It:=⟨4,p.params.length,i,p.name⟩
def zmi:Nat->List Pr->List It
 | _,[]=>[]
 | i,p :: r=>zzi i p :: zmi (i+1) r
def za0 (m:Mo):List It:=(zk8 0 m.decls).1++zmi 0 m.procs
def zbu (m:Mo):Int:=(zk8 0 m.decls).2
theorem zn2:∀ (l:List De) (a:Int) (d:De),zk8 a (l++[d])=((zk8 a l).1++[layIt (zk8 a l).2 d],zd7 (zk8 a l).2 d)
 | [],a,d=>rfl
 | x :: r,a,d=>by
   show (layIt a x :: (zk8 (zd7 a x) (r++[d])).1,(zk8 (zd7 a x) (r++[d])).2)=_
   rw [zn2 r];rfl
theorem zra:∀ (l:List De) (a:Int),(zk8 a l).1.length=l.length
 | [],_=>rfl
 | x :: r,a=>by show (_ :: _).length=_;rw [vat,zra r,vat]
theorem zk9:∀ (l:List Pr) (i:Nat) (p:Pr),zmi i (l++[p])=zmi i l++[zzi (i+l.length) p]
 | [],i,p=>rfl
 | x :: r,i,p=>by
   show zzi i x :: zmi (i+1) (r++[p])=_
   rw [zk9 r,show i+1+r.length=i+(x :: r).length from by simp;omega];rfl
theorem zn3:∀ (l:List Pr) (i:Nat),(zmi i l).length=l.length
 | [],_=>rfl
 | x :: r,i=>by show (_ :: _).length=_;rw [vat,zn3 r,vat]
theorem zfc (m:Mo):(za0 m).length=m.decls.length+m.procs.length:=by unfold za0;rw [vag,zra,zn3]
structure LayOk (m:Mo):Prop where
 decls:m.decls.length<=10
 procs:m.procs.length<=6
 kinds:∀ d ∈ m.decls,1<=d.kind/\d.kind<=3/\(d.kind=3->1<=d.n/\d.n<=32)
theorem zfq {m:Mo} (h:m.err=0):m.uses.length<=3/\m.decls.length<=10/\m.procs.length<=6/\(∀ p ∈ m.procs,p.params.length<=3/\p.locals.length<=4/\zah 6 p.body=false)/\zah 6 m.main=false:=by
 obtain ⟨_,hm,_⟩:=zqs h;unfold Mo.many at hm;simp only [vay] at hm;obtain ⟨h1,h2,h3,h4,h5⟩:=hm;have h1:=of_decide_eq_false h1;have h2:=of_decide_eq_false h2;have h3:=of_decide_eq_false h3;rw [vbv] at h4 h5;refine ⟨by omega,by omega,by omega,fun p hp=>?_,by simpa using h5 m.main (by unfold Mo.bodies;simp)⟩;have:=h4 p hp;simp only [vdf,vay] at this;have k1:=of_decide_eq_false this.1;have k2:=of_decide_eq_false this.2;exact ⟨by omega,by omega,by simpa using h5 p.body (by unfold Mo.bodies;simp;exact Or.inl ⟨p,hp,rfl⟩)⟩
theorem zvm {m:Mo} (h:m.err=0):LayOk m:=by
 have hp:=zfq h;refine ⟨hp.2.1,hp.2.2.1,fun d hd=>?_⟩;obtain ⟨_,hs,h1,h2⟩:=(z3e h).decls d hd;refine ⟨h1,h2,fun h3=>?_⟩;unfold zdf at hs;rw [h3,if_neg (by decide),if_pos rfl] at hs;simpa using hs
theorem zla:∀ (l:List De) (a:Int),(∀ d ∈ l,1<=d.kind/\d.kind<=3/\(d.kind=3->1<=d.n/\d.n<=32))->a<=(zk8 a l).2/\(zk8 a l).2<=a+32*l.length
 | [],a,_=>⟨vcv _,by simp [zk8]⟩
 | x :: r,a,h=>by
   have hx:=h x (by simp);have ih:=zla r (zd7 a x) (fun d hd=>h d (by simp [hd]));show a<=(zk8 (zd7 a x) r).2/\(zk8 (zd7 a x) r).2<=a+32*((x :: r).length:Nat);rw [vat]
   have hn:a<=zd7 a x/\zd7 a x<=a+32:=by
    unfold zd7;split
    . omega
    . split
      . rename_i h3;have:=hx.2.2 h3;omega
      . omega
   omega
theorem Tryz.infoItem:(Tryz.prog.info? 98).map (fun i=>(i.zero,i.size,i.bytes))=some (some (.agg #[.int .i64 0,.int .i64 0,.int .i64 0,.string ⟨#[]⟩]),4,40):=by kernel_rfl
theorem zfr {A:Nat->Prop} {w:World} {k n a:Int} {s:ByteArray} (h:s.size<=maxLen):zaq w A (itD ⟨k,n,a,s⟩) [.int .i64 k,.int .i64 n,.int .i64 a,.string s]:=.cons zmx (.cons zmx (.cons zmx (.cons (zte h) .nil)))
theorem zeg (l:List It) (x:It):zfp (l++[x])=zfp l++itD x:=by simp [zfp]
theorem zmj {w:World} {A:Nat->Prop} {a:OA} {l:List It} (h:EAt w A a l.length (zfp l)):Fx.zcd w a l/\Fx.AllFit l:=by
 rcases h with h | ⟨b,off,cs,ha,_,hb,hc,hx⟩
 . have:l=[]:=vam h
   subst this;exact ⟨Or.inl rfl,fun i hi=>by cases hi⟩
 . have g:∀ i (hi:i<l.length) j d,j<4->(itD l[i])[j]? = some d->∃ v,w.cell? ⟨b,off+i*4+j,none⟩=some v/\zfo w A d v:=fun i hi j d hj hd=>by
    obtain ⟨v,hv,hd'⟩:=hx.get (i*4+j) d ((zdk itD 4 (fun _=>rfl) l i hi j hj).trans hd);exact ⟨v,by rw [vbs];exact hc _ v hv,hd'⟩
   refine ⟨Or.inr ⟨b,off,ha,hb,fun i hi=>?_,fun i hi=>?_,fun i hi=>?_,fun i hi=>?_⟩,fun x hx'=>?_⟩
   . obtain ⟨v,hv,hd⟩:=g i hi 0 (.int l[i].kind) (by omega) rfl
     rw [zl7 hd] at hv;exact hv
   . obtain ⟨v,hv,hd⟩:=g i hi 1 (.int l[i].n) (by omega) rfl
     rw [zl7 hd] at hv;exact hv
   . obtain ⟨v,hv,hd⟩:=g i hi 2 (.int l[i].at_) (by omega) rfl
     rw [zl7 hd] at hv;exact hv
   . obtain ⟨v,hv,hd⟩:=g i hi 3 (.str l[i].name) (by omega) rfl
     rw [(zvd hd).1] at hv;exact hv
   . obtain ⟨i,hi,rfl⟩:=vbu hx'
     obtain ⟨v,hv,hd⟩:=g i hi 3 (.str l[i].name) (by omega) rfl;exact (zvd hd).2
theorem zhn (m:Mo) (v:Value) (a1:OA) (c1:Nat) (a2:OA) (c2:Nat) (a3:OA) (c3:Nat) (a4:OA) (c4:Nat) (w:World) (hM:MoAt w Tt m v a1 c1 a2 c2 a3 c3 a4 c4) (hok:LayOk m) :
 Calls Tryz.prog 49 #[v] w fun e w'=>(∃ a cap,e = .returned (.tuple #[.slice a (za0 m).length cap,.int .i64 (zbu m)])/\EAt w' (w.heap.size<=·) a (za0 m).length (zfp (za0 m)))/\Below w.heap.size w w':=by
 obtain rfl:=hM.val;have HDe:=hid hM.decls;have HPr:=hid hM.procs;have HOk:=hid hok;have hd10:=hok.decls;have hp6:=hok.procs;clear hM hok;go_enter Tryz.func49,Tryz.ntmps49;go_wp2_with fail
 go_loopw [4,5,7,8,14] (fun v dv _ _ i wr=>∃ (j:Nat) (acc:List It) (dt:Int),j<=m.decls.length/\i = .int .i64 j/\dv = .int .i64 dt/\acc.length=j/\zk8 0 (m.decls.take j)=(acc,dt)/\Row (w.heap.size+1) 98 4 wr v acc.length (zfp acc)/\wr.heap[w.heap.size]? = some (.cells #[.string m.name,.slice a1 m.uses.length c1,.slice a2 m.decls.length c2,.slice a3 m.procs.length c3,.slice a4 m.main.length c4] 27)/\Below w.heap.size w wr) (fun _ _ _ _ i _=>m.decls.length - (intOf i).toNat)
 case atStart=>exact ⟨0,[],0,vad _,rfl,rfl,rfl,rfl,Row.nil _ _ _ _,heap_newP _ _,al1 _ _⟩
 case round=>
  obtain ⟨j,acc,dt,hj,rfl,rfl,hacc,hlay,hrow,hbx,hb⟩:=hrel;have HO:=hid hrow;have HM0:=hid hbx;have HB:=hid hb;have HLa:=hid hlay;have hzr:=hb.size;have hxlt:=zab hbx;clear hrow hb hlay
  by_cases hlt:j<m.decls.length
  . obtain ⟨b,off,rfl,hx⟩:=(HDe.out.later HB.out).de j hlt
    obtain ⟨hbl,x0,x1,x2,x3,_,_,hnm⟩:=hx
    have HSn:Hid (zk8 0 (m.decls.take (j+1))=(acc++[layIt dt m.decls[j]],zd7 dt m.decls[j])):=by
     show zk8 0 (m.decls.take (j+1))=_;rw [vaf hlt,zn2,HLa.out]
    have hkk:=HOk.out.kinds m.decls[j] (vah _)
    have hbd:0<=dt/\dt<=320:=by
     have:=zla (m.decls.take j) 0 (fun d hd=>HOk.out.kinds d (List.mem_of_mem_take hd));rw [HLa.out] at this;simp only [vbm] at this;omega
    generalize m.decls[j]=d at *;have hk1:=hkk.1;have hk3:=hkk.2.1;have h33:=hkk.2.2;clear hkk hbx
    by_cases hk2:d.kind=2
    . have hwr:IntKind.i64.wrap (dt+1)=dt+1:=by simp only [IntKind.wrap,IntKind.bits,IntKind.signed];simp;omega
      have HX:Hid (layIt dt d=⟨d.kind,d.n,dt,d.name⟩):=by show layIt dt d=_;unfold layIt;rw [if_pos (Or.inl hk2)]
      have HN:Hid (zd7 dt d=dt+1):=by show zd7 dt d=_;unfold zd7;rw [if_pos hk2]
      have HO1:Hid (Row (w.heap.size+1) 98 4 ((wr.alloc (.cells #[.int .i64 d.kind,.string d.name,.bool d.pub,.int .i64 d.n] 170)).alloc (.cells #[.int .i64 d.kind,.int .i64 d.n,.int .i64 dt,.string d.name] 98)) u4 acc.length (zfp acc)):=(HO.out.alloc _).alloc _;have HE1:Hid (zaq ((wr.alloc (.cells #[.int .i64 d.kind,.string d.name,.bool d.pub,.int .i64 d.n] 170)).alloc (.cells #[.int .i64 d.kind,.int .i64 d.n,.int .i64 dt,.string d.name] 98)) (fun _=>False) (itD ⟨d.kind,d.n,dt,d.name⟩) [.int .i64 d.kind,.int .i64 d.n,.int .i64 dt,.string d.name]):=zfr hnm;have HBA:Hid (Below w.heap.size w ((wr.alloc (.cells #[.int .i64 d.kind,.string d.name,.bool d.pub,.int .i64 d.n] 170)).alloc (.cells #[.int .i64 d.kind,.int .i64 d.n,.int .i64 dt,.string d.name] 98))):=thenB HB.out (bl2 _ _ _);have HX1:Hid (((wr.alloc (.cells #[.int .i64 d.kind,.string d.name,.bool d.pub,.int .i64 d.n] 170)).alloc (.cells #[.int .i64 d.kind,.int .i64 d.n,.int .i64 dt,.string d.name] 98)).heap[w.heap.size]? = some (.cells #[.string m.name,.slice a1 m.uses.length c1,.slice (some ⟨b,off,none⟩) m.decls.length c2,.slice a3 m.procs.length c3,.slice a4 m.main.length c4] 27)):=zae (zae HM0.out)
      have b2:(d.kind == 2)=true:=by rw [hk2];rfl
      clear hnm hk1 hk3 h33 hk2
      go_wp2_with (at_builtin;refine zbl rfl (.tmp 41) (.tmp 43) 28 rfl (w.heap.size+1) 98 _ 4 40 Tryz.underlying28 Tryz.infoItem rfl (by decide) ((wr.alloc (.cells #[.int .i64 d.kind,.string d.name,.bool d.pub,.int .i64 d.n] 170)).alloc (.cells #[.int .i64 d.kind,.int .i64 d.n,.int .i64 dt,.string d.name] 98)) u4 acc.length (zfp acc) (itD ⟨d.kind,d.n,dt,d.name⟩) rfl HO1.out #[.int .i64 d.kind,.int .i64 d.n,.int .i64 dt,.string d.name] _ (by simp) rfl rfl (fun _=>False) HE1.out (fun b _ h=>h.elim) (by omega) (by decide) (by simp;omega) ?_)
      intro g5 c5 w5 HO5 HB5 hz5;have HO5':=hid HO5;have HB5':=hid HB5;clear HO5 HB5 HO1 HE1;go_wp2_with fail;go_roundw
      case rel=>exact ⟨j+1,acc++[_],_,by omega,by go_num,rfl,by simp [hacc],HSn.out.trans (by rw [HX.out,HN.out]),by rw [zeg,vag,hacc];exact HO5'.out,(HB5'.out.block _ (by omega)).trans HX1.out,HBA.out.trans (HB5'.out.mono (by omega))⟩
      case measure=>simp [intOf];omega
    by_cases hk3':d.kind=3
    . have hdn:=h33 hk3'
      have hwr:IntKind.i64.wrap (dt+d.n)=dt+d.n:=by simp only [IntKind.wrap,IntKind.bits,IntKind.signed];simp;omega
      have HX:Hid (layIt dt d=⟨d.kind,d.n,dt,d.name⟩):=by show layIt dt d=_;unfold layIt;rw [if_pos (Or.inr hk3')]
      have HN:Hid (zd7 dt d=dt+d.n):=by show zd7 dt d=_;unfold zd7;rw [if_neg hk2,if_pos hk3']
      have HO1:Hid (Row (w.heap.size+1) 98 4 ((wr.alloc (.cells #[.int .i64 d.kind,.string d.name,.bool d.pub,.int .i64 d.n] 170)).alloc (.cells #[.int .i64 d.kind,.int .i64 d.n,.int .i64 dt,.string d.name] 98)) u4 acc.length (zfp acc)):=(HO.out.alloc _).alloc _;have HE1:Hid (zaq ((wr.alloc (.cells #[.int .i64 d.kind,.string d.name,.bool d.pub,.int .i64 d.n] 170)).alloc (.cells #[.int .i64 d.kind,.int .i64 d.n,.int .i64 dt,.string d.name] 98)) (fun _=>False) (itD ⟨d.kind,d.n,dt,d.name⟩) [.int .i64 d.kind,.int .i64 d.n,.int .i64 dt,.string d.name]):=zfr hnm;have HBA:Hid (Below w.heap.size w ((wr.alloc (.cells #[.int .i64 d.kind,.string d.name,.bool d.pub,.int .i64 d.n] 170)).alloc (.cells #[.int .i64 d.kind,.int .i64 d.n,.int .i64 dt,.string d.name] 98))):=thenB HB.out (bl2 _ _ _);have HX1:Hid (((wr.alloc (.cells #[.int .i64 d.kind,.string d.name,.bool d.pub,.int .i64 d.n] 170)).alloc (.cells #[.int .i64 d.kind,.int .i64 d.n,.int .i64 dt,.string d.name] 98)).heap[w.heap.size]? = some (.cells #[.string m.name,.slice a1 m.uses.length c1,.slice (some ⟨b,off,none⟩) m.decls.length c2,.slice a3 m.procs.length c3,.slice a4 m.main.length c4] 27)):=zae (zae HM0.out)
      have b2:(d.kind == 2)=false:=by rw [hk3'];rfl
      have b3:(d.kind == 3)=true:=by rw [hk3'];rfl
      clear hnm hk1 hk3 h33 hk2 hk3' hdn
      go_wp2_with (at_builtin;refine zbl rfl (.tmp 41) (.tmp 43) 28 rfl (w.heap.size+1) 98 _ 4 40 Tryz.underlying28 Tryz.infoItem rfl (by decide) ((wr.alloc (.cells #[.int .i64 d.kind,.string d.name,.bool d.pub,.int .i64 d.n] 170)).alloc (.cells #[.int .i64 d.kind,.int .i64 d.n,.int .i64 dt,.string d.name] 98)) u4 acc.length (zfp acc) (itD ⟨d.kind,d.n,dt,d.name⟩) rfl HO1.out #[.int .i64 d.kind,.int .i64 d.n,.int .i64 dt,.string d.name] _ (by simp) rfl rfl (fun _=>False) HE1.out (fun b _ h=>h.elim) (by omega) (by decide) (by simp;omega) ?_)
      intro g5 c5 w5 HO5 HB5 hz5;have HO5':=hid HO5;have HB5':=hid HB5;clear HO5 HB5 HO1 HE1;go_wp2_with fail;go_roundw
      case rel=>exact ⟨j+1,acc++[_],_,by omega,by go_num,rfl,by simp [hacc],HSn.out.trans (by rw [HX.out,HN.out]),by rw [zeg,vag,hacc];exact HO5'.out,(HB5'.out.block _ (by omega)).trans HX1.out,HBA.out.trans (HB5'.out.mono (by omega))⟩
      case measure=>simp [intOf];omega
    have HX:Hid (layIt dt d=⟨d.kind,d.n,0,d.name⟩):=by show layIt dt d=_;unfold layIt;rw [if_neg (by omega)]
    have HN:Hid (zd7 dt d=dt):=by show zd7 dt d=_;unfold zd7;rw [if_neg hk2,if_neg hk3']
    have HO1:Hid (Row (w.heap.size+1) 98 4 ((wr.alloc (.cells #[.int .i64 d.kind,.string d.name,.bool d.pub,.int .i64 d.n] 170)).alloc (.cells #[.int .i64 d.kind,.int .i64 d.n,.int .i64 0,.string d.name] 98)) u4 acc.length (zfp acc)):=(HO.out.alloc _).alloc _;have HE1:Hid (zaq ((wr.alloc (.cells #[.int .i64 d.kind,.string d.name,.bool d.pub,.int .i64 d.n] 170)).alloc (.cells #[.int .i64 d.kind,.int .i64 d.n,.int .i64 0,.string d.name] 98)) (fun _=>False) (itD ⟨d.kind,d.n,0,d.name⟩) [.int .i64 d.kind,.int .i64 d.n,.int .i64 0,.string d.name]):=zfr hnm;have HBA:Hid (Below w.heap.size w ((wr.alloc (.cells #[.int .i64 d.kind,.string d.name,.bool d.pub,.int .i64 d.n] 170)).alloc (.cells #[.int .i64 d.kind,.int .i64 d.n,.int .i64 0,.string d.name] 98))):=thenB HB.out (bl2 _ _ _);have HX1:Hid (((wr.alloc (.cells #[.int .i64 d.kind,.string d.name,.bool d.pub,.int .i64 d.n] 170)).alloc (.cells #[.int .i64 d.kind,.int .i64 d.n,.int .i64 0,.string d.name] 98)).heap[w.heap.size]? = some (.cells #[.string m.name,.slice a1 m.uses.length c1,.slice (some ⟨b,off,none⟩) m.decls.length c2,.slice a3 m.procs.length c3,.slice a4 m.main.length c4] 27)):=zae (zae HM0.out)
    have b2:(d.kind == 2)=false:=beq_eq_false_iff_ne.2 hk2;have b3:(d.kind == 3)=false:=beq_eq_false_iff_ne.2 hk3';clear hnm hk1 hk3 h33 hk2 hk3'
    go_wp2_with (at_builtin;refine zbl rfl (.tmp 41) (.tmp 43) 28 rfl (w.heap.size+1) 98 _ 4 40 Tryz.underlying28 Tryz.infoItem rfl (by decide) ((wr.alloc (.cells #[.int .i64 d.kind,.string d.name,.bool d.pub,.int .i64 d.n] 170)).alloc (.cells #[.int .i64 d.kind,.int .i64 d.n,.int .i64 0,.string d.name] 98)) u4 acc.length (zfp acc) (itD ⟨d.kind,d.n,0,d.name⟩) rfl HO1.out #[.int .i64 d.kind,.int .i64 d.n,.int .i64 0,.string d.name] _ (by simp) rfl rfl (fun _=>False) HE1.out (fun b _ h=>h.elim) (by omega) (by decide) (by simp;omega) ?_)
    intro g5 c5 w5 HO5 HB5 hz5;have HO5':=hid HO5;have HB5':=hid HB5;clear HO5 HB5 HO1 HE1;go_wp2_with fail;go_roundw
    case rel=>exact ⟨j+1,acc++[_],_,by omega,by go_num,rfl,by simp [hacc],HSn.out.trans (by rw [HX.out,HN.out]),by rw [zeg,vag,hacc];exact HO5'.out,(HB5'.out.block _ (by omega)).trans HX1.out,HBA.out.trans (HB5'.out.mono (by omega))⟩
    case measure=>simp [intOf];omega
  . obtain rfl:j=m.decls.length:=by omega
    have HL0:Hid (zk8 0 m.decls=(acc,dt)):=by have:=HLa.out;rw [vaz] at this;exact this
    have HO0:Hid (Row (w.heap.size+1) 98 4 wr u4 m.decls.length (zfp acc)):=hacc ▸ HO.out;obtain ⟨k0,k1,k2,k3,k4,kf⟩:=zad HM0.out;clear HLa hbx HO;go_wp2_with fail;clear k0 k1 k2 k3 k4 kf
    go_loopw [4,9,10,49] (fun v _ _ i wr=>∃ (j:Nat) (ac2:List It),j<=m.procs.length/\i = .int .i64 j/\ac2.length=m.decls.length+j/\ac2=acc++zmi 0 (m.procs.take j)/\Row (w.heap.size+1) 98 4 wr v ac2.length (zfp ac2)/\wr.heap[w.heap.size]? = some (.cells #[.string m.name,.slice a1 m.uses.length c1,.slice a2 m.decls.length c2,.slice a3 m.procs.length c3,.slice a4 m.main.length c4] 27)/\Below w.heap.size w wr) (fun _ _ _ i _=>m.procs.length - (intOf i).toNat)
    case atStart=>exact ⟨0,acc,vad _,rfl,by rw [hacc,vbl],by simp [zmi],hacc ▸ HO0.out,HM0.out,HB.out⟩
    case round=>
     clear HO0 HM0 HB hzr hxlt;obtain ⟨j,ac2,hj2,rfl,hac2,hdef,hrow,hbx,hb⟩:=hrel;have HO:=hid hrow;have HM0:=hid hbx;have HB:=hid hb;have HDf:=hid hdef;have hzr:=hb.size;have hxlt:=zab hbx;clear hrow hb hdef
     by_cases hlt:j<m.procs.length
     . obtain ⟨b,off,q1,d1,q2,d2,q3,d3,rfl,hx⟩:=(HPr.out.later HB.out).pr j hlt
       obtain ⟨hbl,x0,x1,x2,x3,x4,_,_,_,hnm⟩:=hx
       have HSn:Hid (ac2++[zzi j m.procs[j]]=acc++zmi 0 (m.procs.take (j+1))):=by
        show ac2++[zzi j m.procs[j]]=_;rw [vaf hlt,zk9,HDf.out,vcz,vbm,vdw (by omega),vbc]
       generalize m.procs[j]=p at *;have HO1:Hid (Row (w.heap.size+1) 98 4 (wr.alloc (pU p q1 d1 q2 d2 q3 d3)) u4 ac2.length (zfp ac2)):=HO.out.alloc _;have HE1:Hid (zaq (wr.alloc (pU p q1 d1 q2 d2 q3 d3)) (fun _=>False) (itD (zzi j p)) [.int .i64 4,.int .i64 p.params.length,.int .i64 j,.string p.name]):=zfr hnm;have HBA:Hid (Below w.heap.size w (wr.alloc (pU p q1 d1 q2 d2 q3 d3))):=thenB HB.out (al1 _ _);have HX1:Hid ((wr.alloc (pU p q1 d1 q2 d2 q3 d3)).heap[w.heap.size]? = some (.cells #[.string m.name,.slice a1 m.uses.length c1,.slice a2 m.decls.length c2,.slice (some ⟨b,off,none⟩) m.procs.length c3,.slice a4 m.main.length c4] 27)):=zae HM0.out;clear hnm hbx
       go_wp2_with (at_builtin;refine zbl rfl (.tmp 54) (.tmp 62) 28 rfl (w.heap.size+1) 98 _ 4 40 Tryz.underlying28 Tryz.infoItem rfl (by decide) (wr.alloc (pU p q1 d1 q2 d2 q3 d3)) u4 ac2.length (zfp ac2) (itD (zzi j p)) rfl HO1.out #[.int .i64 4,.int .i64 p.params.length,.int .i64 j,.string p.name] _ (by simp) rfl rfl (fun _=>False) HE1.out (fun b _ h=>h.elim) (by omega) (by decide) (by simp;omega) ?_)
       intro g5 c5 w5 HO5 HB5 hz5;have HO5':=hid HO5;have HB5':=hid HB5;clear HO5 HB5 HO1 HE1;go_wp2_with fail;go_roundw
       case rel=>exact ⟨j+1,ac2++[zzi j p],by omega,by go_num,by simp [hac2];omega,HSn.out,by rw [zeg,vag,hac2];exact HO5'.out,(HB5'.out.block _ (by omega)).trans HX1.out,HBA.out.trans (HB5'.out.mono (by omega))⟩
       case measure=>simp [intOf];omega
     . obtain rfl:j=m.procs.length:=by omega
       have HI:Hid (za0 m=ac2):=by
        show za0 m=ac2;rw [HDf.out,vaz];unfold za0;rw [HL0.out]
       have HDt:Hid (zbu m=dt):=by show zbu m=dt;unfold zbu;rw [HL0.out]
       obtain ⟨a5,c5,rfl,hea⟩:=HO.out.slice;have HEA:=hid hea;clear hea hbx;go_wp2_with fail;go_ret2;refine ⟨⟨a5,c5,?_,?_⟩,HB.out⟩
       . rw [HI.out,HDt.out,hac2];rfl
       . rw [HI.out]
         exact HEA.out.moves ⟨vaa _,fun b _ h=>⟨by have:w.heap.size+1<=b:=h;show w.heap.size<=b;omega,rfl⟩⟩
set_option maxHeartbeats 1600000
def chkM (m:Mo):Int:=if m.err≠0 then m.err else if Fx.zgj (Fx.lists m.uses)||Fx.zgj (Fx.zdt (za0 m)) then 6 else 0
theorem zfd {w:World} {A:Nat->Prop} {a:OA} {l:List ByteArray} (h:DAt w A a l.length (zal l)):Fx.zej w a l/\∀ s ∈ l,s.size<=maxLen:=by
 refine ⟨?_,fun s hs=>?_⟩
 . rcases h.2.2 with h0 | ⟨b,off,cs,ha,_,hb,hc,hx⟩
   . exact Or.inl (vam h0)
   . refine Or.inr ⟨b,off,ha,hb,fun i hi=>?_⟩
     obtain ⟨v,hv,hd⟩:=hx.get i (.str l[i]) (by simp [zal,hi]);rw [(zcx hd).1] at hv;exact hc i _ hv
 . obtain ⟨i,hi,rfl⟩:=vbu hs
   obtain ⟨b,off,_,_,_,h4⟩:=h.str i hi;exact h4
theorem zn4 {m:Mo} {v:Value} {a1 a2 a3 a4:OA} {c1 c2 c3 c4:Nat} {w:World} (hM:MoAt w Tt m v a1 c1 a2 c2 a3 c3 a4 c4) (h3:m.uses.length<=3) :
 Calls Tryz.prog 59 #[.slice a1 m.uses.length c1] w fun e w'=>e = .returned (.bool (Fx.zgj (Fx.lists m.uses)))/\Below w.heap.size w w':=
 Fx.zeu a1 c1 m.uses w (zfd hM.uses).1 (by omega) (zfd hM.uses).2
theorem zpw {w:World} {B:Nat} {v:Value} {l:List It} (h:w.ownsRow B 9 1 v l.length (Fx.zs9 l)) (hl:l.length<=1000000) (hf:Fx.AllFit l) :
 Calls Tryz.prog 59 #[v] w fun e w'=>e = .returned (.bool (Fx.zgj (Fx.zdt l)))/\Below w.heap.size w w':=by
 obtain ⟨a,c,rfl,hS⟩:=Fx.zrl h;rw [← Fx.zjm]
 exact Fx.zeu a c _ w hS (by rw [vbd];omega) (fun s h=>by
  obtain ⟨i,hi,rfl⟩:=vcb.1 h
  exact hf i hi)
theorem zfe (m:Mo) (v:Value) (a1:OA) (c1:Nat) (a2:OA) (c2:Nat) (a3:OA) (c3:Nat) (a4:OA) (c4:Nat) (w:World) (hM:MoAt w Tt m v a1 c1 a2 c2 a3 c3 a4 c4) :
 Calls Tryz.prog 48 #[v] w fun e w'=>e = .returned (.int .i64 (chkM m))/\Below w.heap.size w w':=by
 obtain rfl:=hM.val;have HM:=hid hM;have HC:=hid (zkf m _ a1 c1 a2 c2 a3 c3 a4 c4 (w.alloc (.cells #[.string m.name,.slice a1 m.uses.length c1,.slice a2 m.decls.length c2,.slice a3 m.procs.length c3,.slice a4 m.main.length c4] 27)) (hM.later (al1 _ _)));clear hM
 obtain ⟨r,hr⟩:∃ r,r=chkM m:=⟨_,rfl⟩
 rw [← hr];have HR:=hid hr;clear hr;go_enter Tryz.func48,Tryz.ntmps48;go_wp2_with fail;refine HC.out.mono ?_;rintro e w1 ⟨rfl,hb1⟩;have HB1:=hid (thenB (al1 w _) hb1);have hz1:=hb1.size;simp at hz1;have q1:=(hb1.block _ (by simp)).trans (heap_newP w _);have HQ1:=hid q1;obtain ⟨x0,x1,x2,x3,x4,xf⟩:=zad q1;have hl1:=zab q1;clear hb1 q1 HC
 by_cases he:m.err=0
 . have hlay:=zvm he
   have hu3:=(zfq he).1;have HC2:=hid (zhn m _ a1 c1 a2 c2 a3 c3 a4 c4 w1 (HM.out.later HB1.out) hlay);have HR2:Hid (r=if Fx.zgj (Fx.lists m.uses)||Fx.zgj (Fx.zdt (za0 m)) then 6 else 0):=HR.out.trans (if_neg (by simp [he]))
   have HL16:Hid ((za0 m).length<=16):=by have h1:=hlay.decls;have h2:=hlay.procs;show (za0 m).length<=16;rw [zfc];omega
   clear hlay HR;go_wp2_with fail;refine HC2.out.mono ?_;rintro e w2 ⟨⟨ai,ci,rfl,hit⟩,hb2⟩;have HB2:=hid (thenB HB1.out hb2);have hz2:=hb2.size;have HQ2:=hid ((hb2.block _ hl1).trans HQ1.out);obtain ⟨HI,HF⟩:=zmj hit;have HIt:=hid HI;have HFi:=hid HF;clear hb2 HC2 hit HI HF x0 x1 x2 x3 x4 xf;obtain ⟨x0,x1,x2,x3,x4,xf⟩:=zad HQ2.out;have hl2:=zab HQ2.out;have HC3:=hid (zn4 (HM.out.later HB2.out) hu3)
   cases hd1:Fx.zgj (Fx.lists m.uses) with
   | true=>
     rw [hd1] at HC3 HR2;have HR3:Hid (r=6):=HR2.out;clear hd1 HR2;go_wp2_with fail;refine HC3.out.mono ?_;rintro e w3 ⟨rfl,hb3⟩;have HB3:=hid (thenB HB2.out hb3);clear hb3;go_wp2_with fail;go_ret;exact ⟨zaw HR3.out.symm,HB3.out⟩
   | false=>
     rw [hd1] at HC3 HR2;clear hd1;go_wp2_with fail;refine HC3.out.mono ?_;rintro e w3 ⟨rfl,hb3⟩;have HB3:=hid (thenB HB2.out hb3);have HC4:=hid (Fx.zha ai ci (za0 m) w3 (HIt.out.later hb3) (by have:=HL16.out;omega));clear hb3;go_wp2_with fail;refine HC4.out.mono ?_;rintro e w4 ⟨v4,rfl,ho4,hb4⟩;have HB4:=hid (thenB HB3.out hb4);have HC5:=hid (zpw ho4 (by have:=HL16.out;omega) HFi.out);clear hb4 ho4;go_wp2_with fail;refine HC5.out.mono ?_;rintro e w5 ⟨rfl,hb5⟩;have HB5:=hid (thenB HB4.out hb5);clear hb5
     cases hd2:Fx.zgj (Fx.zdt (za0 m)) with
     | true=>
       have HR3:Hid (r=6):=HR2.out.trans (by rw [hd2];rfl);clear hd2 HR2;go_wp2_with fail;go_ret;exact ⟨zaw HR3.out.symm,HB5.out⟩
     | false=>
       have HR3:Hid (r=0):=HR2.out.trans (by rw [hd2];rfl);clear hd2 HR2;go_wp2_with fail;go_ret;exact ⟨zaw HR3.out.symm,HB5.out⟩
 . have HR2:Hid (r=m.err):=HR.out.trans (if_pos he)
   go_wp2_with fail;go_ret;exact ⟨zaw HR2.out.symm,HB1.out⟩
set_option maxHeartbeats 3200000
def pick (bs:List Bool) (l:List It):List It:=(bs.zip l).filterMap fun p=>if p.1 then some p.2 else none
def zih (m:Mo):List Bool:=m.decls.map De.pub++m.procs.map Pr.pub
def shownIts (m:Mo):List It:=pick (zih m) (za0 m)
theorem zg4 (m:Mo):(zih m).length=m.decls.length+m.procs.length:=by simp [zih]
theorem zvn (m:Mo) (j:Nat) (h:j<m.decls.length):(zih m)[j]'(by rw [zg4];omega)=m.decls[j].pub:=by
 unfold zih;rw [vau (by simpa using h)];simp
theorem zvo (m:Mo) (j:Nat) (h:j<m.procs.length):(zih m)[m.decls.length+j]'(by rw [zg4];omega)=m.procs[j].pub:=by
 unfold zih;rw [List.getElem_append_right (by simp)];simp
theorem zn5 (bs:List Bool) (l:List It) (k:Nat) (hb:k<bs.length) (hl:k<l.length):pick (bs.take (k+1)) (l.take (k+1))=pick (bs.take k) (l.take k)++if bs[k] then [l[k]] else []:=by
 unfold pick;rw [vaf hb,vaf hl,List.zip_append (by simp;omega),List.filterMap_append]
 congr 1
 cases bs[k]<;>rfl
theorem zvp (m:Mo) (v:Value) (a1:OA) (c1:Nat) (a2:OA) (c2:Nat) (a3:OA) (c3:Nat) (a4:OA) (c4:Nat) (items:List It) (ai:OA) (ci:Nat) (w:World) (hM:MoAt w Tt m v a1 c1 a2 c2 a3 c3 a4 c4) (hok:LayOk m) (hlen:items.length=m.decls.length+m.procs.length) (hI:Fx.zcd w ai items) (hF:Fx.AllFit items) :
 Calls Tryz.prog 50 #[v,.slice ai items.length ci] w fun e w'=>(∃ a cap,e = .returned (.slice a (pick (zih m) items).length cap)/\EAt w' (w.heap.size<=·) a (pick (zih m) items).length (zfp (pick (zih m) items)))/\Below w.heap.size w w':=by
 obtain rfl:=hM.val;have HDe:=hid hM.decls;have HPr:=hid hM.procs;have HIt:=hid hI;have HFi:=hid hF;have HLn:=hid hlen;have hd10:=hok.decls;have hp6:=hok.procs;clear hM hok hI hF hlen;go_enter Tryz.func50,Tryz.ntmps50;go_wp2_with fail
 go_loopw [5,6,7,13] (fun v _ _ i wr=>∃ (j:Nat) (acc:List It),j<=m.decls.length/\i = .int .i64 j/\acc.length<=j/\acc=pick ((zih m).take j) (items.take j)/\Row (w.heap.size+1) 98 4 wr v acc.length (zfp acc)/\wr.heap[w.heap.size]? = some (.cells #[.string m.name,.slice a1 m.uses.length c1,.slice a2 m.decls.length c2,.slice a3 m.procs.length c3,.slice a4 m.main.length c4] 27)/\Below w.heap.size w wr) (fun _ _ _ i _=>m.decls.length - (intOf i).toNat)
 case atStart=>exact ⟨0,[],vad _,rfl,vaa _,by simp [pick],Row.nil _ _ _ _,heap_newP _ _,al1 _ _⟩
 case round=>
  obtain ⟨j,acc,hj,rfl,hacc,hdef,hrow,hbx,hb⟩:=hrel;have HO:=hid hrow;have HM0:=hid hbx;have HB:=hid hb;have HDf:=hid hdef;have hzr:=hb.size;have hxlt:=zab hbx;clear hrow hb hdef
  by_cases hlt:j<m.decls.length
  . have hji:j<items.length:=by have:=HLn.out;omega
    have HSn:Hid (pick ((zih m).take (j+1)) (items.take (j+1))=acc++if m.decls[j].pub then [items[j]] else []):=by
     show pick ((zih m).take (j+1)) (items.take (j+1))=_;rw [zn5 _ _ j (by rw [zg4];omega) hji,zvn m j hlt,← HDf.out]
    have hnx:=HFi.out items[j] (vah _);have HIj:=hid ((HIt.out.later HB.out).place hji);obtain ⟨b,off,rfl,hx⟩:=(HDe.out.later HB.out).de j hlt;obtain ⟨hbl,x0,x1,xp,x3,_,_,hnm⟩:=hx;obtain ⟨b2,off2,rfl,hbl2,i0,i1,i2,i3⟩:=HIj.out
    have hjn:(j:Int)<items.length:=by omega
    clear HIj;generalize m.decls[j]=d at *;generalize items[j]=x at *
    cases hpub:d.pub with
    | true=>
      have HO1:Hid (Row (w.heap.size+1) 98 4 (wr.alloc (.cells #[.int .i64 d.kind,.string d.name,.bool d.pub,.int .i64 d.n] 170)) u5 acc.length (zfp acc)):=HO.out.alloc _;have HE1:Hid (zaq (wr.alloc (.cells #[.int .i64 d.kind,.string d.name,.bool d.pub,.int .i64 d.n] 170)) (fun _=>False) (itD x) [.int .i64 x.kind,.int .i64 x.n,.int .i64 x.at_,.string x.name]):=zfr hnx;have HX1:Hid ((wr.alloc (.cells #[.int .i64 d.kind,.string d.name,.bool d.pub,.int .i64 d.n] 170)).heap[w.heap.size]? = some (.cells #[.string m.name,.slice a1 m.uses.length c1,.slice (some ⟨b,off,none⟩) m.decls.length c2,.slice a3 m.procs.length c3,.slice a4 m.main.length c4] 27)):=zae HM0.out;have HBA:Hid (Below w.heap.size w (wr.alloc (.cells #[.int .i64 d.kind,.string d.name,.bool d.pub,.int .i64 d.n] 170))):=thenB HB.out (al1 _ _);have HSt:Hid (pick ((zih m).take (j+1)) (items.take (j+1))=acc++[x]):=HSn.out.trans (by rw [hpub];rfl)
      rw [hpub] at HO1 HE1 HX1 HBA;clear hnx hbx HSn;rw [hpub] at xp
      go_wp2_with (at_builtin;refine zbl rfl (.tmp 20) (.tmp 25) 28 rfl (w.heap.size+1) 98 _ 4 40 Tryz.underlying28 Tryz.infoItem rfl (by decide) (wr.alloc (.cells #[.int .i64 d.kind,.string d.name,.bool true,.int .i64 d.n] 170)) u5 acc.length (zfp acc) (itD x) rfl HO1.out #[.int .i64 x.kind,.int .i64 x.n,.int .i64 x.at_,.string x.name] _ (by simp) rfl rfl (fun _=>False) HE1.out (fun b _ h=>h.elim) (by omega) (by decide) (by simp;omega) ?_)
      intro g5 c5 w5 HO5 HB5 hz5;have HO5':=hid HO5;have HB5':=hid HB5;clear HO5 HB5 HO1 HE1;go_wp2_with fail;go_roundw
      case rel=>exact ⟨j+1,acc++[x],by omega,by go_num,by rw [vag];simp;omega,HSt.out.symm,by rw [zeg,vag];exact HO5'.out,(HB5'.out.block _ (by omega)).trans HX1.out,HBA.out.trans (HB5'.out.mono (by omega))⟩
      case measure=>simp [intOf];omega
    | false=>
      have HO1:Hid (Row (w.heap.size+1) 98 4 (wr.alloc (.cells #[.int .i64 d.kind,.string d.name,.bool d.pub,.int .i64 d.n] 170)) u5 acc.length (zfp acc)):=HO.out.alloc _;have HX1:Hid ((wr.alloc (.cells #[.int .i64 d.kind,.string d.name,.bool d.pub,.int .i64 d.n] 170)).heap[w.heap.size]? = some (.cells #[.string m.name,.slice a1 m.uses.length c1,.slice (some ⟨b,off,none⟩) m.decls.length c2,.slice a3 m.procs.length c3,.slice a4 m.main.length c4] 27)):=zae HM0.out;have HBA:Hid (Below w.heap.size w (wr.alloc (.cells #[.int .i64 d.kind,.string d.name,.bool d.pub,.int .i64 d.n] 170))):=thenB HB.out (al1 _ _);have HSt:Hid (pick ((zih m).take (j+1)) (items.take (j+1))=acc):=HSn.out.trans (by rw [hpub];simp);rw [hpub] at HO1 HX1 HBA;clear hnx hbx HSn;rw [hpub] at xp;go_wp2_with fail;go_roundw
      case rel=>exact ⟨j+1,acc,by omega,by go_num,by omega,HSt.out.symm,HO1.out,HX1.out,HBA.out⟩
      case measure=>simp [intOf];omega
  . obtain rfl:j=m.decls.length:=by omega
    have HD0:Hid (acc=pick ((zih m).take m.decls.length) (items.take m.decls.length)):=HDf.out;obtain ⟨k0,k1,k2,k3,k4,kf⟩:=zad HM0.out;clear HDf hbx;go_wp2_with fail;clear k0 k1 k2 k3 k4 kf
    go_loopw [5,8,9,31] (fun v _ _ i wr=>∃ (j:Nat) (acc:List It),j<=m.procs.length/\i = .int .i64 j/\acc.length<=m.decls.length+j/\acc=pick ((zih m).take (m.decls.length+j)) (items.take (m.decls.length+j))/\Row (w.heap.size+1) 98 4 wr v acc.length (zfp acc)/\wr.heap[w.heap.size]? = some (.cells #[.string m.name,.slice a1 m.uses.length c1,.slice a2 m.decls.length c2,.slice a3 m.procs.length c3,.slice a4 m.main.length c4] 27)/\Below w.heap.size w wr) (fun _ _ _ i _=>m.procs.length - (intOf i).toNat)
    case atStart=>exact ⟨0,acc,vad _,rfl,hacc,HD0.out,HO.out,HM0.out,HB.out⟩
    case round=>
     clear HO HM0 HB hzr hxlt HD0 hacc;obtain ⟨j,acc,hj2,rfl,hacc,hdef,hrow,hbx,hb⟩:=hrel;have HO:=hid hrow;have HM0:=hid hbx;have HB:=hid hb;have HDf:=hid hdef;have hzr:=hb.size;have hxlt:=zab hbx;clear hrow hb hdef
     by_cases hlt:j<m.procs.length
     . have hji:m.decls.length+j<items.length:=by have:=HLn.out;omega
       have HSn:Hid (pick ((zih m).take (m.decls.length+(j+1))) (items.take (m.decls.length+(j+1)))=acc++if m.procs[j].pub then [items[m.decls.length+j]] else []):=by
        show pick ((zih m).take (m.decls.length+j+1)) (items.take (m.decls.length+j+1))=_;rw [zn5 _ _ (m.decls.length+j) (by rw [zg4];omega) hji,zvo m j hlt,← HDf.out]
       have hnx:=HFi.out items[m.decls.length+j] (vah _);have HIj:=hid ((HIt.out.later HB.out).place hji);obtain ⟨b,off,q1,d1,q2,d2,q3,d3,rfl,hx⟩:=(HPr.out.later HB.out).pr j hlt;obtain ⟨hbl,x0,xp,x2,x3,x4,_,_,_,hnm⟩:=hx;obtain ⟨b2,off2,rfl,hbl2,i0,i1,i2,i3⟩:=HIj.out
       have hadd:((m.decls.length:Int)+(j:Int))=((m.decls.length+j:Nat):Int):=by omega
       have hwr:IntKind.i64.wrap ((m.decls.length:Int)+(j:Int))=((m.decls.length+j:Nat):Int):=by simp only [IntKind.wrap,IntKind.bits,IntKind.signed];simp;omega
       have hjn:((m.decls.length+j:Nat):Int)<items.length:=by omega
       have hj0:(0:Int)<=((m.decls.length+j:Nat):Int):=by omega
       obtain ⟨k0,k1,k2,k3,k4,kf⟩:=zad HM0.out;clear HIj hadd;generalize m.procs[j]=p at *;generalize items[m.decls.length+j]=x at *
       cases hpub:p.pub with
       | true=>
         have HO1:Hid (Row (w.heap.size+1) 98 4 (wr.alloc (.cells #[.string p.name,.bool p.pub,.slice q1 p.params.length d1,.slice q2 p.locals.length d2,.slice q3 p.body.length d3] 118)) u5 acc.length (zfp acc)):=HO.out.alloc _;have HE1:Hid (zaq (wr.alloc (.cells #[.string p.name,.bool p.pub,.slice q1 p.params.length d1,.slice q2 p.locals.length d2,.slice q3 p.body.length d3] 118)) (fun _=>False) (itD x) [.int .i64 x.kind,.int .i64 x.n,.int .i64 x.at_,.string x.name]):=zfr hnx;have HX1:Hid ((wr.alloc (.cells #[.string p.name,.bool p.pub,.slice q1 p.params.length d1,.slice q2 p.locals.length d2,.slice q3 p.body.length d3] 118)).heap[w.heap.size]? = some (.cells #[.string m.name,.slice a1 m.uses.length c1,.slice a2 m.decls.length c2,.slice (some ⟨b,off,none⟩) m.procs.length c3,.slice a4 m.main.length c4] 27)):=zae HM0.out;have HBA:Hid (Below w.heap.size w (wr.alloc (.cells #[.string p.name,.bool p.pub,.slice q1 p.params.length d1,.slice q2 p.locals.length d2,.slice q3 p.body.length d3] 118))):=thenB HB.out (al1 _ _)
         have HSt:Hid (pick ((zih m).take (m.decls.length+(j+1))) (items.take (m.decls.length+(j+1)))=acc++[x]):=HSn.out.trans (by rw [hpub];rfl);rw [hpub] at HO1 HE1 HX1 HBA;clear hnx hbx HSn;rw [hpub] at xp
         go_wp2_with (at_builtin;refine zbl rfl (.tmp 38) (.tmp 47) 28 rfl (w.heap.size+1) 98 _ 4 40 Tryz.underlying28 Tryz.infoItem rfl (by decide) (wr.alloc (.cells #[.string p.name,.bool true,.slice q1 p.params.length d1,.slice q2 p.locals.length d2,.slice q3 p.body.length d3] 118)) u5 acc.length (zfp acc) (itD x) rfl HO1.out #[.int .i64 x.kind,.int .i64 x.n,.int .i64 x.at_,.string x.name] _ (by simp) rfl rfl (fun _=>False) HE1.out (fun b _ h=>h.elim) (by omega) (by decide) (by simp;omega) ?_)
         intro g5 c5 w5 HO5 HB5 hz5;have HO5':=hid HO5;have HB5':=hid HB5;clear HO5 HB5 HO1 HE1;go_wp2_with fail;go_roundw
         case rel=>exact ⟨j+1,acc++[x],by omega,by go_num,by rw [vag];simp;omega,HSt.out.symm,by rw [zeg,vag];exact HO5'.out,(HB5'.out.block _ (by omega)).trans HX1.out,HBA.out.trans (HB5'.out.mono (by omega))⟩
         case measure=>simp [intOf];omega
       | false=>
         have HO1:Hid (Row (w.heap.size+1) 98 4 (wr.alloc (.cells #[.string p.name,.bool p.pub,.slice q1 p.params.length d1,.slice q2 p.locals.length d2,.slice q3 p.body.length d3] 118)) u5 acc.length (zfp acc)):=HO.out.alloc _;have HX1:Hid ((wr.alloc (.cells #[.string p.name,.bool p.pub,.slice q1 p.params.length d1,.slice q2 p.locals.length d2,.slice q3 p.body.length d3] 118)).heap[w.heap.size]? = some (.cells #[.string m.name,.slice a1 m.uses.length c1,.slice a2 m.decls.length c2,.slice (some ⟨b,off,none⟩) m.procs.length c3,.slice a4 m.main.length c4] 27)):=zae HM0.out;have HBA:Hid (Below w.heap.size w (wr.alloc (.cells #[.string p.name,.bool p.pub,.slice q1 p.params.length d1,.slice q2 p.locals.length d2,.slice q3 p.body.length d3] 118))):=thenB HB.out (al1 _ _);have HSt:Hid (pick ((zih m).take (m.decls.length+(j+1))) (items.take (m.decls.length+(j+1)))=acc):=HSn.out.trans (by rw [hpub];simp)
         rw [hpub] at HO1 HX1 HBA;clear hnx hbx HSn;rw [hpub] at xp;go_wp2_with fail;go_roundw
         case rel=>exact ⟨j+1,acc,by omega,by go_num,by omega,HSt.out.symm,HO1.out,HX1.out,HBA.out⟩
         case measure=>simp [intOf];omega
     . obtain rfl:j=m.procs.length:=by omega
       have HR:Hid (pick (zih m) items=acc):=by
        show pick (zih m) items=acc;rw [HDf.out,vao (by rw [zg4];omega),vao (by rw [HLn.out];omega)]
       obtain ⟨a5,c5,rfl,hea⟩:=HO.out.slice;have HEA:=hid hea;clear hea hbx;go_wp2_with fail;go_ret;refine ⟨⟨a5,c5,?_,?_⟩,HB.out⟩
       . rw [HR.out];rfl
       . rw [HR.out]
         exact HEA.out.moves ⟨vaa _,fun b _ h=>⟨by have:w.heap.size+1<=b:=h;show w.heap.size<=b;omega,rfl⟩⟩
end Go.Proofs.YtndkhgakfodldaaGreatDoor

namespace Go.Proofs.YtndkhgakfodldaaGreatDoor
set_option maxRecDepth 100000
set_option maxHeartbeats 3200000
open Go.RowKit Go.Maps Go.WideMaps Go.Shelf
set_option linter.unusedSimpArgs false
def zpx (lo:Nat) (m:Mo) (e:Ending) (w:World):Prop:=
 (chkM m≠0/\e = .returned (.tuple #[.agg #[.string ⟨#[]⟩,.slice none 0 0],.int .i64 (chkM m)]))\/
 (chkM m=0/\∃ a cap,e = .returned (.tuple #[.agg #[.string m.name,.slice a (shownIts m).length cap],.int .i64 0])/\EAt w (lo<=·) a (shownIts m).length (zfp (shownIts m)))
theorem zpy {m:Mo} (h:chkM m=0):m.err=0:=by
 unfold chkM at h
 by_cases he:m.err=0
 . exact he
 . rw [if_pos he] at h;exact h
theorem z4n {w:World} {b:Nat} {x0 x1 x2 x3 x4:Value} {t:TypeId} (h:w.heap[b]? = some (.cells #[x0,x1,x2,x3,x4] t (0,0))):w.cell? ⟨b,0,none⟩=some x0/\w.cell? ⟨b,1,none⟩=some x1/\w.cell? ⟨b,2,none⟩=some x2/\w.cell? ⟨b,3,none⟩=some x3/\w.cell? ⟨b,4,none⟩=some x4:=by
 obtain ⟨h0,h1,h2,h3,h4,_⟩:=zad h;exact ⟨h0,h1,h2,h3,h4⟩
theorem zyg {W:World} {b c:Nat} (hn:b≠c) {x0 x1 x2 x3 x4:Value} (h:W.cell? ⟨b,0,none⟩=some x0/\W.cell? ⟨b,1,none⟩=some x1/\W.cell? ⟨b,2,none⟩=some x2/\W.cell? ⟨b,3,none⟩=some x3/\W.cell? ⟨b,4,none⟩=some x4) (u v:Value) :
 ((W.setCell ⟨c,0,none⟩ u).setCell ⟨c,1,none⟩ v).cell? ⟨b,0,none⟩=some x0/\((W.setCell ⟨c,0,none⟩ u).setCell ⟨c,1,none⟩ v).cell? ⟨b,1,none⟩=some x1/\((W.setCell ⟨c,0,none⟩ u).setCell ⟨c,1,none⟩ v).cell? ⟨b,2,none⟩=some x2/\((W.setCell ⟨c,0,none⟩ u).setCell ⟨c,1,none⟩ v).cell? ⟨b,3,none⟩=some x3/\((W.setCell ⟨c,0,none⟩ u).setCell ⟨c,1,none⟩ v).cell? ⟨b,4,none⟩=some x4:=by
 have e:((W.setCell ⟨c,0,none⟩ u).setCell ⟨c,1,none⟩ v).heap[b]? = W.heap[b]?:=(zac hn _).trans (zac hn _)
 have g:∀ o,((W.setCell ⟨c,0,none⟩ u).setCell ⟨c,1,none⟩ v).cell? ⟨b,o,none⟩=W.cell? ⟨b,o,none⟩:=fun o=>veh (w:=W) (a:=⟨b,o,none⟩) e
 exact ⟨(g 0).trans h.1,(g 1).trans h.2.1,(g 2).trans h.2.2.1,(g 3).trans h.2.2.2.1,(g 4).trans h.2.2.2.2⟩
theorem zyh (m:Mo) (v:Value) (a1:OA) (c1:Nat) (a2:OA) (c2:Nat) (a3:OA) (c3:Nat) (a4:OA) (c4:Nat) (w:World) (hM:MoAt w Tt m v a1 c1 a2 c2 a3 c3 a4 c4) :
 Calls Tryz.prog 15 #[v] w fun e w'=>zpx w.heap.size m e w'/\Below w.heap.size w w':=by
 obtain rfl:=hM.val;have HM:=hid hM;have HC:=hid (zfe m _ a1 c1 a2 c2 a3 c3 a4 c4 ((w.alloc (.cells #[.string m.name,.slice a1 m.uses.length c1,.slice a2 m.decls.length c2,.slice a3 m.procs.length c3,.slice a4 m.main.length c4] 27)).alloc (.cells #[.string ⟨#[]⟩,.slice none 0 0] 30)) (hM.later (bl2 _ _ _)));clear hM;go_enter Tryz.func15,Tryz.ntmps15;go_wp2_with fail;refine HC.out.mono ?_;rintro e w1 ⟨rfl,hb1⟩;have HB1:=hid (thenB (bl2 w _ _) hb1);have hz1:=hb1.size;simp at hz1;have q1:=(hb1.block w.heap.size (by simp;omega)).trans (zae (heap_newP w _));have q2:w1.heap[w.heap.size+1]? = some (.cells #[.string ⟨#[]⟩,.slice none 0 0] 30):=(hb1.block (w.heap.size+1) (by simp)).trans (by simpa using heap_newP (w.alloc _) _);have HQ1:=hid q1;have HQ2:=hid q2;obtain ⟨x0,x1,x2,x3,x4,xf⟩:=zad q1;obtain ⟨y0,y1,yf⟩:=zb7 q2
 have hl1:=zab q1;have hl2:=zab q2;clear hb1 q1 q2 HC
 by_cases hc:chkM m=0
 . have hlay:=zvm (zpy hc)
   have HLy:=hid hlay;have HC2:=hid (zhn m _ a1 c1 a2 c2 a3 c3 a4 c4 w1 (HM.out.later HB1.out) hlay);have HZ:=hid hc;clear hlay;rw [hc];clear hc;go_wp2_with fail;refine HC2.out.mono ?_;rintro e w2 ⟨⟨ai,ci,rfl,hit⟩,hb2⟩;have HB2:=hid (thenB HB1.out hb2);have hz2:=hb2.size;have HP1:=hid ((hb2.block _ hl1).trans HQ1.out);have HP2:=hid ((hb2.block _ hl2).trans HQ2.out);obtain ⟨HI,HF⟩:=zmj hit;have HC3:=hid (fun W (hW:Below w2.heap.size w2 W)=>zvp m _ a1 c1 a2 c2 a3 c3 a4 c4 (za0 m) ai ci W (HM.out.later (thenB HB2.out hW)) HLy.out (zfc m) (HI.later hW) HF);clear hb2 HC2 hit HI HF x0 x1 x2 x3 x4 xf y0 y1 yf;obtain ⟨x0,x1,x2,x3,x4,xf⟩:=zad HP1.out;obtain ⟨y0,y1,yf⟩:=zb7 HP2.out;have hl1':=zab HP1.out;have hl2':=zab HP2.out;have HS:=hid (fun W (hW:Below w2.heap.size w2 W)=>z4n ((hW.block _ hl1').trans HP1.out))
   have FF:=hid (HS.out _ (Below.refl _ w2).drew);have HYf:=hid (fun W (hW:Below w2.heap.size w2 W)=>zb7 ((hW.block _ hl2').trans HP2.out));go_wp2_with fail;clear x0 x1 x2 x3 x4 xf y0 y1 yf
   go_region_held (fun W=>W.cell? ⟨w.heap.size,0,none⟩=some (.string m.name)/\W.cell? ⟨w.heap.size,1,none⟩=some (.slice a1 m.uses.length c1)/\W.cell? ⟨w.heap.size,2,none⟩=some (.slice a2 m.decls.length c2)/\W.cell? ⟨w.heap.size,3,none⟩=some (.slice a3 m.procs.length c3)/\W.cell? ⟨w.heap.size,4,none⟩=some (.slice a4 m.main.length c4)) (first | exact FF.out | exact zyg (by omega) FF.out _ _)
    (first | (go_at_call 50;refine (HC3.out _ (Below.refl _ w2).drew).mono ?_;rintro e w3 ⟨⟨a5,c5,rfl,he5⟩,hb3⟩;have HB3:=hid (thenB (Below.refl _ w2).drew hb3);have HE5:=hid he5;clear he5 hb3;have FF:=hid (HS.out _ HB3.out);obtain ⟨y0,y1,yf⟩:=HYf.out _ HB3.out;have hl3:w.heap.size+1<w3.heap.size:=vac hl2' HB3.out.size))
   all_goals
    go_wp2_with fail;refine bodyPost_ret (v:=.tuple #[.agg #[.string m.name,.slice a5 (pick (zih m) (za0 m)).length c5],.int .i64 0]) (by simp [results,Tryz.results15,go_sem,y0,y1,hl3]) rfl ⟨Or.inr ⟨HZ.out,a5,c5,rfl,?_⟩,?_⟩
    . exact (HE5.out.moves (((zag.refl w3 _).set (p:=⟨w.heap.size+1,0,none⟩) (by intro b _ hb;have:w2.heap.size<=b:=hb;show b≠w.heap.size+1;omega) _).set (p:=⟨w.heap.size+1,1,none⟩) (by intro b _ hb;have:w2.heap.size<=b:=hb;show b≠w.heap.size+1;omega) _)).moves ⟨vaa _,fun b _ h=>⟨by have:w2.heap.size<=b:=h;show w.heap.size<=b;omega,rfl⟩⟩
    . exact ((thenB HB2.out HB3.out).setCell (p:=⟨w.heap.size+1,0,none⟩) (by show w.heap.size<=w.heap.size+1;omega) _).setCell (p:=⟨w.heap.size+1,1,none⟩) (by show w.heap.size<=w.heap.size+1;omega) _
 . have HF:Hid (zpx w.heap.size m (.returned (.tuple #[.agg #[.string ⟨#[]⟩,.slice none 0 0],.int .i64 (chkM m)])) ((w1.setCell ⟨w.heap.size+1,0,none⟩ (.string ⟨#[]⟩)).setCell ⟨w.heap.size+1,1,none⟩ (.slice none 0 0))):=Or.inl ⟨hc,rfl⟩
   go_wp2_with fail;refine bodyPost_ret (v:=.tuple #[.agg #[.string ⟨#[]⟩,.slice none 0 0],.int .i64 (chkM m)]) (by simp [results,Tryz.results15,go_sem,y0,y1,hl2]) rfl ⟨HF.out,?_⟩;exact (HB1.out.setCell (p:=⟨w.heap.size+1,0,none⟩) (by show w.heap.size<=w.heap.size+1;omega) _).setCell (p:=⟨w.heap.size+1,1,none⟩) (by show w.heap.size<=w.heap.size+1;omega) _
end Go.Proofs.YtndkhgakfodldaaGreatDoor

namespace Go.Proofs.YtndkhgakfodldaaGreatDoor
open Go.RowKit
set_option linter.unusedSimpArgs false
theorem zrb:∀ (l:List Nd) (i:Nat) (h:i<l.length) (j:Nat),j<5->(zcl l)[i*5+j]? = (l[i].ds)[j]?
 | [],i,h,_,_=>by simp at h
 | x :: r,0,_,j,hj=>by
   have:=x.ds_len;simp only [zcl,vbn];rw [vaw (by omega),vbh,vbc]
 | x :: r,i+1,h,j,hj=>by
   have:=x.ds_len;simp only [zcl,vbo];rw [vbb (by omega),show (i+1)*5+j - x.ds.length=i*5+j from by omega];exact zrb r i (by simpa using h) j hj
theorem zrc:∀ (l:List Ac) (i:Nat) (h:i<l.length) (j:Nat),j<7->(zcg l)[i*7+j]? = (l[i].ds)[j]?
 | [],i,h,_,_=>by simp at h
 | x :: r,0,_,j,hj=>by
   have:=x.ds_len;simp only [zcg,vbn];rw [vaw (by omega),vbh,vbc]
 | x :: r,i+1,h,j,hj=>by
   have:=x.ds_len;simp only [zcg,vbo];rw [vbb (by omega),show (i+1)*7+j - x.ds.length=i*7+j from by omega];exact zrc r i (by simpa using h) j hj
def Un.ds (u:Un):List D:=[.str u.name,.list u.uses.length (zal u.uses),.int u.data,.list u.parts.length (zjt u.parts),.list u.main.length (zcg u.main)]
def zfs (l:List Un):List D:=l.flatMap Un.ds
structure NdAt (w:World) (A:Nat->Prop) (b o:Nat) (x:Nd) (a1:OA) (k1:Nat):Prop where
 lt:b<w.heap.size
 c0:w.cell? ⟨b,o,none⟩=some (.int .i64 x.op)
 c1:w.cell? ⟨b,o+1,none⟩=some (.int .i64 x.n)
 c2:w.cell? ⟨b,o+2,none⟩=some (.int .i64 x.m)
 c3:w.cell? ⟨b,o+3,none⟩=some (.int .i64 x.at_)
 c4:w.cell? ⟨b,o+4,none⟩=some (.slice a1 x.args.length k1)
 args':DAt w A a1 x.args.length (zcl x.args)
 w0:(Lit.int .i64 x.op).wf=true
 w1:(Lit.int .i64 x.n).wf=true
 w2:(Lit.int .i64 x.m).wf=true
 w3:(Lit.int .i64 x.at_).wf=true
theorem DAt.nd {w:World} {A:Nat->Prop} {a:OA} {l:List Nd} (h:DAt w A a l.length (zcl l)) (i:Nat) (hi:i<l.length):∃ b off a1 k1,a=some ⟨b,off,none⟩/\NdAt w A b (off+i*5) l[i] a1 k1:=by
 obtain ⟨b,off,ha,hb,hc⟩:=h.cell (by omega);generalize hx:l[i]=x;obtain ⟨op,n,m,at_,args⟩:=x
 have g:∀ j d,j<5->(Nd.mk op n m at_ args).ds[j]? = some d->∃ v,w.cell? ⟨b,off+i*5+j,none⟩=some v/\zck w A d v:=fun j d hj hd=>by
  rw [vbs];exact hc (i*5+j) d ((zrb l i hi j hj).trans (by rw [hx];exact hd))
 obtain ⟨v0,q0,d0⟩:=g 0 (.int op) (by omega) (by simp [Nd.ds]);obtain ⟨v1,q1,d1⟩:=g 1 (.int n) (by omega) (by simp [Nd.ds]);obtain ⟨v2,q2,d2⟩:=g 2 (.int m) (by omega) (by simp [Nd.ds]);obtain ⟨v3,q3,d3⟩:=g 3 (.int at_) (by omega) (by simp [Nd.ds]);obtain ⟨v4,q4,d4⟩:=g 4 (.list args.length (zcl args)) (by omega) (by simp [Nd.ds]);obtain ⟨rfl,w0⟩:=zbh d0;obtain ⟨rfl,w1⟩:=zbh d1;obtain ⟨rfl,w2⟩:=zbh d2;obtain ⟨rfl,w3⟩:=zbh d3;obtain ⟨a1,k1,rfl,h1⟩:=zaz d4;exact ⟨b,off,a1,k1,ha,hb,q0,q1,q2,q3,q4,h1,w0,w1,w2,w3⟩
structure AcAt (w:World) (A:Nat->Prop) (b o:Nat) (x:Ac) (a1:OA) (k1:Nat) (a2:OA) (k2:Nat) (a3:OA) (k3:Nat):Prop where
 lt:b<w.heap.size
 c0:w.cell? ⟨b,o,none⟩=some (.int .i64 x.op)
 c1:w.cell? ⟨b,o+1,none⟩=some (.int .i64 x.n)
 c2:w.cell? ⟨b,o+2,none⟩=some (.int .i64 x.m)
 c3:w.cell? ⟨b,o+3,none⟩=some (.int .i64 x.at_)
 c4:w.cell? ⟨b,o+4,none⟩=some (.slice a1 x.args.length k1)
 c5:w.cell? ⟨b,o+5,none⟩=some (.slice a2 x.body.length k2)
 c6:w.cell? ⟨b,o+6,none⟩=some (.slice a3 x.other.length k3)
 args':DAt w A a1 x.args.length (zcl x.args)
 body':DAt w A a2 x.body.length (zcg x.body)
 other':DAt w A a3 x.other.length (zcg x.other)
 w0:(Lit.int .i64 x.op).wf=true
 w1:(Lit.int .i64 x.n).wf=true
 w2:(Lit.int .i64 x.m).wf=true
 w3:(Lit.int .i64 x.at_).wf=true
theorem DAt.ac {w:World} {A:Nat->Prop} {a:OA} {l:List Ac} (h:DAt w A a l.length (zcg l)) (i:Nat) (hi:i<l.length):∃ b off a1 k1 a2 k2 a3 k3,a=some ⟨b,off,none⟩/\AcAt w A b (off+i*7) l[i] a1 k1 a2 k2 a3 k3:=by
 obtain ⟨b,off,ha,hb,hc⟩:=h.cell (by omega);generalize hx:l[i]=x;obtain ⟨op,n,m,at_,args,body,other⟩:=x
 have g:∀ j d,j<7->(Ac.mk op n m at_ args body other).ds[j]? = some d->∃ v,w.cell? ⟨b,off+i*7+j,none⟩=some v/\zck w A d v:=fun j d hj hd=>by
  rw [vbs];exact hc (i*7+j) d ((zrc l i hi j hj).trans (by rw [hx];exact hd))
 obtain ⟨v0,q0,d0⟩:=g 0 (.int op) (by omega) (by simp [Ac.ds]);obtain ⟨v1,q1,d1⟩:=g 1 (.int n) (by omega) (by simp [Ac.ds]);obtain ⟨v2,q2,d2⟩:=g 2 (.int m) (by omega) (by simp [Ac.ds]);obtain ⟨v3,q3,d3⟩:=g 3 (.int at_) (by omega) (by simp [Ac.ds]);obtain ⟨v4,q4,d4⟩:=g 4 (.list args.length (zcl args)) (by omega) (by simp [Ac.ds]);obtain ⟨v5,q5,d5⟩:=g 5 (.list body.length (zcg body)) (by omega) (by simp [Ac.ds]);obtain ⟨v6,q6,d6⟩:=g 6 (.list other.length (zcg other)) (by omega) (by simp [Ac.ds]);obtain ⟨rfl,w0⟩:=zbh d0;obtain ⟨rfl,w1⟩:=zbh d1;obtain ⟨rfl,w2⟩:=zbh d2;obtain ⟨rfl,w3⟩:=zbh d3;obtain ⟨a1,k1,rfl,h1⟩:=zaz d4;obtain ⟨a2,k2,rfl,h2⟩:=zaz d5;obtain ⟨a3,k3,rfl,h3⟩:=zaz d6;exact ⟨b,off,a1,k1,a2,k2,a3,k3,ha,hb,q0,q1,q2,q3,q4,q5,q6,h1,h2,h3,w0,w1,w2,w3⟩
structure PtAt (w:World) (A:Nat->Prop) (b o:Nat) (x:Pt) (a1:OA) (k1:Nat):Prop where
 lt:b<w.heap.size
 c0:w.cell? ⟨b,o,none⟩=some (.int .i64 x.params)
 c1:w.cell? ⟨b,o+1,none⟩=some (.int .i64 x.locals)
 c2:w.cell? ⟨b,o+2,none⟩=some (.slice a1 x.body.length k1)
 body':DAt w A a1 x.body.length (zcg x.body)
 w0:(Lit.int .i64 x.params).wf=true
 w1:(Lit.int .i64 x.locals).wf=true
theorem DAt.pt {w:World} {A:Nat->Prop} {a:OA} {l:List Pt} (h:DAt w A a l.length (zjt l)) (i:Nat) (hi:i<l.length):∃ b off a1 k1,a=some ⟨b,off,none⟩/\PtAt w A b (off+i*3) l[i] a1 k1:=by
 obtain ⟨b,off,ha,hb,hc⟩:=h.cell (by omega);generalize hx:l[i]=x;obtain ⟨params,locals,body⟩:=x
 have g:∀ j d,j<3->(Pt.mk params locals body).ds[j]? = some d->∃ v,w.cell? ⟨b,off+i*3+j,none⟩=some v/\zck w A d v:=fun j d hj hd=>by
  rw [vbs];exact hc (i*3+j) d ((zdk Pt.ds 3 (fun _=>rfl) l i hi j hj).trans (by rw [hx];exact hd))
 obtain ⟨v0,q0,d0⟩:=g 0 (.int params) (by omega) (by simp [Pt.ds]);obtain ⟨v1,q1,d1⟩:=g 1 (.int locals) (by omega) (by simp [Pt.ds]);obtain ⟨v2,q2,d2⟩:=g 2 (.list body.length (zcg body)) (by omega) (by simp [Pt.ds]);obtain ⟨rfl,w0⟩:=zbh d0;obtain ⟨rfl,w1⟩:=zbh d1;obtain ⟨a1,k1,rfl,h1⟩:=zaz d2;exact ⟨b,off,a1,k1,ha,hb,q0,q1,q2,h1,w0,w1⟩
structure UnAt (w:World) (A:Nat->Prop) (b o:Nat) (x:Un) (a1:OA) (k1:Nat) (a2:OA) (k2:Nat) (a3:OA) (k3:Nat):Prop where
 lt:b<w.heap.size
 c0:w.cell? ⟨b,o,none⟩=some (.string x.name)
 c1:w.cell? ⟨b,o+1,none⟩=some (.slice a1 x.uses.length k1)
 c2:w.cell? ⟨b,o+2,none⟩=some (.int .i64 x.data)
 c3:w.cell? ⟨b,o+3,none⟩=some (.slice a2 x.parts.length k2)
 c4:w.cell? ⟨b,o+4,none⟩=some (.slice a3 x.main.length k3)
 uses':DAt w A a1 x.uses.length (zal x.uses)
 parts':DAt w A a2 x.parts.length (zjt x.parts)
 main':DAt w A a3 x.main.length (zcg x.main)
 w0:x.name.size<=maxLen
 w2:(Lit.int .i64 x.data).wf=true
theorem DAt.un {w:World} {A:Nat->Prop} {a:OA} {l:List Un} (h:DAt w A a l.length (zfs l)) (i:Nat) (hi:i<l.length):∃ b off a1 k1 a2 k2 a3 k3,a=some ⟨b,off,none⟩/\UnAt w A b (off+i*5) l[i] a1 k1 a2 k2 a3 k3:=by
 obtain ⟨b,off,ha,hb,hc⟩:=h.cell (by omega);generalize hx:l[i]=x;obtain ⟨name,uses,data,parts,main⟩:=x
 have g:∀ j d,j<5->(Un.mk name uses data parts main).ds[j]? = some d->∃ v,w.cell? ⟨b,off+i*5+j,none⟩=some v/\zck w A d v:=fun j d hj hd=>by
  rw [vbs];exact hc (i*5+j) d ((zdk Un.ds 5 (fun _=>rfl) l i hi j hj).trans (by rw [hx];exact hd))
 obtain ⟨v0,q0,d0⟩:=g 0 (.str name) (by omega) (by simp [Un.ds,zjt]);obtain ⟨v1,q1,d1⟩:=g 1 (.list uses.length (zal uses)) (by omega) (by simp [Un.ds,zjt]);obtain ⟨v2,q2,d2⟩:=g 2 (.int data) (by omega) (by simp [Un.ds,zjt]);obtain ⟨v3,q3,d3⟩:=g 3 (.list parts.length (zjt parts)) (by omega) (by simp [Un.ds,zjt]);obtain ⟨v4,q4,d4⟩:=g 4 (.list main.length (zcg main)) (by omega) (by simp [Un.ds,zjt]);obtain ⟨rfl,w0⟩:=zcx d0;obtain ⟨a1,k1,rfl,h1⟩:=zaz d1;obtain ⟨rfl,w2⟩:=zbh d2;obtain ⟨a2,k2,rfl,h2⟩:=zaz d3;obtain ⟨a3,k3,rfl,h3⟩:=zaz d4;exact ⟨b,off,a1,k1,a2,k2,a3,k3,ha,hb,q0,q1,q2,q3,q4,h1,h2,h3,w0,w2⟩
structure Ck where
 data:Int
 uses:Nat
 parts:List Pt
 num:Int->Int->Int->Bool
 prt:Int->Int->Int->Bool
 locals:Int
def zsy (c:Ck) (m:Int):Bool:=decide (1<=m/\m<=c.uses)
def zwf (size at_ n:Int):Bool:=decide (0<=at_/\at_+n<=size)
def numB (c:Ck) (m at_ n:Int):Bool:=if m=0 then zwf c.data at_ n else zsy c m&&c.num m at_ n
def zpz (l:List Pt) (at_ k:Int):Bool:=decide (0<=at_)&&(match l[at_.toNat]? with | some p=>decide (p.params=k) | none=>false)
def zom (c:Ck) (m at_ k:Int):Bool:=if m=0 then zpz c.parts at_ k else zsy c m&&c.prt m at_ k
def zsz (c:Ck) (n m at_:Int):Bool:=decide (1<=n/\n<=32)&&numB c m at_ n
def zwg (c:Ck) (at_:Int):Bool:=decide (0<=at_/\at_<c.locals)
def argsOf (op:Int):Int:=if op=2 then 0 else if op=6 then 1 else if 7<=op/\op<=15 then 2 else -1
def za5 (c:Ck) (x:Nd):Bool:=
 if x.op=3 then decide (x.args.length=0)&&(decide (x.n=0)&&numB c x.m x.at_ 1)
 else if x.op=4 then decide (x.args.length=1)&&zsz c x.n x.m x.at_
 else if x.op=5 then decide (x.n=0)&&zom c x.m x.at_ x.args.length
 else if x.op=16 then decide (x.args.length=0)&&(decide (x.n=0)&&(decide (x.m=0)&&zwg c x.at_))
 else if x.op=1 then decide (x.args.length=0)&&(decide (0<=x.n/\x.n<=1099511627775)&&(decide (x.m=0)&&decide (x.at_=0)))
 else decide ((x.args.length:Int)=argsOf x.op)&&(decide (x.n=0)&&(decide (x.m=0)&&decide (x.at_=0)))
def zj9 (c:Ck):Nat->List Nd->Bool
 | 0,l=>decide (l.length=0)
 | k+1,l=>l.all fun x=>za5 c x&&zj9 c k x.args
def zb2 (c:Ck) (a:Ac):Bool:=
 if a.op=1 then decide (a.args.length=1)&&(decide (a.n=0)&&(if a.m = -1 then zwg c a.at_ else numB c a.m a.at_ 1))
 else if a.op=2 then decide (a.args.length=2)&&zsz c a.n a.m a.at_
 else if a.op=3 then decide (a.n=0)&&zom c a.m a.at_ a.args.length
 else if 4<=a.op/\a.op<=7 then decide (a.args.length=1)&&(decide (a.n=0)&&(decide (a.m=0)&&decide (a.at_=0)))
 else false
def zgh (c:Ck):Nat->List Ac->Bool
 | 0,_=>false
 | k + 1,l=>decide (l.length<=10)&&l.all fun a=>zb2 c a&&(zj9 c 6 a.args &&
     (if a.op=4 then zgh c k a.body&&zgh c k a.other else if a.op=5 then zgh c k a.body&&decide (a.other.length=0) else decide (a.body.length=0)&&decide (a.other.length=0)))
def ptB (p:Pt):Bool:=decide (0<=p.params/\p.params<=3)&&decide (0<=p.locals/\p.locals<=4)
def zeh (u:Un):Bool:=decide (chkM ⟨u.name,u.uses,[],[],[]⟩=0)&&(u.parts.all ptB&&(decide (0<=u.data/\u.data<=512)&&decide (u.parts.length<=6)))
def zjv (u:Un) (num prt:Int->Int->Int->Bool) (locals:Int):Ck:=⟨u.data,u.uses.length,u.parts,num,prt,locals⟩
def zka (u:Un) (num prt:Int->Int->Int->Bool):Bool:=
 zeh u&&(u.parts.all (fun p=>zgh (zjv u num prt (p.params+p.locals)) 6 p.body)&&zgh (zjv u num prt 0) 6 u.main)
end Go.Proofs.YtndkhgakfodldaaGreatDoor

namespace Go.Proofs.YtndkhgakfodldaaGreatDoor
set_option maxRecDepth 100000
open Go.RowKit Go.Maps Go.WideMaps
set_option linter.unusedSimpArgs false
set_option linter.unusedVariables false
theorem z3m {n:Int} (h:(Lit.int .i64 n).wf=true) : -9223372036854775808<=n/\n<=9223372036854775807:=by
 simp only [Lit.wf,vae,decide_eq_true_eq] at h;exact h
theorem zn6 (size at_ n:Int) (w:World) (h1:0<=size) (h2:size<=512) (h3:1<=n) (h4:n<=32) (hw:(Lit.int .i64 at_).wf=true) :
 Calls Tryz.prog 267 #[.int .i64 size,.int .i64 at_,.int .i64 n] w fun e w'=>e = .returned (.bool (zwf size at_ n))/\w'=w:=by
 obtain ⟨g1,g2⟩:=z3m hw;clear hw
 by_cases ha:0<=at_
 . by_cases hb:at_<=size - n
   . have HR:Hid (zwf size at_ n=true):=decide_eq_true ⟨ha,by omega⟩
     go_enter Tryz.func267,Tryz.ntmps267;go_wp2_with fail;go_ret;exact ⟨zaa HR.out.symm,rfl⟩
   . have HR:Hid (zwf size at_ n=false):=decide_eq_false (by omega)
     have hb':size - n<at_:=by omega
     clear hb;go_enter Tryz.func267,Tryz.ntmps267;go_wp2_with fail;go_ret;exact ⟨zaa (by first | exact HR.out.symm | (rw [HR.out];first | (simp;omega) | (simp [*];done))),rfl⟩
 . have HR:Hid (zwf size at_ n=false):=decide_eq_false (by omega)
   have ha':at_<0:=by omega
   clear ha;go_enter Tryz.func267,Tryz.ntmps267;go_wp2_with fail;go_ret;exact ⟨zaa HR.out.symm,rfl⟩
theorem zs0 (op:Int) (w:World) :
 Calls Tryz.prog 269 #[.int .i64 op] w fun e w'=>e = .returned (.int .i64 (argsOf op))/\w'=w:=by
 by_cases h2:op=2
 . subst h2
   go_enter Tryz.func269,Tryz.ntmps269;go_wp2_with fail;go_ret;exact ⟨rfl,rfl⟩
 by_cases h6:op=6
 . subst h6
   go_enter Tryz.func269,Tryz.ntmps269;go_wp2_with fail;go_ret;exact ⟨rfl,rfl⟩
 by_cases h7:7<=op
 . by_cases h15:op<=15
   . have HR:Hid (argsOf op=2):=by show _=_;unfold argsOf;rw [if_neg h2,if_neg h6,if_pos ⟨h7,h15⟩]
     go_enter Tryz.func269,Tryz.ntmps269;go_wp2_with fail;go_ret;exact ⟨zaw HR.out.symm,rfl⟩
   . have HR:Hid (argsOf op = -1):=by show _=_;unfold argsOf;rw [if_neg h2,if_neg h6,if_neg (by omega)]
     have h15':15<op:=by omega
     clear h15;go_enter Tryz.func269,Tryz.ntmps269;go_wp2_with fail;go_ret;exact ⟨zaw HR.out.symm,rfl⟩
 . have HR:Hid (argsOf op = -1):=by show _=_;unfold argsOf;rw [if_neg h2,if_neg h6,if_neg (by omega)]
   have h7':op<7:=by omega
   clear h7;go_enter Tryz.func269,Tryz.ntmps269;go_wp2_with fail;go_ret;exact ⟨zaw HR.out.symm,rfl⟩
theorem zf3 (c:Ck) (s:ByteArray) (x1:OA) (y1:Nat) (x2:OA) (y2:Nat) (x3:OA) (n3 y3:Nat) (iv:Value) (m:Int) (w:World) :
 Calls Tryz.prog 209 #[.agg #[.string s,.slice x1 c.uses y1,.int .i64 c.data,.slice x2 c.parts.length y2,.slice x3 n3 y3,iv,.int .i64 c.locals],.int .i64 m] w fun e w'=>e = .returned (.bool (zwg c m))/\Below w.heap.size w w':=by
 by_cases ha:0<=m
 . by_cases hb:m<c.locals
   . have HR:Hid (zwg c m=true):=decide_eq_true ⟨ha,hb⟩
     go_enter Tryz.func209,Tryz.ntmps209;go_wp2_with fail;go_ret;exact ⟨zaa HR.out.symm,al1 _ _⟩
   . have HR:Hid (zwg c m=false):=decide_eq_false (by omega)
     have hb':c.locals<=m:=by omega
     clear hb;go_enter Tryz.func209,Tryz.ntmps209;go_wp2_with fail;go_ret;exact ⟨zaa (by first | exact HR.out.symm | (rw [HR.out];first | (simp;omega) | (simp [*];done))),al1 _ _⟩
 . have HR:Hid (zwg c m=false):=decide_eq_false (by omega)
   have ha':m<0:=by omega
   clear ha;go_enter Tryz.func209,Tryz.ntmps209;go_wp2_with fail;go_ret;exact ⟨zaa HR.out.symm,al1 _ _⟩
theorem zn7 (c:Ck) (s:ByteArray) (x1:OA) (y1:Nat) (x2:OA) (y2:Nat) (x3:OA) (n3 y3:Nat) (iv:Value) (m:Int) (w:World) :
 Calls Tryz.prog 268 #[.agg #[.string s,.slice x1 c.uses y1,.int .i64 c.data,.slice x2 c.parts.length y2,.slice x3 n3 y3,iv,.int .i64 c.locals],.int .i64 m] w fun e w'=>e = .returned (.bool (zsy c m))/\Below w.heap.size w w':=by
 by_cases ha:1<=m
 . by_cases hb:m<=c.uses
   . have HR:Hid (zsy c m=true):=decide_eq_true ⟨ha,hb⟩
     go_enter Tryz.func268,Tryz.ntmps268;go_wp2_with fail;go_ret;exact ⟨zaa HR.out.symm,al1 _ _⟩
   . have HR:Hid (zsy c m=false):=decide_eq_false (by omega)
     have hb':(c.uses:Int)<m:=by omega
     clear hb;go_enter Tryz.func268,Tryz.ntmps268;go_wp2_with fail;go_ret;exact ⟨zaa (by first | exact HR.out.symm | (rw [HR.out];first | (simp;omega) | (simp [*];done))),al1 _ _⟩
 . have HR:Hid (zsy c m=false):=decide_eq_false (by omega)
   have ha':m<1:=by omega
   clear ha;go_enter Tryz.func268,Tryz.ntmps268;go_wp2_with fail;go_ret;exact ⟨zaa HR.out.symm,al1 _ _⟩
structure UsAt (w:World) (c:Ck) (nf pf:FuncId) (v:Value):Prop where
 num:∀ W,Below w.heap.size w W->∀ m at_ n:Int,zsy c m=true->(Lit.int .i64 at_).wf=true->1<=n->n<=32->Calls Tryz.prog nf #[v,.int .i64 m,.int .i64 at_,.int .i64 n] W fun e W'=>e = .returned (.bool (c.num m at_ n))/\Below W.heap.size W W'
 prt:∀ W,Below w.heap.size w W->∀ (m at_:Int) (k:Nat),zsy c m=true->(Lit.int .i64 at_).wf=true->k<=17592186044416->Calls Tryz.prog pf #[v,.int .i64 m,.int .i64 at_,.int .i64 k] W fun e W'=>e = .returned (.bool (c.prt m at_ k))/\Below W.heap.size W W'
structure CkAt (w:World) (c:Ck) (cv:Value):Prop where
 num:∀ W,Below w.heap.size w W->∀ m at_ n:Int,(Lit.int .i64 m).wf=true->(Lit.int .i64 at_).wf=true->1<=n->n<=32->Calls Tryz.prog 210 #[cv,.int .i64 m,.int .i64 at_,.int .i64 n] W fun e W'=>e = .returned (.bool (numB c m at_ n))/\Below W.heap.size W W'
 prt:∀ W,Below w.heap.size w W->∀ (m at_:Int) (k:Nat),(Lit.int .i64 m).wf=true->(Lit.int .i64 at_).wf=true->k<=17592186044416->Calls Tryz.prog 212 #[cv,.int .i64 m,.int .i64 at_,.int .i64 k] W fun e W'=>e = .returned (.bool (zom c m at_ k))/\Below W.heap.size W W'
theorem CkAt.later {w w':World} {c:Ck} {cv:Value} (h:CkAt w c cv) (hb:Below w.heap.size w w'):CkAt w' c cv:=⟨fun W hW=>h.num W (thenB hb hW),fun W hW=>h.prt W (thenB hb hW)⟩
theorem UsAt.later {w w':World} {c:Ck} {nf pf:FuncId} {v:Value} (h:UsAt w c nf pf v) (hb:Below w.heap.size w w'):UsAt w' c nf pf v:=⟨fun W hW=>h.num W (thenB hb hW),fun W hW=>h.prt W (thenB hb hW)⟩
end Go.Proofs.YtndkhgakfodldaaGreatDoor
