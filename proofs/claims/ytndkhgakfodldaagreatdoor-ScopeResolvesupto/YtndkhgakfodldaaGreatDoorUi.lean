import Derived.Test.YtndkhgakfodldaaGreatDoorUc
import Derived.Test.YtndkhgakfodldaaGreatDoorXc
import Derived.Test.YtndkhgakfodldaaGreatDoorLex
namespace Go.Proofs.YtndkhgakfodldaaGreatDoor
set_option maxRecDepth 100000
set_option maxHeartbeats 3200000
open Go.RowKit Go.Maps Go.WideMaps
set_option linter.unusedSimpArgs false
abbrev pU (p:Pr) (a:OA) (b:Nat) (c:OA) (e:Nat) (f:OA) (g:Nat):Obj:=.cells #[.string p.name,.bool p.pub,.slice a p.params.length b,.slice c p.locals.length e,.slice f p.body.length g] 118
abbrev It:=Fx.It
def itD (i:It):List D:=[.int i.kind,.int i.n,.int i.at_,.str i.name]
def zfe (l:List It):List D:=l.flatMap itD
def layIt (at_:Int) (d:De):It:=⟨d.kind,d.n,if d.kind=2\/d.kind=3 then at_ else 0,d.name⟩
def zcc (at_:Int) (d:De):Int:=if d.kind=2 then at_+1 else if d.kind=3 then at_+d.n else at_
def layD:Int->List De->List It × Int
 | a,[]=>([],a)
 | a,d :: r=>(layIt a d :: (layD (zcc a d) r).1,(layD (zcc a d) r).2)
def zts (i:Nat) (p:Pr):It:=⟨4,p.params.length,i,p.name⟩
def prIts:Nat->List Pr->List It
 | _,[]=>[]
 | i,p :: r=>zts i p :: prIts (i+1) r
def layItems (m:Mo):List It:=(layD 0 m.decls).1++prIts 0 m.procs
def zav (m:Mo):Int:=(layD 0 m.decls).2
theorem zka:∀ (l:List De) (a:Int) (d:De),layD a (l++[d])=((layD a l).1++[layIt (layD a l).2 d],zcc (layD a l).2 d)
 | [],a,d=>rfl
 | x :: r,a,d=>by
   show (layIt a x :: (layD (zcc a x) (r++[d])).1,(layD (zcc a x) (r++[d])).2)=_
   rw [zka r];rfl
theorem zrq:∀ (l:List De) (a:Int),(layD a l).1.length=l.length
 | [],_=>rfl
 | x :: r,a=>by show (_ :: _).length=_;rw [vax,zrq r,vax]
theorem zh9:∀ (l:List Pr) (i:Nat) (p:Pr),prIts i (l++[p])=prIts i l++[zts (i+l.length) p]
 | [],i,p=>rfl
 | x :: r,i,p=>by
   show zts i x :: prIts (i+1) (r++[p])=_
   rw [zh9 r,show i+1+r.length=i+(x :: r).length from by simp;omega];rfl
theorem zok:∀ (l:List Pr) (i:Nat),(prIts i l).length=l.length
 | [],_=>rfl
 | x :: r,i=>by show (_ :: _).length=_;rw [vax,zok r,vax]
theorem zc4 (m:Mo):(layItems m).length=m.decls.length+m.procs.length:=by unfold layItems;rw [vao,zrq,zok]
structure LayOk (m:Mo):Prop where
 decls:m.decls.length<=10
 procs:m.procs.length<=6
 kinds:∀ d ∈ m.decls,1<=d.kind/\d.kind<=3/\(d.kind=3->1<=d.n/\d.n<=32)
theorem zc5 {m:Mo} (h:m.err=0):m.uses.length<=3/\m.decls.length<=10/\m.procs.length<=6/\(∀ p ∈ m.procs,p.params.length<=3/\p.locals.length<=4/\zag 6 p.body=false)/\zag 6 m.main=false:=by
 obtain ⟨_,hm,_⟩:=zmm h;unfold Mo.many at hm;simp only [vap] at hm;obtain ⟨h1,h2,h3,h4,h5⟩:=hm;have h1:=of_decide_eq_false h1;have h2:=of_decide_eq_false h2;have h3:=of_decide_eq_false h3;rw [vau] at h4 h5;refine ⟨by omega,by omega,by omega,fun p hp=>?_,by simpa using h5 m.main (by unfold Mo.bodies;simp)⟩;have:=h4 p hp;simp only [vce,vap] at this;have k1:=of_decide_eq_false this.1;have k2:=of_decide_eq_false this.2;exact ⟨by omega,by omega,by simpa using h5 p.body (by unfold Mo.bodies;simp;exact Or.inl ⟨p,hp,rfl⟩)⟩
theorem zol {m:Mo} (h:m.err=0):LayOk m:=by
 have hp:=zc5 h;refine ⟨hp.2.1,hp.2.2.1,fun d hd=>?_⟩;obtain ⟨_,hs,h1,h2⟩:=(z07 h).decls d hd;refine ⟨h1,h2,fun h3=>?_⟩;unfold zcf at hs;rw [h3,if_neg (by decide),if_pos rfl] at hs;simpa using hs
theorem zia:∀ (l:List De) (a:Int),(∀ d ∈ l,1<=d.kind/\d.kind<=3/\(d.kind=3->1<=d.n/\d.n<=32))->a<=(layD a l).2/\(layD a l).2<=a+32*l.length
 | [],a,_=>⟨Int.le_refl _,by simp [layD]⟩
 | x :: r,a,h=>by
   have hx:=h x (by simp);have ih:=zia r (zcc a x) (fun d hd=>h d (by simp [hd]));show a<=(layD (zcc a x) r).2/\(layD (zcc a x) r).2<=a+32*((x :: r).length:Nat);rw [vax]
   have hn:a<=zcc a x/\zcc a x<=a+32:=by
    unfold zcc;split
    . omega
    . split
      . rename_i h3;have:=hx.2.2 h3;omega
      . omega
   omega
theorem Tryz.infoItem:(Tryz.prog.info? 98).map (fun i=>(i.zero,i.size,i.bytes))=some (some (.agg #[.int .i64 0,.int .i64 0,.int .i64 0,.string ⟨#[]⟩]),4,40):=by kernel_rfl
theorem ze8 {A:Nat->Prop} {w:World} {k n a:Int} {s:ByteArray} (h:s.size<=maxLen):zap w A (itD ⟨k,n,a,s⟩) [.int .i64 k,.int .i64 n,.int .i64 a,.string s]:=.cons zni (.cons zni (.cons zni (.cons (zs5 h) .nil)))
theorem zet (l:List It) (x:It):zfe (l++[x])=zfe l++itD x:=by simp [zfe]
theorem zfz {w:World} {A:Nat->Prop} {a:OA} {l:List It} (h:EAt w A a l.length (zfe l)):Fx.zbp w a l/\Fx.AllFit l:=by
 rcases h with h | ⟨b,off,cs,ha,_,hb,hc,hx⟩
 . have:l=[]:=vaj h
   subst this;exact ⟨Or.inl rfl,fun i hi=>by cases hi⟩
 . have g:∀ i (hi:i<l.length) j d,j<4->(itD l[i])[j]? = some d->∃ v,w.cell? ⟨b,off+i*4+j,none⟩=some v/\zez w A d v:=fun i hi j d hj hd=>by
    obtain ⟨v,hv,hd'⟩:=hx.get (i*4+j) d ((zd8 itD 4 (fun _=>rfl) l i hi j hj).trans hd);exact ⟨v,by rw [vbj];exact hc _ v hv,hd'⟩
   refine ⟨Or.inr ⟨b,off,ha,hb,fun i hi=>?_,fun i hi=>?_,fun i hi=>?_,fun i hi=>?_⟩,fun x hx'=>?_⟩
   . obtain ⟨v,hv,hd⟩:=g i hi 0 (.int l[i].kind) (by omega) rfl
     rw [zdf hd] at hv;exact hv
   . obtain ⟨v,hv,hd⟩:=g i hi 1 (.int l[i].n) (by omega) rfl
     rw [zdf hd] at hv;exact hv
   . obtain ⟨v,hv,hd⟩:=g i hi 2 (.int l[i].at_) (by omega) rfl
     rw [zdf hd] at hv;exact hv
   . obtain ⟨v,hv,hd⟩:=g i hi 3 (.str l[i].name) (by omega) rfl
     rw [(zp6 hd).1] at hv;exact hv
   . obtain ⟨i,hi,rfl⟩:=vay hx'
     obtain ⟨v,hv,hd⟩:=g i hi 3 (.str l[i].name) (by omega) rfl;exact (zp6 hd).2
theorem zib (m:Mo) (v:Value) (a1:OA) (c1:Nat) (a2:OA) (c2:Nat) (a3:OA) (c3:Nat) (a4:OA) (c4:Nat) (w:World) (hM:MoAt w Tt m v a1 c1 a2 c2 a3 c3 a4 c4) (hok:LayOk m) :
 Calls Tryz.prog 49 #[v] w fun e w'=>(∃ a cap,e = .returned (.tuple #[.slice a (layItems m).length cap,.int .i64 (zav m)])/\EAt w' (w.heap.size<=·) a (layItems m).length (zfe (layItems m)))/\Below w.heap.size w w':=by
 obtain rfl:=hM.val;have HDe:=hid hM.decls;have HPr:=hid hM.procs;have HOk:=hid hok;have hd10:=hok.decls;have hp6:=hok.procs;clear hM hok;go_enter Tryz.func49,Tryz.ntmps49;go_wp2_with fail
 go_loopw [4,5,7,8,14] (fun v dv _ _ i wr=>∃ (j:Nat) (acc:List It) (dt:Int),j<=m.decls.length/\i = .int .i64 j/\dv = .int .i64 dt/\acc.length=j/\layD 0 (m.decls.take j)=(acc,dt)/\Row (w.heap.size+1) 98 4 wr v acc.length (zfe acc)/\wr.heap[w.heap.size]? = some (.cells #[.string m.name,.slice a1 m.uses.length c1,.slice a2 m.decls.length c2,.slice a3 m.procs.length c3,.slice a4 m.main.length c4] 27)/\Below w.heap.size w wr) (fun _ _ _ _ i _=>m.decls.length - (intOf i).toNat)
 case atStart=>exact ⟨0,[],0,vad _,rfl,rfl,rfl,rfl,Row.nil _ _ _ _,heap_newP _ _,al1 _ _⟩
 case round=>
  obtain ⟨j,acc,dt,hj,rfl,rfl,hacc,hlay,hrow,hbx,hb⟩:=hrel;have HO:=hid hrow;have HM0:=hid hbx;have HB:=hid hb;have HLa:=hid hlay;have hzr:=hb.size;have hxlt:=zaa hbx;clear hrow hb hlay
  by_cases hlt:j<m.decls.length
  . obtain ⟨b,off,rfl,hx⟩:=(HDe.out.later HB.out).de j hlt
    obtain ⟨hbl,x0,x1,x2,x3,_,_,hnm⟩:=hx
    have HSn:Hid (layD 0 (m.decls.take (j+1))=(acc++[layIt dt m.decls[j]],zcc dt m.decls[j])):=by
     show layD 0 (m.decls.take (j+1))=_;rw [vag hlt,zka,HLa.out]
    have hkk:=HOk.out.kinds m.decls[j] (vah _)
    have hbd:0<=dt/\dt<=320:=by
     have:=zia (m.decls.take j) 0 (fun d hd=>HOk.out.kinds d (List.mem_of_mem_take hd));rw [HLa.out] at this;simp only [vbu] at this;omega
    generalize m.decls[j]=d at *;have hk1:=hkk.1;have hk3:=hkk.2.1;have h33:=hkk.2.2;clear hkk hbx
    by_cases hk2:d.kind=2
    . have hwr:IntKind.i64.wrap (dt+1)=dt+1:=by simp only [IntKind.wrap,IntKind.bits,IntKind.signed];simp;omega
      have HX:Hid (layIt dt d=⟨d.kind,d.n,dt,d.name⟩):=by show layIt dt d=_;unfold layIt;rw [if_pos (Or.inl hk2)]
      have HN:Hid (zcc dt d=dt+1):=by show zcc dt d=_;unfold zcc;rw [if_pos hk2]
      have HO1:Hid (Row (w.heap.size+1) 98 4 ((wr.alloc (.cells #[.int .i64 d.kind,.string d.name,.bool d.pub,.int .i64 d.n] 170)).alloc (.cells #[.int .i64 d.kind,.int .i64 d.n,.int .i64 dt,.string d.name] 98)) u4 acc.length (zfe acc)):=(HO.out.alloc _).alloc _;have HE1:Hid (zap ((wr.alloc (.cells #[.int .i64 d.kind,.string d.name,.bool d.pub,.int .i64 d.n] 170)).alloc (.cells #[.int .i64 d.kind,.int .i64 d.n,.int .i64 dt,.string d.name] 98)) (fun _=>False) (itD ⟨d.kind,d.n,dt,d.name⟩) [.int .i64 d.kind,.int .i64 d.n,.int .i64 dt,.string d.name]):=ze8 hnm;have HBA:Hid (Below w.heap.size w ((wr.alloc (.cells #[.int .i64 d.kind,.string d.name,.bool d.pub,.int .i64 d.n] 170)).alloc (.cells #[.int .i64 d.kind,.int .i64 d.n,.int .i64 dt,.string d.name] 98))):=thenB HB.out (bl2 _ _ _);have HX1:Hid (((wr.alloc (.cells #[.int .i64 d.kind,.string d.name,.bool d.pub,.int .i64 d.n] 170)).alloc (.cells #[.int .i64 d.kind,.int .i64 d.n,.int .i64 dt,.string d.name] 98)).heap[w.heap.size]? = some (.cells #[.string m.name,.slice a1 m.uses.length c1,.slice (some ⟨b,off,none⟩) m.decls.length c2,.slice a3 m.procs.length c3,.slice a4 m.main.length c4] 27)):=zad (zad HM0.out)
      have b2:(d.kind == 2)=true:=by rw [hk2];rfl
      clear hnm hk1 hk3 h33 hk2
      go_wp2_with (at_builtin;refine zbm rfl (.tmp 41) (.tmp 43) 28 rfl (w.heap.size+1) 98 _ 4 40 Tryz.underlying28 Tryz.infoItem rfl (by decide) ((wr.alloc (.cells #[.int .i64 d.kind,.string d.name,.bool d.pub,.int .i64 d.n] 170)).alloc (.cells #[.int .i64 d.kind,.int .i64 d.n,.int .i64 dt,.string d.name] 98)) u4 acc.length (zfe acc) (itD ⟨d.kind,d.n,dt,d.name⟩) rfl HO1.out #[.int .i64 d.kind,.int .i64 d.n,.int .i64 dt,.string d.name] _ (by simp) rfl rfl (fun _=>False) HE1.out (fun b _ h=>h.elim) (by omega) (by decide) (by simp;omega) ?_)
      intro g5 c5 w5 HO5 HB5 hz5;have HO5':=hid HO5;have HB5':=hid HB5;clear HO5 HB5 HO1 HE1;go_wp2_with fail;go_roundw
      case rel=>exact ⟨j+1,acc++[_],_,by omega,by go_num,rfl,by simp [hacc],HSn.out.trans (by rw [HX.out,HN.out]),by rw [zet,vao,hacc];exact HO5'.out,(HB5'.out.block _ (by omega)).trans HX1.out,HBA.out.trans (HB5'.out.mono (by omega))⟩
      case measure=>simp [intOf];omega
    by_cases hk3':d.kind=3
    . have hdn:=h33 hk3'
      have hwr:IntKind.i64.wrap (dt+d.n)=dt+d.n:=by simp only [IntKind.wrap,IntKind.bits,IntKind.signed];simp;omega
      have HX:Hid (layIt dt d=⟨d.kind,d.n,dt,d.name⟩):=by show layIt dt d=_;unfold layIt;rw [if_pos (Or.inr hk3')]
      have HN:Hid (zcc dt d=dt+d.n):=by show zcc dt d=_;unfold zcc;rw [if_neg hk2,if_pos hk3']
      have HO1:Hid (Row (w.heap.size+1) 98 4 ((wr.alloc (.cells #[.int .i64 d.kind,.string d.name,.bool d.pub,.int .i64 d.n] 170)).alloc (.cells #[.int .i64 d.kind,.int .i64 d.n,.int .i64 dt,.string d.name] 98)) u4 acc.length (zfe acc)):=(HO.out.alloc _).alloc _;have HE1:Hid (zap ((wr.alloc (.cells #[.int .i64 d.kind,.string d.name,.bool d.pub,.int .i64 d.n] 170)).alloc (.cells #[.int .i64 d.kind,.int .i64 d.n,.int .i64 dt,.string d.name] 98)) (fun _=>False) (itD ⟨d.kind,d.n,dt,d.name⟩) [.int .i64 d.kind,.int .i64 d.n,.int .i64 dt,.string d.name]):=ze8 hnm;have HBA:Hid (Below w.heap.size w ((wr.alloc (.cells #[.int .i64 d.kind,.string d.name,.bool d.pub,.int .i64 d.n] 170)).alloc (.cells #[.int .i64 d.kind,.int .i64 d.n,.int .i64 dt,.string d.name] 98))):=thenB HB.out (bl2 _ _ _);have HX1:Hid (((wr.alloc (.cells #[.int .i64 d.kind,.string d.name,.bool d.pub,.int .i64 d.n] 170)).alloc (.cells #[.int .i64 d.kind,.int .i64 d.n,.int .i64 dt,.string d.name] 98)).heap[w.heap.size]? = some (.cells #[.string m.name,.slice a1 m.uses.length c1,.slice (some ⟨b,off,none⟩) m.decls.length c2,.slice a3 m.procs.length c3,.slice a4 m.main.length c4] 27)):=zad (zad HM0.out)
      have b2:(d.kind == 2)=false:=by rw [hk3'];rfl
      have b3:(d.kind == 3)=true:=by rw [hk3'];rfl
      clear hnm hk1 hk3 h33 hk2 hk3' hdn
      go_wp2_with (at_builtin;refine zbm rfl (.tmp 41) (.tmp 43) 28 rfl (w.heap.size+1) 98 _ 4 40 Tryz.underlying28 Tryz.infoItem rfl (by decide) ((wr.alloc (.cells #[.int .i64 d.kind,.string d.name,.bool d.pub,.int .i64 d.n] 170)).alloc (.cells #[.int .i64 d.kind,.int .i64 d.n,.int .i64 dt,.string d.name] 98)) u4 acc.length (zfe acc) (itD ⟨d.kind,d.n,dt,d.name⟩) rfl HO1.out #[.int .i64 d.kind,.int .i64 d.n,.int .i64 dt,.string d.name] _ (by simp) rfl rfl (fun _=>False) HE1.out (fun b _ h=>h.elim) (by omega) (by decide) (by simp;omega) ?_)
      intro g5 c5 w5 HO5 HB5 hz5;have HO5':=hid HO5;have HB5':=hid HB5;clear HO5 HB5 HO1 HE1;go_wp2_with fail;go_roundw
      case rel=>exact ⟨j+1,acc++[_],_,by omega,by go_num,rfl,by simp [hacc],HSn.out.trans (by rw [HX.out,HN.out]),by rw [zet,vao,hacc];exact HO5'.out,(HB5'.out.block _ (by omega)).trans HX1.out,HBA.out.trans (HB5'.out.mono (by omega))⟩
      case measure=>simp [intOf];omega
    have HX:Hid (layIt dt d=⟨d.kind,d.n,0,d.name⟩):=by show layIt dt d=_;unfold layIt;rw [if_neg (by omega)]
    have HN:Hid (zcc dt d=dt):=by show zcc dt d=_;unfold zcc;rw [if_neg hk2,if_neg hk3']
    have HO1:Hid (Row (w.heap.size+1) 98 4 ((wr.alloc (.cells #[.int .i64 d.kind,.string d.name,.bool d.pub,.int .i64 d.n] 170)).alloc (.cells #[.int .i64 d.kind,.int .i64 d.n,.int .i64 0,.string d.name] 98)) u4 acc.length (zfe acc)):=(HO.out.alloc _).alloc _;have HE1:Hid (zap ((wr.alloc (.cells #[.int .i64 d.kind,.string d.name,.bool d.pub,.int .i64 d.n] 170)).alloc (.cells #[.int .i64 d.kind,.int .i64 d.n,.int .i64 0,.string d.name] 98)) (fun _=>False) (itD ⟨d.kind,d.n,0,d.name⟩) [.int .i64 d.kind,.int .i64 d.n,.int .i64 0,.string d.name]):=ze8 hnm;have HBA:Hid (Below w.heap.size w ((wr.alloc (.cells #[.int .i64 d.kind,.string d.name,.bool d.pub,.int .i64 d.n] 170)).alloc (.cells #[.int .i64 d.kind,.int .i64 d.n,.int .i64 0,.string d.name] 98))):=thenB HB.out (bl2 _ _ _);have HX1:Hid (((wr.alloc (.cells #[.int .i64 d.kind,.string d.name,.bool d.pub,.int .i64 d.n] 170)).alloc (.cells #[.int .i64 d.kind,.int .i64 d.n,.int .i64 0,.string d.name] 98)).heap[w.heap.size]? = some (.cells #[.string m.name,.slice a1 m.uses.length c1,.slice (some ⟨b,off,none⟩) m.decls.length c2,.slice a3 m.procs.length c3,.slice a4 m.main.length c4] 27)):=zad (zad HM0.out)
    have b2:(d.kind == 2)=false:=beq_eq_false_iff_ne.2 hk2;have b3:(d.kind == 3)=false:=beq_eq_false_iff_ne.2 hk3';clear hnm hk1 hk3 h33 hk2 hk3'
    go_wp2_with (at_builtin;refine zbm rfl (.tmp 41) (.tmp 43) 28 rfl (w.heap.size+1) 98 _ 4 40 Tryz.underlying28 Tryz.infoItem rfl (by decide) ((wr.alloc (.cells #[.int .i64 d.kind,.string d.name,.bool d.pub,.int .i64 d.n] 170)).alloc (.cells #[.int .i64 d.kind,.int .i64 d.n,.int .i64 0,.string d.name] 98)) u4 acc.length (zfe acc) (itD ⟨d.kind,d.n,0,d.name⟩) rfl HO1.out #[.int .i64 d.kind,.int .i64 d.n,.int .i64 0,.string d.name] _ (by simp) rfl rfl (fun _=>False) HE1.out (fun b _ h=>h.elim) (by omega) (by decide) (by simp;omega) ?_)
    intro g5 c5 w5 HO5 HB5 hz5;have HO5':=hid HO5;have HB5':=hid HB5;clear HO5 HB5 HO1 HE1;go_wp2_with fail;go_roundw
    case rel=>exact ⟨j+1,acc++[_],_,by omega,by go_num,rfl,by simp [hacc],HSn.out.trans (by rw [HX.out,HN.out]),by rw [zet,vao,hacc];exact HO5'.out,(HB5'.out.block _ (by omega)).trans HX1.out,HBA.out.trans (HB5'.out.mono (by omega))⟩
    case measure=>simp [intOf];omega
  . obtain rfl:j=m.decls.length:=by omega
    have HL0:Hid (layD 0 m.decls=(acc,dt)):=by have:=HLa.out;rw [vav] at this;exact this
    have HO0:Hid (Row (w.heap.size+1) 98 4 wr u4 m.decls.length (zfe acc)):=hacc ▸ HO.out;obtain ⟨k0,k1,k2,k3,k4,kf⟩:=zac HM0.out;clear HLa hbx HO;go_wp2_with fail;clear k0 k1 k2 k3 k4 kf
    go_loopw [4,9,10,49] (fun v _ _ i wr=>∃ (j:Nat) (ac2:List It),j<=m.procs.length/\i = .int .i64 j/\ac2.length=m.decls.length+j/\ac2=acc++prIts 0 (m.procs.take j)/\Row (w.heap.size+1) 98 4 wr v ac2.length (zfe ac2)/\wr.heap[w.heap.size]? = some (.cells #[.string m.name,.slice a1 m.uses.length c1,.slice a2 m.decls.length c2,.slice a3 m.procs.length c3,.slice a4 m.main.length c4] 27)/\Below w.heap.size w wr) (fun _ _ _ i _=>m.procs.length - (intOf i).toNat)
    case atStart=>exact ⟨0,acc,vad _,rfl,by rw [hacc,Nat.add_zero],by simp [prIts],hacc ▸ HO0.out,HM0.out,HB.out⟩
    case round=>
     clear HO0 HM0 HB hzr hxlt;obtain ⟨j,ac2,hj2,rfl,hac2,hdef,hrow,hbx,hb⟩:=hrel;have HO:=hid hrow;have HM0:=hid hbx;have HB:=hid hb;have HDf:=hid hdef;have hzr:=hb.size;have hxlt:=zaa hbx;clear hrow hb hdef
     by_cases hlt:j<m.procs.length
     . obtain ⟨b,off,q1,d1,q2,d2,q3,d3,rfl,hx⟩:=(HPr.out.later HB.out).pr j hlt
       obtain ⟨hbl,x0,x1,x2,x3,x4,_,_,_,hnm⟩:=hx
       have HSn:Hid (ac2++[zts j m.procs[j]]=acc++prIts 0 (m.procs.take (j+1))):=by
        show ac2++[zts j m.procs[j]]=_;rw [vag hlt,zh9,HDf.out,vds,vbu,vdl (by omega),vbc]
       generalize m.procs[j]=p at *;have HO1:Hid (Row (w.heap.size+1) 98 4 (wr.alloc (pU p q1 d1 q2 d2 q3 d3)) u4 ac2.length (zfe ac2)):=HO.out.alloc _;have HE1:Hid (zap (wr.alloc (pU p q1 d1 q2 d2 q3 d3)) (fun _=>False) (itD (zts j p)) [.int .i64 4,.int .i64 p.params.length,.int .i64 j,.string p.name]):=ze8 hnm;have HBA:Hid (Below w.heap.size w (wr.alloc (pU p q1 d1 q2 d2 q3 d3))):=thenB HB.out (al1 _ _);have HX1:Hid ((wr.alloc (pU p q1 d1 q2 d2 q3 d3)).heap[w.heap.size]? = some (.cells #[.string m.name,.slice a1 m.uses.length c1,.slice a2 m.decls.length c2,.slice (some ⟨b,off,none⟩) m.procs.length c3,.slice a4 m.main.length c4] 27)):=zad HM0.out;clear hnm hbx
       go_wp2_with (at_builtin;refine zbm rfl (.tmp 54) (.tmp 62) 28 rfl (w.heap.size+1) 98 _ 4 40 Tryz.underlying28 Tryz.infoItem rfl (by decide) (wr.alloc (pU p q1 d1 q2 d2 q3 d3)) u4 ac2.length (zfe ac2) (itD (zts j p)) rfl HO1.out #[.int .i64 4,.int .i64 p.params.length,.int .i64 j,.string p.name] _ (by simp) rfl rfl (fun _=>False) HE1.out (fun b _ h=>h.elim) (by omega) (by decide) (by simp;omega) ?_)
       intro g5 c5 w5 HO5 HB5 hz5;have HO5':=hid HO5;have HB5':=hid HB5;clear HO5 HB5 HO1 HE1;go_wp2_with fail;go_roundw
       case rel=>exact ⟨j+1,ac2++[zts j p],by omega,by go_num,by simp [hac2];omega,HSn.out,by rw [zet,vao,hac2];exact HO5'.out,(HB5'.out.block _ (by omega)).trans HX1.out,HBA.out.trans (HB5'.out.mono (by omega))⟩
       case measure=>simp [intOf];omega
     . obtain rfl:j=m.procs.length:=by omega
       have HI:Hid (layItems m=ac2):=by
        show layItems m=ac2;rw [HDf.out,vav];unfold layItems;rw [HL0.out]
       have HDt:Hid (zav m=dt):=by show zav m=dt;unfold zav;rw [HL0.out]
       obtain ⟨a5,c5,rfl,hea⟩:=HO.out.slice;have HEA:=hid hea;clear hea hbx;go_wp2_with fail;go_ret2;refine ⟨⟨a5,c5,?_,?_⟩,HB.out⟩
       . rw [HI.out,HDt.out,hac2];rfl
       . rw [HI.out]
         exact HEA.out.moves ⟨vaa _,fun b _ h=>⟨by have:w.heap.size+1<=b:=h;show w.heap.size<=b;omega,rfl⟩⟩
set_option maxHeartbeats 1600000
def chkM (m:Mo):Int:=if m.err≠0 then m.err else if Fx.zd9 (Fx.zbk m.uses)||Fx.zd9 (Fx.zbs (layItems m)) then 6 else 0
theorem zek {w:World} {A:Nat->Prop} {a:OA} {l:List ByteArray} (h:DAt w A a l.length (zan l)):Fx.zd2 w a l/\∀ s ∈ l,s.size<=maxLen:=by
 refine ⟨?_,fun s hs=>?_⟩
 . rcases h.2.2 with h0 | ⟨b,off,cs,ha,_,hb,hc,hx⟩
   . exact Or.inl (vaj h0)
   . refine Or.inr ⟨b,off,ha,hb,fun i hi=>?_⟩
     obtain ⟨v,hv,hd⟩:=hx.get i (.str l[i]) (by simp [zan,hi]);rw [(zdm hd).1] at hv;exact hc i _ hv
 . obtain ⟨i,hi,rfl⟩:=vay hs
   obtain ⟨b,off,_,_,_,h4⟩:=h.str i hi;exact h4
theorem zom {m:Mo} {v:Value} {a1 a2 a3 a4:OA} {c1 c2 c3 c4:Nat} {w:World} (hM:MoAt w Tt m v a1 c1 a2 c2 a3 c3 a4 c4) (h3:m.uses.length<=3) :
 Calls Tryz.prog 59 #[.slice a1 m.uses.length c1] w fun e w'=>e = .returned (.bool (Fx.zd9 (Fx.zbk m.uses)))/\Below w.heap.size w w':=
 Fx.zfb a1 c1 m.uses w (zek hM.uses).1 (by omega) (zek hM.uses).2
theorem zqb {w:World} {B:Nat} {v:Value} {l:List It} (h:w.ownsRow B 9 1 v l.length (Fx.strs l)) (hl:l.length<=1000000) (hf:Fx.AllFit l) :
 Calls Tryz.prog 59 #[v] w fun e w'=>e = .returned (.bool (Fx.zd9 (Fx.zbs l)))/\Below w.heap.size w w':=by
 obtain ⟨a,c,rfl,hS⟩:=Fx.zi7 h;rw [← Fx.zfc]
 exact Fx.zfb a c _ w hS (by rw [vbm];omega) (fun s h=>by
  obtain ⟨i,hi,rfl⟩:=vcg.1 h
  exact hf i hi)
theorem zfp (m:Mo) (v:Value) (a1:OA) (c1:Nat) (a2:OA) (c2:Nat) (a3:OA) (c3:Nat) (a4:OA) (c4:Nat) (w:World) (hM:MoAt w Tt m v a1 c1 a2 c2 a3 c3 a4 c4) :
 Calls Tryz.prog 48 #[v] w fun e w'=>e = .returned (.int .i64 (chkM m))/\Below w.heap.size w w':=by
 obtain rfl:=hM.val;have HM:=hid hM;have HC:=hid (zk6 m _ a1 c1 a2 c2 a3 c3 a4 c4 (w.alloc (.cells #[.string m.name,.slice a1 m.uses.length c1,.slice a2 m.decls.length c2,.slice a3 m.procs.length c3,.slice a4 m.main.length c4] 27)) (hM.later (al1 _ _)));clear hM
 obtain ⟨r,hr⟩:∃ r,r=chkM m:=⟨_,rfl⟩
 rw [← hr];have HR:=hid hr;clear hr;go_enter Tryz.func48,Tryz.ntmps48;go_wp2_with fail;refine HC.out.mono ?_;rintro e w1 ⟨rfl,hb1⟩;have HB1:=hid (thenB (al1 w _) hb1);have hz1:=hb1.size;simp at hz1;have q1:=(hb1.block _ (by simp)).trans (heap_newP w _);have HQ1:=hid q1;obtain ⟨x0,x1,x2,x3,x4,xf⟩:=zac q1;have hl1:=zaa q1;clear hb1 q1 HC
 by_cases he:m.err=0
 . have hlay:=zol he
   have hu3:=(zc5 he).1;have HC2:=hid (zib m _ a1 c1 a2 c2 a3 c3 a4 c4 w1 (HM.out.later HB1.out) hlay);have HR2:Hid (r=if Fx.zd9 (Fx.zbk m.uses)||Fx.zd9 (Fx.zbs (layItems m)) then 6 else 0):=HR.out.trans (if_neg (by simp [he]))
   have HL16:Hid ((layItems m).length<=16):=by have h1:=hlay.decls;have h2:=hlay.procs;show (layItems m).length<=16;rw [zc4];omega
   clear hlay HR;go_wp2_with fail;refine HC2.out.mono ?_;rintro e w2 ⟨⟨ai,ci,rfl,hit⟩,hb2⟩;have HB2:=hid (thenB HB1.out hb2);have hz2:=hb2.size;have HQ2:=hid ((hb2.block _ hl1).trans HQ1.out);obtain ⟨HI,HF⟩:=zfz hit;have HIt:=hid HI;have HFi:=hid HF;clear hb2 HC2 hit HI HF x0 x1 x2 x3 x4 xf;obtain ⟨x0,x1,x2,x3,x4,xf⟩:=zac HQ2.out;have hl2:=zaa HQ2.out;have HC3:=hid (zom (HM.out.later HB2.out) hu3)
   cases hd1:Fx.zd9 (Fx.zbk m.uses) with
   | true=>
     rw [hd1] at HC3 HR2;have HR3:Hid (r=6):=HR2.out;clear hd1 HR2;go_wp2_with fail;refine HC3.out.mono ?_;rintro e w3 ⟨rfl,hb3⟩;have HB3:=hid (thenB HB2.out hb3);clear hb3;go_wp2_with fail;go_ret;exact ⟨zaq HR3.out.symm,HB3.out⟩
   | false=>
     rw [hd1] at HC3 HR2;clear hd1;go_wp2_with fail;refine HC3.out.mono ?_;rintro e w3 ⟨rfl,hb3⟩;have HB3:=hid (thenB HB2.out hb3);have HC4:=hid (Fx.zhv ai ci (layItems m) w3 (HIt.out.later hb3) (by have:=HL16.out;omega));clear hb3;go_wp2_with fail;refine HC4.out.mono ?_;rintro e w4 ⟨v4,rfl,ho4,hb4⟩;have HB4:=hid (thenB HB3.out hb4);have HC5:=hid (zqb ho4 (by have:=HL16.out;omega) HFi.out);clear hb4 ho4;go_wp2_with fail;refine HC5.out.mono ?_;rintro e w5 ⟨rfl,hb5⟩;have HB5:=hid (thenB HB4.out hb5);clear hb5
     cases hd2:Fx.zd9 (Fx.zbs (layItems m)) with
     | true=>
       have HR3:Hid (r=6):=HR2.out.trans (by rw [hd2];rfl);clear hd2 HR2;go_wp2_with fail;go_ret;exact ⟨zaq HR3.out.symm,HB5.out⟩
     | false=>
       have HR3:Hid (r=0):=HR2.out.trans (by rw [hd2];rfl);clear hd2 HR2;go_wp2_with fail;go_ret;exact ⟨zaq HR3.out.symm,HB5.out⟩
 . have HR2:Hid (r=m.err):=HR.out.trans (if_pos he)
   go_wp2_with fail;go_ret;exact ⟨zaq HR2.out.symm,HB1.out⟩
theorem zyd:laidOutB Tryz.prog=true:=by kernel_rfl
theorem zye:Tryz.prog.keyType 244=true:=by kernel_rfl
theorem zm6:Keyed Tryz.prog 244:=Keyed.of_law (deep_law_laid zyd (m:=3) (by decide) (of_decide_eq_true (by kernel_rfl)) (by kernel_rfl) (by kernel_rfl))
def zim (mod name:ByteArray):Lit:=.string (keyBytes [.string mod.data.toList,.string name.data.toList])
theorem zhp (mod name:ByteArray) (h1:mod.size<=maxLen) (h2:name.size<=maxLen):keyOf Tryz.prog 244 (.agg #[.string mod,.string name])=some (zim mod name):=by
 have hf:(Value.agg #[.string mod,.string name]).formed Tryz.prog 244=true:=by kernel_rfl
 have hl:Tryz.prog.keyLits (Tryz.prog.types.size+1) 244 (Value.agg #[.string mod,.string name]).cells.toList=some [.string mod.data.toList,.string name.data.toList]:=by
  have h0:0<Tryz.prog.types.size:=of_decide_eq_true (by kernel_rfl)
  obtain ⟨k,hk⟩:∃ k,Tryz.prog.types.size=k+1:=⟨Tryz.prog.types.size - 1,by omega⟩
  rw [hk]
  have hs:∀ s:ByteArray,s.size<=maxLen->Tryz.prog.keyLits (k+1) 9 [.string s]=some [.string s.data.toList]:=fun s h=>by
   unfold Program.keyLits;rw [Tryz.underlying9];exact if_pos h
  have e:(Value.agg #[.string mod,.string name]).cells.toList=[.string mod,.string name]:=rfl
  have c2:Tryz.prog.cellsOf 244=2:=by kernel_rfl
  have c9:Tryz.prog.cellsOf 9=1:=by kernel_rfl
  rw [e];unfold Program.keyLits;rw [Tryz.underlying244];simp [c2,c9,hs mod h1,hs name h2]
 unfold keyOf;rw [Tryz.underlying244];simp only [zye,hf,hl]
 rfl
theorem zwe {a b c d:ByteArray} (h1:a.size<=maxLen) (h2:b.size<=maxLen) (h3:c.size<=maxLen) (h4:d.size<=maxLen) (h:¬ (a=c/\b=d)):zim a b≠zim c d:=fun e=>by
 have k1:=zhp a b h1 h2;have k2:=zhp c d h3 h4;rw [← e] at k2;have:=zm6.inj k1 k2
 injection this with this
 have:=congrArg Array.toList this;simp at this;exact h this
def zzb (K:Kn) (mod name:ByteArray) (x:Mg):Kn:=fun a b=>if a=mod/\b=name then some x else K a b
def z15 (D:DataW Value) (K:Kn):Prop:=∀ a b:ByteArray,a.size<=maxLen->b.size<=maxLen->has D (zim a b)=(K a b).isSome/\D.atKey (zim a b) (.held mg0.val) = .held ((K a b).getD mg0).val
theorem z15.put {D:DataW Value} {K:Kn} (h:z15 D K) (hD:IsMap D) (mod name:ByteArray) (h1:mod.size<=maxLen) (h2:name.size<=maxLen) (x:Mg):z15 (D.put (zim mod name) (.held x.val)) (zzb K mod name x):=by
 intro a b ha hb
 by_cases e:a=mod/\b=name
 . obtain ⟨rfl,rfl⟩:=e
   simp only [zzb,and_self,if_true];exact ⟨has_put_same (k:=zim a b) hD trivial _,atKey_put_same (k:=zim a b) hD trivial _ _⟩
 . have hne:=zwe ha hb h1 h2 e
   simp only [zzb,if_neg e];rw [has_put_other hne,atKey_put_other hne];exact h a b ha hb
def zkn (w:World) (b n:Nat) (K:Kn):Prop:=∃ D,w.ownsMap Tryz.prog 244 zv6 b n D/\z15 D K
theorem zkn.lt {w:World} {b n:Nat} {K:Kn} (h:zkn w b n K):b<w.heap.size:=by obtain ⟨D,h1,_⟩:=h;exact h1.lt
theorem zkn.block {w w':World} {b n:Nat} {K:Kn} (h:zkn w b n K) (hb:w'.heap[b]? = w.heap[b]?):zkn w' b n K:=by
 obtain ⟨D,h1,h2⟩:=h;obtain ⟨es,clock,hb',r⟩:=h1;exact ⟨D,⟨es,clock,hb.trans hb',r⟩,h2⟩
theorem zkn.later {w w':World} {b n:Nat} {K:Kn} (h:zkn w b n K) (hb:Below w.heap.size w w'):zkn w' b n K:=h.block (hb.block b h.lt)
theorem zkn.made (w:World):zkn (w.alloc (.map #[] 0)) w.heap.size 0 (fun _ _=>none):=⟨.map [],veh w _ _ _,fun _ _ _ _=>⟨rfl,rfl⟩⟩
theorem z1v (w:World):(zeroValue 242).run Tryz.prog w = .ok mg0.val w:=by kernel_rfl
theorem zkn.known {w:World} {b n:Nat} {K:Kn} (h:zkn w b n K):zk0 w (.map (some b)) K:=by
 intro w' hb mod name h1 h2;obtain ⟨D,k1,k2⟩:=h.later hb;obtain ⟨v,ps,hrun,hv⟩:=k1.look_ok zm6 Tryz.underlying187 (z1v w') (zd:=.held mg0.val) (zp:=[]) rfl (zhp mod name h1 h2);rw [(k2 mod name h1 h2).2] at hv;simp only [zv6,vcx,vdu,vdv] at hv;rw [hrun,hv.1,(k2 mod name h1 h2).1]
theorem zkn.put {w:World} {b n:Nat} {K:Kn} (h:zkn w b n K) (hn:n<maxLen) (mod name:ByteArray) (h1:mod.size<=maxLen) (h2:name.size<=maxLen) (x:Mg) :
 ∃ w',(Instr.mapUpdate 187 (.map (some b)) (.agg #[.string mod,.string name]) x.val).run Tryz.prog w = .ok () w'/\zkn w' b (n+1) (zzb K mod name x)/\w.grownBy w' (some b):=by
 obtain ⟨D,k1,k2⟩:=h;obtain ⟨w',r1,r2,r3⟩:=k1.update zm6 Tryz.underlying187 hn (zhp mod name h1 h2) (val:=x.val) (d:=.held x.val) (ps:=[]) rfl;exact ⟨w',r1,⟨_,r2,k2.put k1.isMap mod name h1 h2 x⟩,r3⟩
theorem Keeps.grown {R:Nat} {w w1 w2:World} (h:Keeps R w w1) (hg:w1.grownBy w2 (some R)):Keeps R w w2:=
 h.trans ⟨hg.os,hg.tape,hg.output,hg.size,fun k h1 h2=>hg.block k h1 (fun e=>h2 (vac e))⟩
def zko (m:Int) (i:It):Mg:=⟨i.kind,i.n,m,i.at_⟩
def zhq (K:Kn) (mod:ByteArray) (m:Int) (l:List It):Kn:=l.foldl (fun K i=>zzb K mod i.name (zko m i)) K
theorem zl5 (K:Kn) (mod:ByteArray) (m:Int) (l:List It) (i:It):zhq K mod m (l++[i])=zzb (zhq K mod m l) mod i.name (zko m i):=by
 unfold zhq;rw [vcl];rfl
theorem zkb (K:Kn) (b n:Nat) (mod:ByteArray) (mm:Int) (l:List It) (a:OA) (cap:Nat) (w:World) (hK:zkn w b n K) (hm:mod.size<=maxLen) (hI:Fx.zbp w a l) (hF:Fx.AllFit l) (hl:l.length<=1000) (hn:n<=1000) (hab:∀ b' off,l≠[]->a=some ⟨b',off,none⟩->b'≠b) :
 Calls Tryz.prog 119 #[.agg #[.map (some b)],.string mod,.int .i64 mm,.slice a l.length cap] w fun e w'=>e = .returned (.tuple #[])/\zkn w' b (n+l.length) (zhq K mod mm l)/\Keeps b w w':=by
 have HI:=hid hI;have HF:=hid hF;have HK:=hid hK;have HAB:=hid hab;have hbw:=hK.lt;clear hI hF hK hab;go_enter Tryz.func119,Tryz.ntmps119;go_wp2_with fail
 go_loopw [9,12] (fun _ i wr=>∃ j:Nat,j<=l.length/\i = .int .i64 j/\zkn wr b (n+j) (zhq K mod mm (l.take j))/\wr.heap[w.heap.size]? = some (.cells #[.map (some b)] 189)/\Keeps b w wr) (fun _ i _=>l.length - (intOf i).toNat)
 case atStart=>exact ⟨0,vad _,rfl,HK.out.later (al1 _ _),heap_newP _ _,(Keeps.refl _ _).alloc _⟩
 case round=>
  obtain ⟨j,hj,rfl,hk,hbx,hke⟩:=hrel;have HKj:=hid hk;have HX:=hid hbx;have HE:=hid hke;have hzr:=hke.size;have hxlt:=zaa hbx;clear hk hke
  by_cases hlt:j<l.length
  . obtain ⟨b2,off,rfl,hbl,c0,c1,c2,c3⟩:=HI.out.place hlt
    have hne:=HAB.out b2 off (fun h=>by rw [h] at hlt;simp at hlt) rfl;have d0:=(HE.out.cell (off:=off+j*4) hbl hne).trans c0;have d1:=(HE.out.cell (off:=off+j*4+1) hbl hne).trans c1;have d2:=(HE.out.cell (off:=off+j*4+2) hbl hne).trans c2;have d3:=(HE.out.cell (off:=off+j*4+3) hbl hne).trans c3;have hbl':b2<wr.heap.size:=vai hbl hzr;have hnm:=HF.out l[j] (vah _)
    have HSn:Hid (zzb (zhq K mod mm (l.take j)) mod l[j].name (zko mm l[j])=zhq K mod mm (l.take (j+1))):=by
     show _=zhq K mod mm (l.take (j+1));rw [vag hlt,zl5]
    generalize l[j]=x at *;obtain ⟨w2,hrun,hK2,hg2⟩:=(HKj.out.later (al1 _ (.cells #[.int .i64 x.kind,.int .i64 x.n,.int .i64 x.at_,.string x.name] 98))).put (by unfold maxLen;omega) mod x.name hm hnm (zko mm x);simp only [Mg.val,zko] at hrun;rw [HSn.out] at hK2;have HK2:=hid hK2;have HE2:=hid ((HE.out.alloc _).grown hg2);have HX2:Hid (w2.heap[w.heap.size]? = some (.cells #[.map (some b)] 189)):=(hg2.block _ (by simp;omega) (fun e=>by have:=vac e;omega)).trans (zad HX.out)
    have k0:wr.cell? ⟨w.heap.size,0,none⟩=some (.map (some b)):=by rw [veb HX.out];rfl
    clear c0 c1 c2 c3 hK2 hg2 hbx hnm;go_wp2_with fail;go_roundw
    case rel=>exact ⟨j+1,by omega,by go_num,by rw [← vbj];exact HK2.out,HX2.out,HE2.out⟩
    case measure=>simp [intOf];omega
  . obtain rfl:j=l.length:=by omega
    have HKl:Hid (zkn wr b (n+l.length) (zhq K mod mm l)):=by have:=HKj.out;rw [vav] at this;exact this
    clear hbx;go_wp2_with fail;go_end0;exact ⟨rfl,HKl.out,HE.out⟩
set_option maxHeartbeats 3200000
def pick (bs:List Bool) (l:List It):List It:=(bs.zip l).filterMap fun p=>if p.1 then some p.2 else none
def zgt (m:Mo):List Bool:=m.decls.map De.pub++m.procs.map Pr.pub
def zf0 (m:Mo):List It:=pick (zgt m) (layItems m)
theorem ze9 (m:Mo):(zgt m).length=m.decls.length+m.procs.length:=by simp [zgt]
theorem zwf (m:Mo) (j:Nat) (h:j<m.decls.length):(zgt m)[j]'(by rw [ze9];omega)=m.decls[j].pub:=by
 unfold zgt;rw [vck (by simpa using h)];simp
theorem zwg (m:Mo) (j:Nat) (h:j<m.procs.length):(zgt m)[m.decls.length+j]'(by rw [ze9];omega)=m.procs[j].pub:=by
 unfold zgt;rw [List.getElem_append_right (by simp)];simp
theorem zkc (bs:List Bool) (l:List It) (k:Nat) (hb:k<bs.length) (hl:k<l.length):pick (bs.take (k+1)) (l.take (k+1))=pick (bs.take k) (l.take k)++if bs[k] then [l[k]] else []:=by
 unfold pick;rw [vag hb,vag hl,List.zip_append (by simp;omega),List.filterMap_append]
 congr 1
 cases bs[k]<;>rfl
theorem zwh (m:Mo) (v:Value) (a1:OA) (c1:Nat) (a2:OA) (c2:Nat) (a3:OA) (c3:Nat) (a4:OA) (c4:Nat) (items:List It) (ai:OA) (ci:Nat) (w:World) (hM:MoAt w Tt m v a1 c1 a2 c2 a3 c3 a4 c4) (hok:LayOk m) (hlen:items.length=m.decls.length+m.procs.length) (hI:Fx.zbp w ai items) (hF:Fx.AllFit items) :
 Calls Tryz.prog 50 #[v,.slice ai items.length ci] w fun e w'=>(∃ a cap,e = .returned (.slice a (pick (zgt m) items).length cap)/\EAt w' (w.heap.size<=·) a (pick (zgt m) items).length (zfe (pick (zgt m) items)))/\Below w.heap.size w w':=by
 obtain rfl:=hM.val;have HDe:=hid hM.decls;have HPr:=hid hM.procs;have HIt:=hid hI;have HFi:=hid hF;have HLn:=hid hlen;have hd10:=hok.decls;have hp6:=hok.procs;clear hM hok hI hF hlen;go_enter Tryz.func50,Tryz.ntmps50;go_wp2_with fail
 go_loopw [5,6,7,13] (fun v _ _ i wr=>∃ (j:Nat) (acc:List It),j<=m.decls.length/\i = .int .i64 j/\acc.length<=j/\acc=pick ((zgt m).take j) (items.take j)/\Row (w.heap.size+1) 98 4 wr v acc.length (zfe acc)/\wr.heap[w.heap.size]? = some (.cells #[.string m.name,.slice a1 m.uses.length c1,.slice a2 m.decls.length c2,.slice a3 m.procs.length c3,.slice a4 m.main.length c4] 27)/\Below w.heap.size w wr) (fun _ _ _ i _=>m.decls.length - (intOf i).toNat)
 case atStart=>exact ⟨0,[],vad _,rfl,vaa _,by simp [pick],Row.nil _ _ _ _,heap_newP _ _,al1 _ _⟩
 case round=>
  obtain ⟨j,acc,hj,rfl,hacc,hdef,hrow,hbx,hb⟩:=hrel;have HO:=hid hrow;have HM0:=hid hbx;have HB:=hid hb;have HDf:=hid hdef;have hzr:=hb.size;have hxlt:=zaa hbx;clear hrow hb hdef
  by_cases hlt:j<m.decls.length
  . have hji:j<items.length:=by have:=HLn.out;omega
    have HSn:Hid (pick ((zgt m).take (j+1)) (items.take (j+1))=acc++if m.decls[j].pub then [items[j]] else []):=by
     show pick ((zgt m).take (j+1)) (items.take (j+1))=_;rw [zkc _ _ j (by rw [ze9];omega) hji,zwf m j hlt,← HDf.out]
    have hnx:=HFi.out items[j] (vah _);have HIj:=hid ((HIt.out.later HB.out).place hji);obtain ⟨b,off,rfl,hx⟩:=(HDe.out.later HB.out).de j hlt;obtain ⟨hbl,x0,x1,xp,x3,_,_,hnm⟩:=hx;obtain ⟨b2,off2,rfl,hbl2,i0,i1,i2,i3⟩:=HIj.out
    have hjn:(j:Int)<items.length:=by omega
    clear HIj;generalize m.decls[j]=d at *;generalize items[j]=x at *
    cases hpub:d.pub with
    | true=>
      have HO1:Hid (Row (w.heap.size+1) 98 4 (wr.alloc (.cells #[.int .i64 d.kind,.string d.name,.bool d.pub,.int .i64 d.n] 170)) u5 acc.length (zfe acc)):=HO.out.alloc _;have HE1:Hid (zap (wr.alloc (.cells #[.int .i64 d.kind,.string d.name,.bool d.pub,.int .i64 d.n] 170)) (fun _=>False) (itD x) [.int .i64 x.kind,.int .i64 x.n,.int .i64 x.at_,.string x.name]):=ze8 hnx;have HX1:Hid ((wr.alloc (.cells #[.int .i64 d.kind,.string d.name,.bool d.pub,.int .i64 d.n] 170)).heap[w.heap.size]? = some (.cells #[.string m.name,.slice a1 m.uses.length c1,.slice (some ⟨b,off,none⟩) m.decls.length c2,.slice a3 m.procs.length c3,.slice a4 m.main.length c4] 27)):=zad HM0.out;have HBA:Hid (Below w.heap.size w (wr.alloc (.cells #[.int .i64 d.kind,.string d.name,.bool d.pub,.int .i64 d.n] 170))):=thenB HB.out (al1 _ _);have HSt:Hid (pick ((zgt m).take (j+1)) (items.take (j+1))=acc++[x]):=HSn.out.trans (by rw [hpub];rfl)
      rw [hpub] at HO1 HE1 HX1 HBA;clear hnx hbx HSn;rw [hpub] at xp
      go_wp2_with (at_builtin;refine zbm rfl (.tmp 20) (.tmp 25) 28 rfl (w.heap.size+1) 98 _ 4 40 Tryz.underlying28 Tryz.infoItem rfl (by decide) (wr.alloc (.cells #[.int .i64 d.kind,.string d.name,.bool true,.int .i64 d.n] 170)) u5 acc.length (zfe acc) (itD x) rfl HO1.out #[.int .i64 x.kind,.int .i64 x.n,.int .i64 x.at_,.string x.name] _ (by simp) rfl rfl (fun _=>False) HE1.out (fun b _ h=>h.elim) (by omega) (by decide) (by simp;omega) ?_)
      intro g5 c5 w5 HO5 HB5 hz5;have HO5':=hid HO5;have HB5':=hid HB5;clear HO5 HB5 HO1 HE1;go_wp2_with fail;go_roundw
      case rel=>exact ⟨j+1,acc++[x],by omega,by go_num,by rw [vao];simp;omega,HSt.out.symm,by rw [zet,vao];exact HO5'.out,(HB5'.out.block _ (by omega)).trans HX1.out,HBA.out.trans (HB5'.out.mono (by omega))⟩
      case measure=>simp [intOf];omega
    | false=>
      have HO1:Hid (Row (w.heap.size+1) 98 4 (wr.alloc (.cells #[.int .i64 d.kind,.string d.name,.bool d.pub,.int .i64 d.n] 170)) u5 acc.length (zfe acc)):=HO.out.alloc _;have HX1:Hid ((wr.alloc (.cells #[.int .i64 d.kind,.string d.name,.bool d.pub,.int .i64 d.n] 170)).heap[w.heap.size]? = some (.cells #[.string m.name,.slice a1 m.uses.length c1,.slice (some ⟨b,off,none⟩) m.decls.length c2,.slice a3 m.procs.length c3,.slice a4 m.main.length c4] 27)):=zad HM0.out;have HBA:Hid (Below w.heap.size w (wr.alloc (.cells #[.int .i64 d.kind,.string d.name,.bool d.pub,.int .i64 d.n] 170))):=thenB HB.out (al1 _ _);have HSt:Hid (pick ((zgt m).take (j+1)) (items.take (j+1))=acc):=HSn.out.trans (by rw [hpub];simp);rw [hpub] at HO1 HX1 HBA;clear hnx hbx HSn;rw [hpub] at xp;go_wp2_with fail;go_roundw
      case rel=>exact ⟨j+1,acc,by omega,by go_num,by omega,HSt.out.symm,HO1.out,HX1.out,HBA.out⟩
      case measure=>simp [intOf];omega
  . obtain rfl:j=m.decls.length:=by omega
    have HD0:Hid (acc=pick ((zgt m).take m.decls.length) (items.take m.decls.length)):=HDf.out;obtain ⟨k0,k1,k2,k3,k4,kf⟩:=zac HM0.out;clear HDf hbx;go_wp2_with fail;clear k0 k1 k2 k3 k4 kf
    go_loopw [5,8,9,31] (fun v _ _ i wr=>∃ (j:Nat) (acc:List It),j<=m.procs.length/\i = .int .i64 j/\acc.length<=m.decls.length+j/\acc=pick ((zgt m).take (m.decls.length+j)) (items.take (m.decls.length+j))/\Row (w.heap.size+1) 98 4 wr v acc.length (zfe acc)/\wr.heap[w.heap.size]? = some (.cells #[.string m.name,.slice a1 m.uses.length c1,.slice a2 m.decls.length c2,.slice a3 m.procs.length c3,.slice a4 m.main.length c4] 27)/\Below w.heap.size w wr) (fun _ _ _ i _=>m.procs.length - (intOf i).toNat)
    case atStart=>exact ⟨0,acc,vad _,rfl,hacc,HD0.out,HO.out,HM0.out,HB.out⟩
    case round=>
     clear HO HM0 HB hzr hxlt HD0 hacc;obtain ⟨j,acc,hj2,rfl,hacc,hdef,hrow,hbx,hb⟩:=hrel;have HO:=hid hrow;have HM0:=hid hbx;have HB:=hid hb;have HDf:=hid hdef;have hzr:=hb.size;have hxlt:=zaa hbx;clear hrow hb hdef
     by_cases hlt:j<m.procs.length
     . have hji:m.decls.length+j<items.length:=by have:=HLn.out;omega
       have HSn:Hid (pick ((zgt m).take (m.decls.length+(j+1))) (items.take (m.decls.length+(j+1)))=acc++if m.procs[j].pub then [items[m.decls.length+j]] else []):=by
        show pick ((zgt m).take (m.decls.length+j+1)) (items.take (m.decls.length+j+1))=_;rw [zkc _ _ (m.decls.length+j) (by rw [ze9];omega) hji,zwg m j hlt,← HDf.out]
       have hnx:=HFi.out items[m.decls.length+j] (vah _);have HIj:=hid ((HIt.out.later HB.out).place hji);obtain ⟨b,off,q1,d1,q2,d2,q3,d3,rfl,hx⟩:=(HPr.out.later HB.out).pr j hlt;obtain ⟨hbl,x0,xp,x2,x3,x4,_,_,_,hnm⟩:=hx;obtain ⟨b2,off2,rfl,hbl2,i0,i1,i2,i3⟩:=HIj.out
       have hadd:((m.decls.length:Int)+(j:Int))=((m.decls.length+j:Nat):Int):=by omega
       have hwr:IntKind.i64.wrap ((m.decls.length:Int)+(j:Int))=((m.decls.length+j:Nat):Int):=by simp only [IntKind.wrap,IntKind.bits,IntKind.signed];simp;omega
       have hjn:((m.decls.length+j:Nat):Int)<items.length:=by omega
       have hj0:(0:Int)<=((m.decls.length+j:Nat):Int):=by omega
       obtain ⟨k0,k1,k2,k3,k4,kf⟩:=zac HM0.out;clear HIj hadd;generalize m.procs[j]=p at *;generalize items[m.decls.length+j]=x at *
       cases hpub:p.pub with
       | true=>
         have HO1:Hid (Row (w.heap.size+1) 98 4 (wr.alloc (.cells #[.string p.name,.bool p.pub,.slice q1 p.params.length d1,.slice q2 p.locals.length d2,.slice q3 p.body.length d3] 118)) u5 acc.length (zfe acc)):=HO.out.alloc _;have HE1:Hid (zap (wr.alloc (.cells #[.string p.name,.bool p.pub,.slice q1 p.params.length d1,.slice q2 p.locals.length d2,.slice q3 p.body.length d3] 118)) (fun _=>False) (itD x) [.int .i64 x.kind,.int .i64 x.n,.int .i64 x.at_,.string x.name]):=ze8 hnx;have HX1:Hid ((wr.alloc (.cells #[.string p.name,.bool p.pub,.slice q1 p.params.length d1,.slice q2 p.locals.length d2,.slice q3 p.body.length d3] 118)).heap[w.heap.size]? = some (.cells #[.string m.name,.slice a1 m.uses.length c1,.slice a2 m.decls.length c2,.slice (some ⟨b,off,none⟩) m.procs.length c3,.slice a4 m.main.length c4] 27)):=zad HM0.out;have HBA:Hid (Below w.heap.size w (wr.alloc (.cells #[.string p.name,.bool p.pub,.slice q1 p.params.length d1,.slice q2 p.locals.length d2,.slice q3 p.body.length d3] 118))):=thenB HB.out (al1 _ _)
         have HSt:Hid (pick ((zgt m).take (m.decls.length+(j+1))) (items.take (m.decls.length+(j+1)))=acc++[x]):=HSn.out.trans (by rw [hpub];rfl);rw [hpub] at HO1 HE1 HX1 HBA;clear hnx hbx HSn;rw [hpub] at xp
         go_wp2_with (at_builtin;refine zbm rfl (.tmp 38) (.tmp 47) 28 rfl (w.heap.size+1) 98 _ 4 40 Tryz.underlying28 Tryz.infoItem rfl (by decide) (wr.alloc (.cells #[.string p.name,.bool true,.slice q1 p.params.length d1,.slice q2 p.locals.length d2,.slice q3 p.body.length d3] 118)) u5 acc.length (zfe acc) (itD x) rfl HO1.out #[.int .i64 x.kind,.int .i64 x.n,.int .i64 x.at_,.string x.name] _ (by simp) rfl rfl (fun _=>False) HE1.out (fun b _ h=>h.elim) (by omega) (by decide) (by simp;omega) ?_)
         intro g5 c5 w5 HO5 HB5 hz5;have HO5':=hid HO5;have HB5':=hid HB5;clear HO5 HB5 HO1 HE1;go_wp2_with fail;go_roundw
         case rel=>exact ⟨j+1,acc++[x],by omega,by go_num,by rw [vao];simp;omega,HSt.out.symm,by rw [zet,vao];exact HO5'.out,(HB5'.out.block _ (by omega)).trans HX1.out,HBA.out.trans (HB5'.out.mono (by omega))⟩
         case measure=>simp [intOf];omega
       | false=>
         have HO1:Hid (Row (w.heap.size+1) 98 4 (wr.alloc (.cells #[.string p.name,.bool p.pub,.slice q1 p.params.length d1,.slice q2 p.locals.length d2,.slice q3 p.body.length d3] 118)) u5 acc.length (zfe acc)):=HO.out.alloc _;have HX1:Hid ((wr.alloc (.cells #[.string p.name,.bool p.pub,.slice q1 p.params.length d1,.slice q2 p.locals.length d2,.slice q3 p.body.length d3] 118)).heap[w.heap.size]? = some (.cells #[.string m.name,.slice a1 m.uses.length c1,.slice a2 m.decls.length c2,.slice (some ⟨b,off,none⟩) m.procs.length c3,.slice a4 m.main.length c4] 27)):=zad HM0.out;have HBA:Hid (Below w.heap.size w (wr.alloc (.cells #[.string p.name,.bool p.pub,.slice q1 p.params.length d1,.slice q2 p.locals.length d2,.slice q3 p.body.length d3] 118))):=thenB HB.out (al1 _ _);have HSt:Hid (pick ((zgt m).take (m.decls.length+(j+1))) (items.take (m.decls.length+(j+1)))=acc):=HSn.out.trans (by rw [hpub];simp)
         rw [hpub] at HO1 HX1 HBA;clear hnx hbx HSn;rw [hpub] at xp;go_wp2_with fail;go_roundw
         case rel=>exact ⟨j+1,acc,by omega,by go_num,by omega,HSt.out.symm,HO1.out,HX1.out,HBA.out⟩
         case measure=>simp [intOf];omega
     . obtain rfl:j=m.procs.length:=by omega
       have HR:Hid (pick (zgt m) items=acc):=by
        show pick (zgt m) items=acc;rw [HDf.out,vaq (by rw [ze9];omega),vaq (by rw [HLn.out];omega)]
       obtain ⟨a5,c5,rfl,hea⟩:=HO.out.slice;have HEA:=hid hea;clear hea hbx;go_wp2_with fail;go_ret;refine ⟨⟨a5,c5,?_,?_⟩,HB.out⟩
       . rw [HR.out];rfl
       . rw [HR.out]
         exact HEA.out.moves ⟨vaa _,fun b _ h=>⟨by have:w.heap.size+1<=b:=h;show w.heap.size<=b;omega,rfl⟩⟩
end Go.Proofs.YtndkhgakfodldaaGreatDoor

namespace Go.Proofs.YtndkhgakfodldaaGreatDoor
set_option maxRecDepth 100000
set_option maxHeartbeats 3200000
open Go.RowKit Go.Maps Go.WideMaps Go.Shelf
set_option linter.unusedSimpArgs false
def zkd (lo:Nat) (m:Mo) (e:Ending) (w:World):Prop:=
 (chkM m≠0/\e = .returned (.tuple #[.agg #[.string ⟨#[]⟩,.slice none 0 0],.int .i64 (chkM m)]))\/
 (chkM m=0/\∃ a cap,e = .returned (.tuple #[.agg #[.string m.name,.slice a (zf0 m).length cap],.int .i64 0])/\EAt w (lo<=·) a (zf0 m).length (zfe (zf0 m)))
theorem zfq {m:Mo} (h:chkM m=0):m.err=0:=by
 unfold chkM at h
 by_cases he:m.err=0
 . exact he
 . rw [if_pos he] at h;exact h
theorem z2t {w:World} {b:Nat} {x0 x1 x2 x3 x4:Value} {t:TypeId} (h:w.heap[b]? = some (.cells #[x0,x1,x2,x3,x4] t (0,0))):w.cell? ⟨b,0,none⟩=some x0/\w.cell? ⟨b,1,none⟩=some x1/\w.cell? ⟨b,2,none⟩=some x2/\w.cell? ⟨b,3,none⟩=some x3/\w.cell? ⟨b,4,none⟩=some x4:=by
 obtain ⟨h0,h1,h2,h3,h4,_⟩:=zac h;exact ⟨h0,h1,h2,h3,h4⟩
theorem zyf {W:World} {b c:Nat} (hn:b≠c) {x0 x1 x2 x3 x4:Value} (h:W.cell? ⟨b,0,none⟩=some x0/\W.cell? ⟨b,1,none⟩=some x1/\W.cell? ⟨b,2,none⟩=some x2/\W.cell? ⟨b,3,none⟩=some x3/\W.cell? ⟨b,4,none⟩=some x4) (u v:Value) :
 ((W.setCell ⟨c,0,none⟩ u).setCell ⟨c,1,none⟩ v).cell? ⟨b,0,none⟩=some x0/\((W.setCell ⟨c,0,none⟩ u).setCell ⟨c,1,none⟩ v).cell? ⟨b,1,none⟩=some x1/\((W.setCell ⟨c,0,none⟩ u).setCell ⟨c,1,none⟩ v).cell? ⟨b,2,none⟩=some x2/\((W.setCell ⟨c,0,none⟩ u).setCell ⟨c,1,none⟩ v).cell? ⟨b,3,none⟩=some x3/\((W.setCell ⟨c,0,none⟩ u).setCell ⟨c,1,none⟩ v).cell? ⟨b,4,none⟩=some x4:=by
 have e:((W.setCell ⟨c,0,none⟩ u).setCell ⟨c,1,none⟩ v).heap[b]? = W.heap[b]?:=(heap_set_ne hn _).trans (heap_set_ne hn _)
 have g:∀ o,((W.setCell ⟨c,0,none⟩ u).setCell ⟨c,1,none⟩ v).cell? ⟨b,o,none⟩=W.cell? ⟨b,o,none⟩:=fun o=>vee (w:=W) (a:=⟨b,o,none⟩) e
 exact ⟨(g 0).trans h.1,(g 1).trans h.2.1,(g 2).trans h.2.2.1,(g 3).trans h.2.2.2.1,(g 4).trans h.2.2.2.2⟩
theorem zyg (m:Mo) (v:Value) (a1:OA) (c1:Nat) (a2:OA) (c2:Nat) (a3:OA) (c3:Nat) (a4:OA) (c4:Nat) (w:World) (hM:MoAt w Tt m v a1 c1 a2 c2 a3 c3 a4 c4) :
 Calls Tryz.prog 15 #[v] w fun e w'=>zkd w.heap.size m e w'/\Below w.heap.size w w':=by
 obtain rfl:=hM.val;have HM:=hid hM;have HC:=hid (zfp m _ a1 c1 a2 c2 a3 c3 a4 c4 ((w.alloc (.cells #[.string m.name,.slice a1 m.uses.length c1,.slice a2 m.decls.length c2,.slice a3 m.procs.length c3,.slice a4 m.main.length c4] 27)).alloc (.cells #[.string ⟨#[]⟩,.slice none 0 0] 30)) (hM.later (bl2 _ _ _)));clear hM;go_enter Tryz.func15,Tryz.ntmps15;go_wp2_with fail;refine HC.out.mono ?_;rintro e w1 ⟨rfl,hb1⟩;have HB1:=hid (thenB (bl2 w _ _) hb1);have hz1:=hb1.size;simp at hz1;have q1:=(hb1.block w.heap.size (by simp;omega)).trans (zad (heap_newP w _));have q2:w1.heap[w.heap.size+1]? = some (.cells #[.string ⟨#[]⟩,.slice none 0 0] 30):=(hb1.block (w.heap.size+1) (by simp)).trans (by simpa using heap_newP (w.alloc _) _);have HQ1:=hid q1;have HQ2:=hid q2;obtain ⟨x0,x1,x2,x3,x4,xf⟩:=zac q1;obtain ⟨y0,y1,yf⟩:=zbd q2
 have hl1:=zaa q1;have hl2:=zaa q2;clear hb1 q1 q2 HC
 by_cases hc:chkM m=0
 . have hlay:=zol (zfq hc)
   have HLy:=hid hlay;have HC2:=hid (zib m _ a1 c1 a2 c2 a3 c3 a4 c4 w1 (HM.out.later HB1.out) hlay);have HZ:=hid hc;clear hlay;rw [hc];clear hc;go_wp2_with fail;refine HC2.out.mono ?_;rintro e w2 ⟨⟨ai,ci,rfl,hit⟩,hb2⟩;have HB2:=hid (thenB HB1.out hb2);have hz2:=hb2.size;have HP1:=hid ((hb2.block _ hl1).trans HQ1.out);have HP2:=hid ((hb2.block _ hl2).trans HQ2.out);obtain ⟨HI,HF⟩:=zfz hit;have HC3:=hid (fun W (hW:Below w2.heap.size w2 W)=>zwh m _ a1 c1 a2 c2 a3 c3 a4 c4 (layItems m) ai ci W (HM.out.later (thenB HB2.out hW)) HLy.out (zc4 m) (HI.later hW) HF);clear hb2 HC2 hit HI HF x0 x1 x2 x3 x4 xf y0 y1 yf;obtain ⟨x0,x1,x2,x3,x4,xf⟩:=zac HP1.out;obtain ⟨y0,y1,yf⟩:=zbd HP2.out;have hl1':=zaa HP1.out;have hl2':=zaa HP2.out;have HS:=hid (fun W (hW:Below w2.heap.size w2 W)=>z2t ((hW.block _ hl1').trans HP1.out))
   have FF:=hid (HS.out _ (Below.refl _ w2).drew);have HYf:=hid (fun W (hW:Below w2.heap.size w2 W)=>zbd ((hW.block _ hl2').trans HP2.out));go_wp2_with fail;clear x0 x1 x2 x3 x4 xf y0 y1 yf
   go_region_held (fun W=>W.cell? ⟨w.heap.size,0,none⟩=some (.string m.name)/\W.cell? ⟨w.heap.size,1,none⟩=some (.slice a1 m.uses.length c1)/\W.cell? ⟨w.heap.size,2,none⟩=some (.slice a2 m.decls.length c2)/\W.cell? ⟨w.heap.size,3,none⟩=some (.slice a3 m.procs.length c3)/\W.cell? ⟨w.heap.size,4,none⟩=some (.slice a4 m.main.length c4)) (first | exact FF.out | exact zyf (by omega) FF.out _ _)
    (first | (go_at_call 50;refine (HC3.out _ (Below.refl _ w2).drew).mono ?_;rintro e w3 ⟨⟨a5,c5,rfl,he5⟩,hb3⟩;have HB3:=hid (thenB (Below.refl _ w2).drew hb3);have HE5:=hid he5;clear he5 hb3;have FF:=hid (HS.out _ HB3.out);obtain ⟨y0,y1,yf⟩:=HYf.out _ HB3.out;have hl3:w.heap.size+1<w3.heap.size:=vai hl2' HB3.out.size))
   all_goals
    go_wp2_with fail;refine bodyPost_ret (v:=.tuple #[.agg #[.string m.name,.slice a5 (pick (zgt m) (layItems m)).length c5],.int .i64 0]) (by simp [results,Tryz.results15,go_sem,y0,y1,hl3]) rfl ⟨Or.inr ⟨HZ.out,a5,c5,rfl,?_⟩,?_⟩
    . exact (HE5.out.moves (((zae.refl w3 _).set (p:=⟨w.heap.size+1,0,none⟩) (by intro b _ hb;have:w2.heap.size<=b:=hb;show b≠w.heap.size+1;omega) _).set (p:=⟨w.heap.size+1,1,none⟩) (by intro b _ hb;have:w2.heap.size<=b:=hb;show b≠w.heap.size+1;omega) _)).moves ⟨vaa _,fun b _ h=>⟨by have:w2.heap.size<=b:=h;show w.heap.size<=b;omega,rfl⟩⟩
    . exact ((thenB HB2.out HB3.out).setCell (p:=⟨w.heap.size+1,0,none⟩) (by show w.heap.size<=w.heap.size+1;omega) _).setCell (p:=⟨w.heap.size+1,1,none⟩) (by show w.heap.size<=w.heap.size+1;omega) _
 . have HF:Hid (zkd w.heap.size m (.returned (.tuple #[.agg #[.string ⟨#[]⟩,.slice none 0 0],.int .i64 (chkM m)])) ((w1.setCell ⟨w.heap.size+1,0,none⟩ (.string ⟨#[]⟩)).setCell ⟨w.heap.size+1,1,none⟩ (.slice none 0 0))):=Or.inl ⟨hc,rfl⟩
   go_wp2_with fail;refine bodyPost_ret (v:=.tuple #[.agg #[.string ⟨#[]⟩,.slice none 0 0],.int .i64 (chkM m)]) (by simp [results,Tryz.results15,go_sem,y0,y1,hl2]) rfl ⟨HF.out,?_⟩;exact (HB1.out.setCell (p:=⟨w.heap.size+1,0,none⟩) (by show w.heap.size<=w.heap.size+1;omega) _).setCell (p:=⟨w.heap.size+1,1,none⟩) (by show w.heap.size<=w.heap.size+1;omega) _
end Go.Proofs.YtndkhgakfodldaaGreatDoor

namespace Go.Proofs.YtndkhgakfodldaaGreatDoor
open Go.RowKit
set_option linter.unusedSimpArgs false
theorem zm7:∀ (l:List Nd) (i:Nat) (h:i<l.length) (j:Nat),j<5->(ze0 l)[i*5+j]? = (l[i].ds)[j]?
 | [],i,h,_,_=>by simp at h
 | x :: r,0,_,j,hj=>by
   have:=x.ds_len;simp only [ze0,vcc];rw [vbf (by omega),vdn,vbc]
 | x :: r,i+1,h,j,hj=>by
   have:=x.ds_len;simp only [ze0,vbv];rw [vbb (by omega),show (i+1)*5+j - x.ds.length=i*5+j from by omega];exact zm7 r i (by simpa using h) j hj
theorem zm8:∀ (l:List Ac) (i:Nat) (h:i<l.length) (j:Nat),j<7->(zc2 l)[i*7+j]? = (l[i].ds)[j]?
 | [],i,h,_,_=>by simp at h
 | x :: r,0,_,j,hj=>by
   have:=x.ds_len;simp only [zc2,vcc];rw [vbf (by omega),vdn,vbc]
 | x :: r,i+1,h,j,hj=>by
   have:=x.ds_len;simp only [zc2,vbv];rw [vbb (by omega),show (i+1)*7+j - x.ds.length=i*7+j from by omega];exact zm8 r i (by simpa using h) j hj
def Un.ds (u:Un):List D:=[.str u.name,.list u.uses.length (zan u.uses),.int u.data,.list u.parts.length (ptsD u.parts),.list u.main.length (zc2 u.main)]
structure NdAt (w:World) (A:Nat->Prop) (b o:Nat) (x:Nd) (a1:OA) (k1:Nat):Prop where
 lt:b<w.heap.size
 c0:w.cell? ⟨b,o,none⟩=some (.int .i64 x.op)
 c1:w.cell? ⟨b,o+1,none⟩=some (.int .i64 x.n)
 c2:w.cell? ⟨b,o+2,none⟩=some (.int .i64 x.m)
 c3:w.cell? ⟨b,o+3,none⟩=some (.int .i64 x.at_)
 c4:w.cell? ⟨b,o+4,none⟩=some (.slice a1 x.args.length k1)
 args':DAt w A a1 x.args.length (ze0 x.args)
 w0:(Lit.int .i64 x.op).wf=true
 w1:(Lit.int .i64 x.n).wf=true
 w2:(Lit.int .i64 x.m).wf=true
 w3:(Lit.int .i64 x.at_).wf=true
theorem DAt.nd {w:World} {A:Nat->Prop} {a:OA} {l:List Nd} (h:DAt w A a l.length (ze0 l)) (i:Nat) (hi:i<l.length):∃ b off a1 k1,a=some ⟨b,off,none⟩/\NdAt w A b (off+i*5) l[i] a1 k1:=by
 obtain ⟨b,off,ha,hb,hc⟩:=h.cell (by omega);generalize hx:l[i]=x;obtain ⟨op,n,m,at_,args⟩:=x
 have g:∀ j d,j<5->(Nd.mk op n m at_ args).ds[j]? = some d->∃ v,w.cell? ⟨b,off+i*5+j,none⟩=some v/\zde w A d v:=fun j d hj hd=>by
  rw [vbj];exact hc (i*5+j) d ((zm7 l i hi j hj).trans (by rw [hx];exact hd))
 obtain ⟨v0,q0,d0⟩:=g 0 (.int op) (by omega) (by simp [Nd.ds]);obtain ⟨v1,q1,d1⟩:=g 1 (.int n) (by omega) (by simp [Nd.ds]);obtain ⟨v2,q2,d2⟩:=g 2 (.int m) (by omega) (by simp [Nd.ds]);obtain ⟨v3,q3,d3⟩:=g 3 (.int at_) (by omega) (by simp [Nd.ds]);obtain ⟨v4,q4,d4⟩:=g 4 (.list args.length (ze0 args)) (by omega) (by simp [Nd.ds]);obtain ⟨rfl,w0⟩:=zb9 d0;obtain ⟨rfl,w1⟩:=zb9 d1;obtain ⟨rfl,w2⟩:=zb9 d2;obtain ⟨rfl,w3⟩:=zb9 d3;obtain ⟨a1,k1,rfl,h1⟩:=zbg d4;exact ⟨b,off,a1,k1,ha,hb,q0,q1,q2,q3,q4,h1,w0,w1,w2,w3⟩
structure AcAt (w:World) (A:Nat->Prop) (b o:Nat) (x:Ac) (a1:OA) (k1:Nat) (a2:OA) (k2:Nat) (a3:OA) (k3:Nat):Prop where
 lt:b<w.heap.size
 c0:w.cell? ⟨b,o,none⟩=some (.int .i64 x.op)
 c1:w.cell? ⟨b,o+1,none⟩=some (.int .i64 x.n)
 c2:w.cell? ⟨b,o+2,none⟩=some (.int .i64 x.m)
 c3:w.cell? ⟨b,o+3,none⟩=some (.int .i64 x.at_)
 c4:w.cell? ⟨b,o+4,none⟩=some (.slice a1 x.args.length k1)
 c5:w.cell? ⟨b,o+5,none⟩=some (.slice a2 x.body.length k2)
 c6:w.cell? ⟨b,o+6,none⟩=some (.slice a3 x.other.length k3)
 args':DAt w A a1 x.args.length (ze0 x.args)
 body':DAt w A a2 x.body.length (zc2 x.body)
 other':DAt w A a3 x.other.length (zc2 x.other)
 w0:(Lit.int .i64 x.op).wf=true
 w1:(Lit.int .i64 x.n).wf=true
 w2:(Lit.int .i64 x.m).wf=true
 w3:(Lit.int .i64 x.at_).wf=true
theorem DAt.ac {w:World} {A:Nat->Prop} {a:OA} {l:List Ac} (h:DAt w A a l.length (zc2 l)) (i:Nat) (hi:i<l.length):∃ b off a1 k1 a2 k2 a3 k3,a=some ⟨b,off,none⟩/\AcAt w A b (off+i*7) l[i] a1 k1 a2 k2 a3 k3:=by
 obtain ⟨b,off,ha,hb,hc⟩:=h.cell (by omega);generalize hx:l[i]=x;obtain ⟨op,n,m,at_,args,body,other⟩:=x
 have g:∀ j d,j<7->(Ac.mk op n m at_ args body other).ds[j]? = some d->∃ v,w.cell? ⟨b,off+i*7+j,none⟩=some v/\zde w A d v:=fun j d hj hd=>by
  rw [vbj];exact hc (i*7+j) d ((zm8 l i hi j hj).trans (by rw [hx];exact hd))
 obtain ⟨v0,q0,d0⟩:=g 0 (.int op) (by omega) (by simp [Ac.ds]);obtain ⟨v1,q1,d1⟩:=g 1 (.int n) (by omega) (by simp [Ac.ds]);obtain ⟨v2,q2,d2⟩:=g 2 (.int m) (by omega) (by simp [Ac.ds]);obtain ⟨v3,q3,d3⟩:=g 3 (.int at_) (by omega) (by simp [Ac.ds]);obtain ⟨v4,q4,d4⟩:=g 4 (.list args.length (ze0 args)) (by omega) (by simp [Ac.ds]);obtain ⟨v5,q5,d5⟩:=g 5 (.list body.length (zc2 body)) (by omega) (by simp [Ac.ds]);obtain ⟨v6,q6,d6⟩:=g 6 (.list other.length (zc2 other)) (by omega) (by simp [Ac.ds]);obtain ⟨rfl,w0⟩:=zb9 d0;obtain ⟨rfl,w1⟩:=zb9 d1;obtain ⟨rfl,w2⟩:=zb9 d2;obtain ⟨rfl,w3⟩:=zb9 d3;obtain ⟨a1,k1,rfl,h1⟩:=zbg d4;obtain ⟨a2,k2,rfl,h2⟩:=zbg d5;obtain ⟨a3,k3,rfl,h3⟩:=zbg d6;exact ⟨b,off,a1,k1,a2,k2,a3,k3,ha,hb,q0,q1,q2,q3,q4,q5,q6,h1,h2,h3,w0,w1,w2,w3⟩
structure PtAt (w:World) (A:Nat->Prop) (b o:Nat) (x:Pt) (a1:OA) (k1:Nat):Prop where
 lt:b<w.heap.size
 c0:w.cell? ⟨b,o,none⟩=some (.int .i64 x.params)
 c1:w.cell? ⟨b,o+1,none⟩=some (.int .i64 x.locals)
 c2:w.cell? ⟨b,o+2,none⟩=some (.slice a1 x.body.length k1)
 body':DAt w A a1 x.body.length (zc2 x.body)
 w0:(Lit.int .i64 x.params).wf=true
 w1:(Lit.int .i64 x.locals).wf=true
theorem DAt.pt {w:World} {A:Nat->Prop} {a:OA} {l:List Pt} (h:DAt w A a l.length (ptsD l)) (i:Nat) (hi:i<l.length):∃ b off a1 k1,a=some ⟨b,off,none⟩/\PtAt w A b (off+i*3) l[i] a1 k1:=by
 obtain ⟨b,off,ha,hb,hc⟩:=h.cell (by omega);generalize hx:l[i]=x;obtain ⟨params,locals,body⟩:=x
 have g:∀ j d,j<3->(Pt.mk params locals body).ds[j]? = some d->∃ v,w.cell? ⟨b,off+i*3+j,none⟩=some v/\zde w A d v:=fun j d hj hd=>by
  rw [vbj];exact hc (i*3+j) d ((zd8 Pt.ds 3 (fun _=>rfl) l i hi j hj).trans (by rw [hx];exact hd))
 obtain ⟨v0,q0,d0⟩:=g 0 (.int params) (by omega) (by simp [Pt.ds]);obtain ⟨v1,q1,d1⟩:=g 1 (.int locals) (by omega) (by simp [Pt.ds]);obtain ⟨v2,q2,d2⟩:=g 2 (.list body.length (zc2 body)) (by omega) (by simp [Pt.ds]);obtain ⟨rfl,w0⟩:=zb9 d0;obtain ⟨rfl,w1⟩:=zb9 d1;obtain ⟨a1,k1,rfl,h1⟩:=zbg d2;exact ⟨b,off,a1,k1,ha,hb,q0,q1,q2,h1,w0,w1⟩
structure Ck where
 data:Int
 uses:Nat
 parts:List Pt
 num:Int->Int->Int->Bool
 prt:Int->Int->Int->Bool
 locals:Int
def z16 (c:Ck) (m:Int):Bool:=decide (1<=m/\m<=c.uses)
def z2u (size at_ n:Int):Bool:=decide (0<=at_/\at_+n<=size)
def z2v (c:Ck) (m at_ n:Int):Bool:=if m=0 then z2u c.data at_ n else z16 c m&&c.num m at_ n
def z2w (l:List Pt) (at_ k:Int):Bool:=decide (0<=at_)&&(match l[at_.toNat]? with | some p=>decide (p.params=k) | none=>false)
def z2x (c:Ck) (m at_ k:Int):Bool:=if m=0 then z2w c.parts at_ k else z16 c m&&c.prt m at_ k
end Go.Proofs.YtndkhgakfodldaaGreatDoor

namespace Go.Proofs.YtndkhgakfodldaaGreatDoor
set_option maxRecDepth 100000
open Go.RowKit Go.Maps Go.WideMaps
set_option linter.unusedSimpArgs false
set_option linter.unusedVariables false
structure UsAt (w:World) (c:Ck) (nf pf:FuncId) (v:Value):Prop where
 num:∀ W,Below w.heap.size w W->∀ m at_ n:Int,z16 c m=true->(Lit.int .i64 at_).wf=true->1<=n->n<=32->Calls Tryz.prog nf #[v,.int .i64 m,.int .i64 at_,.int .i64 n] W fun e W'=>e = .returned (.bool (c.num m at_ n))/\Below W.heap.size W W'
 prt:∀ W,Below w.heap.size w W->∀ (m at_:Int) (k:Nat),z16 c m=true->(Lit.int .i64 at_).wf=true->k<=17592186044416->Calls Tryz.prog pf #[v,.int .i64 m,.int .i64 at_,.int .i64 k] W fun e W'=>e = .returned (.bool (c.prt m at_ k))/\Below W.heap.size W W'
structure CkAt (w:World) (c:Ck) (cv:Value):Prop where
 num:∀ W,Below w.heap.size w W->∀ m at_ n:Int,(Lit.int .i64 m).wf=true->(Lit.int .i64 at_).wf=true->1<=n->n<=32->Calls Tryz.prog 210 #[cv,.int .i64 m,.int .i64 at_,.int .i64 n] W fun e W'=>e = .returned (.bool (z2v c m at_ n))/\Below W.heap.size W W'
 prt:∀ W,Below w.heap.size w W->∀ (m at_:Int) (k:Nat),(Lit.int .i64 m).wf=true->(Lit.int .i64 at_).wf=true->k<=17592186044416->Calls Tryz.prog 212 #[cv,.int .i64 m,.int .i64 at_,.int .i64 k] W fun e W'=>e = .returned (.bool (z2x c m at_ k))/\Below W.heap.size W W'
theorem CkAt.later {w w':World} {c:Ck} {cv:Value} (h:CkAt w c cv) (hb:Below w.heap.size w w'):CkAt w' c cv:=⟨fun W hW=>h.num W (thenB hb hW),fun W hW=>h.prt W (thenB hb hW)⟩
theorem UsAt.later {w w':World} {c:Ck} {nf pf:FuncId} {v:Value} (h:UsAt w c nf pf v) (hb:Below w.heap.size w w'):UsAt w' c nf pf v:=⟨fun W hW=>h.num W (thenB hb hW),fun W hW=>h.prt W (thenB hb hW)⟩
set_option maxHeartbeats 1600000
theorem z2l (w:World) (o p:Obj):((w.alloc o).alloc p).heap[w.heap.size+1]? = some p:=by simpa using heap_newP (w.alloc o) p
set_option maxHeartbeats 3200000
set_option maxHeartbeats 1600000
set_option maxHeartbeats 3200000
structure UvAt (w:World) (u:Un) (x1:OA) (y1:Nat) (x2:OA) (y2:Nat) (x3:OA) (y3:Nat):Prop where
 wn:u.name.size<=maxLen
 uses:DAt w Tt x1 u.uses.length (zan u.uses)
 wd:(Lit.int .i64 u.data).wf=true
 parts:DAt w Tt x2 u.parts.length (ptsD u.parts)
 main:DAt w Tt x3 u.main.length (zc2 u.main)
theorem UvAt.later {w w':World} {u:Un} {x1:OA} {y1:Nat} {x2:OA} {y2:Nat} {x3:OA} {y3:Nat} (h:UvAt w u x1 y1 x2 y2 x3 y3) (hb:Below w.heap.size w w'):UvAt w' u x1 y1 x2 y2 x3 y3:=⟨h.wn,h.uses.later hb,h.wd,h.parts.later hb,h.main.later hb⟩
theorem UvAt.mo {w:World} {u:Un} {x1:OA} {y1:Nat} {x2:OA} {y2:Nat} {x3:OA} {y3:Nat} (h:UvAt w u x1 y1 x2 y2 x3 y3):MoAt w Tt ⟨u.name,u.uses,[],[],[]⟩ (.agg #[.string u.name,.slice x1 u.uses.length y1,.slice none 0 0,.slice none 0 0,.slice none 0 0]) x1 y1 none 0 none 0 none 0:=
 ⟨rfl,h.wn,h.uses,⟨vaa _,vad _,Or.inl rfl⟩,⟨vaa _,vad _,Or.inl rfl⟩,⟨vaa _,vad _,Or.inl rfl⟩⟩
set_option maxHeartbeats 1600000
end Go.Proofs.YtndkhgakfodldaaGreatDoor
