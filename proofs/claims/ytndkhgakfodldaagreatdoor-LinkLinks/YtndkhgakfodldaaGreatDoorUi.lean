import Derived.Test.YtndkhgakfodldaaGreatDoorUc
import Derived.Test.YtndkhgakfodldaaGreatDoorXc
import Derived.Test.YtndkhgakfodldaaGreatDoorLex
namespace Go.Proofs.YtndkhgakfodldaaGreatDoor
set_option maxRecDepth 100000
set_option maxHeartbeats 3200000
open Go.RowKit Go.Maps Go.WideMaps
set_option linter.unusedSimpArgs false
abbrev pU (p:Pr) (a:OA) (b:Nat) (c:OA) (e:Nat) (f:OA) (g:Nat):Obj:=kzK p.name p.pub a p.params.length b c p.locals.length e f p.body.length g
abbrev It:=Fx.It
def itD (i:It):List D:=[.int i.kind,.int i.n,.int i.at_,.str i.name]
def zgb (l:List It):List D:=l.flatMap itD
def layIt (at_:Int) (d:De):It:=⟨d.kind,d.n,if d.kind=2\/d.kind=3 then at_ else 0,d.name⟩
def zem (at_:Int) (d:De):Int:=if d.kind=2 then at_+1 else if d.kind=3 then at_+d.n else at_
def zmu:Int->List De->List It × Int
 | a,[]=>([],a)
 | a,d :: r=>(layIt a d :: (zmu (zem a d) r).1,(zmu (zem a d) r).2)
def z2r (i:Nat) (p:Pr):It:=⟨4,p.params.length,i,p.name⟩
def zn8:Nat->List Pr->List It
 | _,[]=>[]
 | i,p :: r=>z2r i p :: zn8 (i+1) r
def za4 (m:Mo):List It:=(zmu 0 m.decls).1++zn8 0 m.procs
def zbw (m:Mo):Int:=(zmu 0 m.decls).2
theorem zp1:∀ (l:List De) (a:Int) (d:De),zmu a (l++[d])=((zmu a l).1++[layIt (zmu a l).2 d],zem (zmu a l).2 d)
 | [],a,d=>rfl
 | x :: r,a,d=>by
   show (layIt a x :: (zmu (zem a x) (r++[d])).1,(zmu (zem a x) (r++[d])).2)=_
   rw [zp1 r];rfl
theorem zts:∀ (l:List De) (a:Int),(zmu a l).1.length=l.length
 | [],_=>rfl
 | x :: r,a=>by show (_ :: _).length=_;rw [vaw,zts r,vaw]
theorem zmv:∀ (l:List Pr) (i:Nat) (p:Pr),zn8 i (l++[p])=zn8 i l++[z2r (i+l.length) p]
 | [],i,p=>rfl
 | x :: r,i,p=>by
   show z2r i x :: zn8 (i+1) (r++[p])=_
   rw [zmv r,show i+1+r.length=i+(x :: r).length from by simp;omega];rfl
theorem zp2:∀ (l:List Pr) (i:Nat),(zn8 i l).length=l.length
 | [],_=>rfl
 | x :: r,i=>by show (_ :: _).length=_;rw [vaw,zp2 r,vaw]
theorem zf0 (m:Mo):(za4 m).length=m.decls.length+m.procs.length:=by unfold za4;rw [vak,zts,zp2]
structure LayOk (m:Mo):Prop where
 decls:m.decls.length<=10
 procs:m.procs.length<=6
 kinds:∀ d ∈ m.decls,1<=d.kind/\d.kind<=3/\(d.kind=3->1<=d.n/\d.n<=32)
theorem zex {m:Mo} (h:m.err=0):m.uses.length<=3/\m.decls.length<=10/\m.procs.length<=6/\(∀ p ∈ m.procs,p.params.length<=3/\p.locals.length<=4/\zah 6 p.body=false)/\zah 6 m.main=false:=by
 obtain ⟨_,hm,_⟩:=zs2 h;unfold Mo.many at hm;simp only [vas] at hm;obtain ⟨h1,h2,h3,h4,h5⟩:=hm;have h1:=of_decide_eq_false h1;have h2:=of_decide_eq_false h2;have h3:=of_decide_eq_false h3;rw [vbz] at h4 h5;refine ⟨by omega,by omega,by omega,fun p hp=>?_,by simpa using h5 m.main (by unfold Mo.bodies;simp)⟩;have:=h4 p hp;simp only [vcs,vas] at this;have k1:=of_decide_eq_false this.1;have k2:=of_decide_eq_false this.2;exact ⟨by omega,by omega,by simpa using h5 p.body (by unfold Mo.bodies;simp;exact Or.inl ⟨p,hp,rfl⟩)⟩
theorem zyi {m:Mo} (h:m.err=0):LayOk m:=by
 have hp:=zex h;refine ⟨hp.2.1,hp.2.2.1,fun d hd=>?_⟩;obtain ⟨_,hs,h1,h2⟩:=(z7k h).decls d hd;refine ⟨h1,h2,fun h3=>?_⟩;unfold zds at hs;rw [h3,if_neg (by decide),if_pos rfl] at hs;simpa using hs
theorem zmw:∀ (l:List De) (a:Int),(∀ d ∈ l,1<=d.kind/\d.kind<=3/\(d.kind=3->1<=d.n/\d.n<=32))->a<=(zmu a l).2/\(zmu a l).2<=a+32*l.length
 | [],a,_=>⟨Int.le_refl _,by simp [zmu]⟩
 | x :: r,a,h=>by
   have hx:=h x (by simp);have ih:=zmw r (zem a x) (fun d hd=>h d (by simp [hd]));show a<=(zmu (zem a x) r).2/\(zmu (zem a x) r).2<=a+32*((x :: r).length:Nat);rw [vaw]
   have hn:a<=zem a x/\zem a x<=a+32:=by
    unfold zem;split
    . omega
    . split
      . rename_i h3;have:=hx.2.2 h3;omega
      . omega
   omega
theorem Tryz.infoItem:(Tryz.prog.info? 98).map (fun i=>(i.zero,i.size,i.bytes))=some (some (.agg #[qi 0,qi 0,qi 0,.string ⟨#[]⟩]),4,40):=by kernel_rfl
theorem zgc {A:Nat->Prop} {w:World} {k n a:Int} {s:ByteArray} (h:s.size<=maxLen):zat w A (itD ⟨k,n,a,s⟩) [qi k,qi n,qi a,.string s]:=.cons zqp (.cons zqp (.cons zqp (.cons (z38 h) .nil)))
theorem zey (l:List It) (x:It):zgb (l++[x])=zgb l++itD x:=by simp [zgb]
theorem zn9 {w:World} {A:Nat->Prop} {a:OA} {l:List It} (h:EAt w A a l.length (zgb l)):Fx.zcj w a l/\Fx.AllFit l:=by
 rcases h with h | ⟨b,off,cs,ha,_,hb,hc,hx⟩
 . have:l=[]:=vam h
   subst this;exact ⟨Or.inl rfl,fun i hi=>by cases hi⟩
 . have g:∀ i (hi:i<l.length) j d,j<4->(itD l[i])[j]? = some d->∃ v,w.cell? ⟨b,off+i*4+j,none⟩=some v/\zga w A d v:=fun i hi j d hj hd=>by
    obtain ⟨v,hv,EI⟩:=hx.get (i*4+j) d ((zcc itD 4 (fun _=>rfl) l i hi j hj).trans hd);exact ⟨v,by rw [vbm];exact hc _ v hv,EI⟩
   refine ⟨Or.inr ⟨b,off,ha,hb,fun i hi=>?_,fun i hi=>?_,fun i hi=>?_,fun i hi=>?_⟩,fun x Bz=>?_⟩
   . obtain ⟨v,hv,hd⟩:=g i hi 0 (.int l[i].kind) (by omega) rfl
     rw [znu hd] at hv;exact hv
   . obtain ⟨v,hv,hd⟩:=g i hi 1 (.int l[i].n) (by omega) rfl
     rw [znu hd] at hv;exact hv
   . obtain ⟨v,hv,hd⟩:=g i hi 2 (.int l[i].at_) (by omega) rfl
     rw [znu hd] at hv;exact hv
   . obtain ⟨v,hv,hd⟩:=g i hi 3 (.str l[i].name) (by omega) rfl
     rw [(zx3 hd).1] at hv;exact hv
   . obtain ⟨i,hi,rfl⟩:=vay Bz
     obtain ⟨v,hv,hd⟩:=g i hi 3 (.str l[i].name) (by omega) rfl;exact (zx3 hd).2
theorem zh8 (m:Mo) (v:Value) (a1:OA) (c1:Nat) (a2:OA) (c2:Nat) (a3:OA) (c3:Nat) (a4:OA) (c4:Nat) (w:World) (hM:MoAt w Tt m v a1 c1 a2 c2 a3 c3 a4 c4) (C0:LayOk m) :
 qc 49 #[v] w fun e w'=>(∃ a cap,e = .returned (.tuple #[.slice a (za4 m).length cap,qi (zbw m)])/\EAt w' (w.heap.size<=·) a (za4 m).length (zgb (za4 m)))/\qb w w':=by
 obtain rfl:=hM.val;have Nv:=hid hM.decls;have N3:=hid hM.procs;have Gd:=hid C0;have Js:=C0.decls;have O8:=C0.procs;clear hM C0;go_enter Tryz.func49,Tryz.ntmps49;go_wp2_with fail
 go_loopw [4,5,7,8,14] (fun v dv _ _ i wr=>∃ (j:Nat) (A7:List It) (dt:Int),j<=m.decls.length/\i=qi j/\dv=qi dt/\A7.length=j/\zmu 0 (m.decls.take j)=(A7,dt)/\Row (w.heap.size+1) 98 4 wr v A7.length (zgb A7)/\wr.heap[w.heap.size]? = some (kzG m.name a1 m.uses.length c1 a2 m.decls.length c2 a3 m.procs.length c3 a4 m.main.length c4)/\qb w wr) (fun _ _ _ _ i _=>m.decls.length - (intOf i).toNat)
 case atStart=>exact ⟨0,[],0,vae _,rfl,rfl,rfl,rfl,Row.nil _ _ _ _,heap_newP _ _,al1 _ _⟩
 case round=>
  obtain ⟨j,A7,dt,hj,rfl,rfl,hacc,Cr,Ab,hbx,hb⟩:=hrel;have HO:=hid Ab;have BN:=hid hbx;have HB:=hid hb;have Hu:=hid Cr;have BU:=hb.size;have Cj:=lt_of_heap hbx;clear Ab hb Cr
  by_cases A0:j<m.decls.length
  . obtain ⟨b,off,rfl,hx⟩:=(Nv.out.later HB.out).de j A0
    obtain ⟨Au,x0,x1,x2,x3,_,_,Bq⟩:=hx
    have BW:Hid (zmu 0 (m.decls.take (j+1))=(A7++[layIt dt m.decls[j]],zem dt m.decls[j])):=by
     show zmu 0 (m.decls.take (j+1))=_;rw [vaf A0,zp1,Hu.out]
    have KJ:=Gd.out.kinds m.decls[j] (vag _)
    have Bt:0<=dt/\dt<=320:=by
     have:=zmw (m.decls.take j) 0 (fun d hd=>Gd.out.kinds d (List.mem_of_mem_take hd));rw [Hu.out] at this;simp only [vbg] at this;omega
    generalize m.decls[j]=d at *;have CA:=KJ.1;have F4:=KJ.2.1;have KX:=KJ.2.2;clear KJ hbx
    by_cases DA:d.kind=2
    . have IZ:IntKind.i64.wrap (dt+1)=dt+1:=by simp only [IntKind.wrap,IntKind.bits,IntKind.signed];simp;omega
      have HX:Hid (layIt dt d=⟨d.kind,d.n,dt,d.name⟩):=by show layIt dt d=_;unfold layIt;rw [if_pos (Or.inl DA)]
      have HN:Hid (zem dt d=dt+1):=by show zem dt d=_;unfold zem;rw [if_pos DA]
      have Bd:Hid (Row (w.heap.size+1) 98 4 ((wr.alloc (kzH d.kind d.name d.pub d.n)).alloc (kzI d.kind d.n dt d.name)) u4 A7.length (zgb A7)):=(HO.out.alloc _).alloc _;have BR:Hid (zat ((wr.alloc (kzH d.kind d.name d.pub d.n)).alloc (kzI d.kind d.n dt d.name)) (fun _=>False) (itD ⟨d.kind,d.n,dt,d.name⟩) [qi d.kind,qi d.n,qi dt,.string d.name]):=zgc Bq;have C5:Hid (qb w ((wr.alloc (kzH d.kind d.name d.pub d.n)).alloc (kzI d.kind d.n dt d.name))):=thenB HB.out (bl2 _ _ _);have AE:Hid (((wr.alloc (kzH d.kind d.name d.pub d.n)).alloc (kzI d.kind d.n dt d.name)).heap[w.heap.size]? = some (kzG m.name a1 m.uses.length c1 (some (qa b off)) m.decls.length c2 a3 m.procs.length c3 a4 m.main.length c4)):=zab (zab BN.out)
      have b2:(d.kind == 2)=true:=by rw [DA];rfl
      clear Bq CA F4 KX DA
      go_wp2_with (at_builtin;refine zbn rfl (.tmp 41) (.tmp 43) 28 rfl (w.heap.size+1) 98 _ 4 40 Tryz.underlying28 Tryz.infoItem rfl (by decide) ((wr.alloc (kzH d.kind d.name d.pub d.n)).alloc (kzI d.kind d.n dt d.name)) u4 A7.length (zgb A7) (itD ⟨d.kind,d.n,dt,d.name⟩) rfl Bd.out #[qi d.kind,qi d.n,qi dt,.string d.name] _ (by simp) rfl rfl (fun _=>False) BR.out (fun b _ h=>h.elim) (by omega) (by decide) (by simp;omega) ?_)
      intro g5 c5 w5 Br Ar Cc;have B5:=hid Br;have AU:=hid Ar;clear Br Ar Bd BR;go_wp2_with fail;go_roundw
      case rel=>exact ⟨j+1,A7++[_],_,by omega,by go_num,rfl,by simp [hacc],BW.out.trans (by rw [HX.out,HN.out]),by rw [zey,vak,hacc];exact B5.out,(AU.out.block _ (by omega)).trans AE.out,C5.out.trans (AU.out.mono (by omega))⟩
      case measure=>simp [intOf];omega
    by_cases CO:d.kind=3
    . have QD:=KX CO
      have IZ:IntKind.i64.wrap (dt+d.n)=dt+d.n:=by simp only [IntKind.wrap,IntKind.bits,IntKind.signed];simp;omega
      have HX:Hid (layIt dt d=⟨d.kind,d.n,dt,d.name⟩):=by show layIt dt d=_;unfold layIt;rw [if_pos (Or.inr CO)]
      have HN:Hid (zem dt d=dt+d.n):=by show zem dt d=_;unfold zem;rw [if_neg DA,if_pos CO]
      have Bd:Hid (Row (w.heap.size+1) 98 4 ((wr.alloc (kzH d.kind d.name d.pub d.n)).alloc (kzI d.kind d.n dt d.name)) u4 A7.length (zgb A7)):=(HO.out.alloc _).alloc _;have BR:Hid (zat ((wr.alloc (kzH d.kind d.name d.pub d.n)).alloc (kzI d.kind d.n dt d.name)) (fun _=>False) (itD ⟨d.kind,d.n,dt,d.name⟩) [qi d.kind,qi d.n,qi dt,.string d.name]):=zgc Bq;have C5:Hid (qb w ((wr.alloc (kzH d.kind d.name d.pub d.n)).alloc (kzI d.kind d.n dt d.name))):=thenB HB.out (bl2 _ _ _);have AE:Hid (((wr.alloc (kzH d.kind d.name d.pub d.n)).alloc (kzI d.kind d.n dt d.name)).heap[w.heap.size]? = some (kzG m.name a1 m.uses.length c1 (some (qa b off)) m.decls.length c2 a3 m.procs.length c3 a4 m.main.length c4)):=zab (zab BN.out)
      have b2:(d.kind == 2)=false:=by rw [CO];rfl
      have b3:(d.kind == 3)=true:=by rw [CO];rfl
      clear Bq CA F4 KX DA CO QD
      go_wp2_with (at_builtin;refine zbn rfl (.tmp 41) (.tmp 43) 28 rfl (w.heap.size+1) 98 _ 4 40 Tryz.underlying28 Tryz.infoItem rfl (by decide) ((wr.alloc (kzH d.kind d.name d.pub d.n)).alloc (kzI d.kind d.n dt d.name)) u4 A7.length (zgb A7) (itD ⟨d.kind,d.n,dt,d.name⟩) rfl Bd.out #[qi d.kind,qi d.n,qi dt,.string d.name] _ (by simp) rfl rfl (fun _=>False) BR.out (fun b _ h=>h.elim) (by omega) (by decide) (by simp;omega) ?_)
      intro g5 c5 w5 Br Ar Cc;have B5:=hid Br;have AU:=hid Ar;clear Br Ar Bd BR;go_wp2_with fail;go_roundw
      case rel=>exact ⟨j+1,A7++[_],_,by omega,by go_num,rfl,by simp [hacc],BW.out.trans (by rw [HX.out,HN.out]),by rw [zey,vak,hacc];exact B5.out,(AU.out.block _ (by omega)).trans AE.out,C5.out.trans (AU.out.mono (by omega))⟩
      case measure=>simp [intOf];omega
    have HX:Hid (layIt dt d=⟨d.kind,d.n,0,d.name⟩):=by show layIt dt d=_;unfold layIt;rw [if_neg (by omega)]
    have HN:Hid (zem dt d=dt):=by show zem dt d=_;unfold zem;rw [if_neg DA,if_neg CO]
    have Bd:Hid (Row (w.heap.size+1) 98 4 ((wr.alloc (kzH d.kind d.name d.pub d.n)).alloc (kzI d.kind d.n 0 d.name)) u4 A7.length (zgb A7)):=(HO.out.alloc _).alloc _;have BR:Hid (zat ((wr.alloc (kzH d.kind d.name d.pub d.n)).alloc (kzI d.kind d.n 0 d.name)) (fun _=>False) (itD ⟨d.kind,d.n,0,d.name⟩) [qi d.kind,qi d.n,qi 0,.string d.name]):=zgc Bq;have C5:Hid (qb w ((wr.alloc (kzH d.kind d.name d.pub d.n)).alloc (kzI d.kind d.n 0 d.name))):=thenB HB.out (bl2 _ _ _);have AE:Hid (((wr.alloc (kzH d.kind d.name d.pub d.n)).alloc (kzI d.kind d.n 0 d.name)).heap[w.heap.size]? = some (kzG m.name a1 m.uses.length c1 (some (qa b off)) m.decls.length c2 a3 m.procs.length c3 a4 m.main.length c4)):=zab (zab BN.out);have b2:(d.kind == 2)=false:=beq_eq_false_iff_ne.2 DA;have b3:(d.kind == 3)=false:=beq_eq_false_iff_ne.2 CO;clear Bq CA F4 KX DA CO
    go_wp2_with (at_builtin;refine zbn rfl (.tmp 41) (.tmp 43) 28 rfl (w.heap.size+1) 98 _ 4 40 Tryz.underlying28 Tryz.infoItem rfl (by decide) ((wr.alloc (kzH d.kind d.name d.pub d.n)).alloc (kzI d.kind d.n 0 d.name)) u4 A7.length (zgb A7) (itD ⟨d.kind,d.n,0,d.name⟩) rfl Bd.out #[qi d.kind,qi d.n,qi 0,.string d.name] _ (by simp) rfl rfl (fun _=>False) BR.out (fun b _ h=>h.elim) (by omega) (by decide) (by simp;omega) ?_)
    intro g5 c5 w5 Br Ar Cc;have B5:=hid Br;have AU:=hid Ar;clear Br Ar Bd BR;go_wp2_with fail;go_roundw
    case rel=>exact ⟨j+1,A7++[_],_,by omega,by go_num,rfl,by simp [hacc],BW.out.trans (by rw [HX.out,HN.out]),by rw [zey,vak,hacc];exact B5.out,(AU.out.block _ (by omega)).trans AE.out,C5.out.trans (AU.out.mono (by omega))⟩
    case measure=>simp [intOf];omega
  . obtain rfl:j=m.decls.length:=by omega
    have Lj:Hid (zmu 0 m.decls=(A7,dt)):=by have:=Hu.out;rw [vat] at this;exact this
    have P7:Hid (Row (w.heap.size+1) 98 4 wr u4 m.decls.length (zgb A7)):=hacc ▸ HO.out;obtain ⟨k0,k1,k2,k3,k4,kf⟩:=zaa BN.out;clear Hu hbx HO;go_wp2_with fail;clear k0 k1 k2 k3 k4 kf
    go_loopw [4,9,10,49] (fun v _ _ i wr=>∃ (j:Nat) (DH:List It),j<=m.procs.length/\i=qi j/\DH.length=m.decls.length+j/\DH=A7++zn8 0 (m.procs.take j)/\Row (w.heap.size+1) 98 4 wr v DH.length (zgb DH)/\wr.heap[w.heap.size]? = some (kzG m.name a1 m.uses.length c1 a2 m.decls.length c2 a3 m.procs.length c3 a4 m.main.length c4)/\qb w wr) (fun _ _ _ i _=>m.procs.length - (intOf i).toNat)
    case atStart=>exact ⟨0,A7,vae _,rfl,by rw [hacc,vbs],by simp [zn8],hacc ▸ P7.out,BN.out,HB.out⟩
    case round=>
     clear P7 BN HB BU Cj;obtain ⟨j,DH,hj2,rfl,hac2,hdef,Ab,hbx,hb⟩:=hrel;have HO:=hid Ab;have BN:=hid hbx;have HB:=hid hb;have FQ:=hid hdef;have BU:=hb.size;have Cj:=lt_of_heap hbx;clear Ab hb hdef
     by_cases A0:j<m.procs.length
     . obtain ⟨b,off,q1,d1,q2,d2,q3,d3,rfl,hx⟩:=(N3.out.later HB.out).pr j A0
       obtain ⟨Au,x0,x1,x2,x3,x4,_,_,_,Bq⟩:=hx
       have BW:Hid (DH++[z2r j m.procs[j]]=A7++zn8 0 (m.procs.take (j+1))):=by
        show DH++[z2r j m.procs[j]]=_;rw [vaf A0,zmv,FQ.out,vdf,vbg,vdt (by omega),vax]
       generalize m.procs[j]=p at *;have Bd:Hid (Row (w.heap.size+1) 98 4 (wr.alloc (pU p q1 d1 q2 d2 q3 d3)) u4 DH.length (zgb DH)):=HO.out.alloc _;have BR:Hid (zat (wr.alloc (pU p q1 d1 q2 d2 q3 d3)) (fun _=>False) (itD (z2r j p)) [qi 4,qi p.params.length,qi j,.string p.name]):=zgc Bq;have C5:Hid (qb w (wr.alloc (pU p q1 d1 q2 d2 q3 d3))):=thenB HB.out (al1 _ _);have AE:Hid ((wr.alloc (pU p q1 d1 q2 d2 q3 d3)).heap[w.heap.size]? = some (kzG m.name a1 m.uses.length c1 a2 m.decls.length c2 (some (qa b off)) m.procs.length c3 a4 m.main.length c4)):=zab BN.out;clear Bq hbx
       go_wp2_with (at_builtin;refine zbn rfl (.tmp 54) (.tmp 62) 28 rfl (w.heap.size+1) 98 _ 4 40 Tryz.underlying28 Tryz.infoItem rfl (by decide) (wr.alloc (pU p q1 d1 q2 d2 q3 d3)) u4 DH.length (zgb DH) (itD (z2r j p)) rfl Bd.out #[qi 4,qi p.params.length,qi j,.string p.name] _ (by simp) rfl rfl (fun _=>False) BR.out (fun b _ h=>h.elim) (by omega) (by decide) (by simp;omega) ?_)
       intro g5 c5 w5 Br Ar Cc;have B5:=hid Br;have AU:=hid Ar;clear Br Ar Bd BR;go_wp2_with fail;go_roundw
       case rel=>exact ⟨j+1,DH++[z2r j p],by omega,by go_num,by simp [hac2];omega,BW.out,by rw [zey,vak,hac2];exact B5.out,(AU.out.block _ (by omega)).trans AE.out,C5.out.trans (AU.out.mono (by omega))⟩
       case measure=>simp [intOf];omega
     . obtain rfl:j=m.procs.length:=by omega
       have HI:Hid (za4 m=DH):=by
        show za4 m=DH;rw [FQ.out,vat];unfold za4;rw [Lj.out]
       have Ko:Hid (zbw m=dt):=by show zbw m=dt;unfold zbw;rw [Lj.out]
       obtain ⟨a5,c5,rfl,hea⟩:=HO.out.slice;have Hy:=hid hea;clear hea hbx;go_wp2_with fail;go_ret2;refine ⟨⟨a5,c5,?_,?_⟩,HB.out⟩
       . rw [HI.out,Ko.out,hac2];rfl
       . rw [HI.out]
         exact Hy.out.moves ⟨vaa _,fun b _ h=>⟨by have:w.heap.size+1<=b:=h;show w.heap.size<=b;omega,rfl⟩⟩
set_option maxHeartbeats 1600000
def chkM (m:Mo):Int:=if m.err≠0 then m.err else if Fx.zfk (Fx.zbf m.uses)||Fx.zfk (Fx.zd2 (za4 m)) then 6 else 0
theorem zc9 {w:World} {A:Nat->Prop} {a:OA} {l:List ByteArray} (h:DAt w A a l.length (zaw l)):Fx.zd4 w a l/\∀ s ∈ l,s.size<=maxLen:=by
 refine ⟨?_,fun s hs=>?_⟩
 . rcases h.2.2 with h0 | ⟨b,off,cs,ha,_,hb,hc,hx⟩
   . exact Or.inl (vam h0)
   . refine Or.inr ⟨b,off,ha,hb,fun i hi=>?_⟩
     obtain ⟨v,hv,hd⟩:=hx.get i (.str l[i]) (by simp [zaw,hi]);rw [(zcw hd).1] at hv;exact hc i _ hv
 . obtain ⟨i,hi,rfl⟩:=vay hs
   obtain ⟨b,off,_,_,_,h4⟩:=h.str i hi;exact h4
theorem zp3 {m:Mo} {v:Value} {a1 a2 a3 a4:OA} {c1 c2 c3 c4:Nat} {w:World} (hM:MoAt w Tt m v a1 c1 a2 c2 a3 c3 a4 c4) (h3:m.uses.length<=3) :
 qc 59 #[.slice a1 m.uses.length c1] w fun e w'=>e = .returned (.bool (Fx.zfk (Fx.zbf m.uses)))/\qb w w':=
 Fx.zfb a1 c1 m.uses w (zc9 hM.uses).1 (by omega) (zc9 hM.uses).2
theorem zrx {w:World} {B:Nat} {v:Value} {l:List It} (h:w.ownsRow B 9 1 v l.length (Fx.zvo l)) (hl:l.length<=1000000) (hf:Fx.AllFit l) :
 qc 59 #[v] w fun e w'=>e = .returned (.bool (Fx.zfk (Fx.zd2 l)))/\qb w w':=by
 obtain ⟨a,c,rfl,hS⟩:=Fx.zt6 h;rw [← Fx.zkz]
 exact Fx.zfb a c _ w hS (by rw [vcq];omega) (fun s h=>by
  obtain ⟨i,hi,rfl⟩:=vcw.1 h
  exact hf i hi)
theorem zf1 (m:Mo) (v:Value) (a1:OA) (c1:Nat) (a2:OA) (c2:Nat) (a3:OA) (c3:Nat) (a4:OA) (c4:Nat) (w:World) (hM:MoAt w Tt m v a1 c1 a2 c2 a3 c3 a4 c4) :
 qc 48 #[v] w fun e w'=>e = .returned (qi (chkM m))/\qb w w':=by
 obtain rfl:=hM.val;have HM:=hid hM;have HC:=hid (zmp m _ a1 c1 a2 c2 a3 c3 a4 c4 (w.alloc (kzG m.name a1 m.uses.length c1 a2 m.decls.length c2 a3 m.procs.length c3 a4 m.main.length c4)) (hM.later (al1 _ _)));clear hM
 obtain ⟨r,hr⟩:∃ r,r=chkM m:=⟨_,rfl⟩
 rw [← hr];have HR:=hid hr;clear hr;go_enter Tryz.func48,Tryz.ntmps48;go_wp2_with fail;refine HC.out.mono ?_;rintro e w1 ⟨rfl,A5⟩;have A8:=hid (thenB (al1 w _) A5);have Ao:=A5.size;simp at Ao;have q1:=(A5.block _ (by simp)).trans (heap_newP w _);have JW:=hid q1;obtain ⟨x0,x1,x2,x3,x4,xf⟩:=zaa q1;have Cz:=lt_of_heap q1;clear A5 q1 HC
 by_cases he:m.err=0
 . have Cr:=zyi he
   have KB:=(zex he).1;have Bh:=hid (zh8 m _ a1 c1 a2 c2 a3 c3 a4 c4 w1 (HM.out.later A8.out) Cr);have Am:Hid (r=if Fx.zfk (Fx.zbf m.uses)||Fx.zfk (Fx.zd2 (za4 m)) then 6 else 0):=HR.out.trans (if_neg (by simp [he]))
   have Kb:Hid ((za4 m).length<=16):=by have h1:=Cr.decls;have h2:=Cr.procs;show (za4 m).length<=16;rw [zf0];omega
   clear Cr HR;go_wp2_with fail;refine Bh.out.mono ?_;rintro e w2 ⟨⟨ai,ci,rfl,hit⟩,Aa⟩;have Ad:=hid (thenB A8.out Aa);have AA:=Aa.size;have La:=hid ((Aa.block _ Cz).trans JW.out);obtain ⟨HI,HF⟩:=zn9 hit;have Kh:=hid HI;have Kk:=hid HF;clear Aa Bh hit HI HF x0 x1 x2 x3 x4 xf;obtain ⟨x0,x1,x2,x3,x4,xf⟩:=zaa La.out;have Cg:=lt_of_heap La.out;have BF:=hid (zp3 (HM.out.later Ad.out) KB)
   cases C8:Fx.zfk (Fx.zbf m.uses) with
   | true=>
     rw [C8] at BF Am;have Av:Hid (r=6):=Am.out;clear C8 Am;go_wp2_with fail;refine BF.out.mono ?_;rintro e w3 ⟨rfl,A9⟩;have Af:=hid (thenB Ad.out A9);clear A9;go_wp2_with fail;go_ret;exact ⟨ret_int Av.out.symm,Af.out⟩
   | false=>
     rw [C8] at BF Am;clear C8;go_wp2_with fail;refine BF.out.mono ?_;rintro e w3 ⟨rfl,A9⟩;have Af:=hid (thenB Ad.out A9);have CU:=hid (Fx.zhp ai ci (za4 m) w3 (Kh.out.later A9) (by have:=Kb.out;omega));clear A9;go_wp2_with fail;refine CU.out.mono ?_;rintro e w4 ⟨v4,rfl,ho4,Ah⟩;have An:=hid (thenB Af.out Ah);have BX:=hid (zrx ho4 (by have:=Kb.out;omega) Kk.out);clear Ah ho4;go_wp2_with fail;refine BX.out.mono ?_;rintro e w5 ⟨rfl,Aq⟩;have Ar:=hid (thenB An.out Aq);clear Aq
     cases Df:Fx.zfk (Fx.zd2 (za4 m)) with
     | true=>
       have Av:Hid (r=6):=Am.out.trans (by rw [Df];rfl);clear Df Am;go_wp2_with fail;go_ret;exact ⟨ret_int Av.out.symm,Ar.out⟩
     | false=>
       have Av:Hid (r=0):=Am.out.trans (by rw [Df];rfl);clear Df Am;go_wp2_with fail;go_ret;exact ⟨ret_int Av.out.symm,Ar.out⟩
 . have Am:Hid (r=m.err):=HR.out.trans (if_pos he)
   go_wp2_with fail;go_ret;exact ⟨ret_int Am.out.symm,A8.out⟩
set_option maxHeartbeats 3200000
def pick (bs:List Bool) (l:List It):List It:=(bs.zip l).filterMap fun p=>if p.1 then some p.2 else none
def zjj (m:Mo):List Bool:=m.decls.map De.pub++m.procs.map Pr.pub
def shownIts (m:Mo):List It:=pick (zjj m) (za4 m)
theorem zhh (m:Mo):(zjj m).length=m.decls.length+m.procs.length:=by simp [zjj]
theorem zyj (m:Mo) (j:Nat) (h:j<m.decls.length):(zjj m)[j]'(by rw [zhh];omega)=m.decls[j].pub:=by
 unfold zjj;rw [vch (by simpa using h)];simp
theorem zyk (m:Mo) (j:Nat) (h:j<m.procs.length):(zjj m)[m.decls.length+j]'(by rw [zhh];omega)=m.procs[j].pub:=by
 unfold zjj;rw [List.getElem_append_right (by simp)];simp
theorem zp4 (bs:List Bool) (l:List It) (k:Nat) (hb:k<bs.length) (hl:k<l.length):pick (bs.take (k+1)) (l.take (k+1))=pick (bs.take k) (l.take k)++if bs[k] then [l[k]] else []:=by
 unfold pick;rw [vaf hb,vaf hl,List.zip_append (by simp;omega),List.filterMap_append]
 congr 1
 cases bs[k]<;>rfl
theorem zyl (m:Mo) (v:Value) (a1:OA) (c1:Nat) (a2:OA) (c2:Nat) (a3:OA) (c3:Nat) (a4:OA) (c4:Nat) (items:List It) (ai:OA) (ci:Nat) (w:World) (hM:MoAt w Tt m v a1 c1 a2 c2 a3 c3 a4 c4) (C0:LayOk m) (Ai:items.length=m.decls.length+m.procs.length) (hI:Fx.zcj w ai items) (hF:Fx.AllFit items) :
 qc 50 #[v,.slice ai items.length ci] w fun e w'=>(∃ a cap,e = .returned (.slice a (pick (zjj m) items).length cap)/\EAt w' (w.heap.size<=·) a (pick (zjj m) items).length (zgb (pick (zjj m) items)))/\qb w w':=by
 obtain rfl:=hM.val;have Nv:=hid hM.decls;have N3:=hid hM.procs;have Kh:=hid hI;have Kk:=hid hF;have DN:=hid Ai;have Js:=C0.decls;have O8:=C0.procs;clear hM C0 hI hF Ai;go_enter Tryz.func50,Tryz.ntmps50;go_wp2_with fail
 go_loopw [5,6,7,13] (fun v _ _ i wr=>∃ (j:Nat) (A7:List It),j<=m.decls.length/\i=qi j/\A7.length<=j/\A7=pick ((zjj m).take j) (items.take j)/\Row (w.heap.size+1) 98 4 wr v A7.length (zgb A7)/\wr.heap[w.heap.size]? = some (kzG m.name a1 m.uses.length c1 a2 m.decls.length c2 a3 m.procs.length c3 a4 m.main.length c4)/\qb w wr) (fun _ _ _ i _=>m.decls.length - (intOf i).toNat)
 case atStart=>exact ⟨0,[],vae _,rfl,vaa _,by simp [pick],Row.nil _ _ _ _,heap_newP _ _,al1 _ _⟩
 case round=>
  obtain ⟨j,A7,hj,rfl,hacc,hdef,Ab,hbx,hb⟩:=hrel;have HO:=hid Ab;have BN:=hid hbx;have HB:=hid hb;have FQ:=hid hdef;have BU:=hb.size;have Cj:=lt_of_heap hbx;clear Ab hb hdef
  by_cases A0:j<m.decls.length
  . have Ii:j<items.length:=by have:=DN.out;omega
    have BW:Hid (pick ((zjj m).take (j+1)) (items.take (j+1))=A7++if m.decls[j].pub then [items[j]] else []):=by
     show pick ((zjj m).take (j+1)) (items.take (j+1))=_;rw [zp4 _ _ j (by rw [zhh];omega) Ii,zyj m j A0,← FQ.out]
    have GB:=Kk.out items[j] (vag _);have Dp:=hid ((Kh.out.later HB.out).place Ii);obtain ⟨b,off,rfl,hx⟩:=(Nv.out.later HB.out).de j A0;obtain ⟨Au,x0,x1,xp,x3,_,_,Bq⟩:=hx;obtain ⟨b2,off2,rfl,hbl2,i0,i1,i2,i3⟩:=Dp.out
    have Qr:(j:Int)<items.length:=by omega
    clear Dp;generalize m.decls[j]=d at *;generalize items[j]=x at *
    cases BZ:d.pub with
    | true=>
      have Bd:Hid (Row (w.heap.size+1) 98 4 (wr.alloc (kzH d.kind d.name d.pub d.n)) u5 A7.length (zgb A7)):=HO.out.alloc _;have BR:Hid (zat (wr.alloc (kzH d.kind d.name d.pub d.n)) (fun _=>False) (itD x) [qi x.kind,qi x.n,qi x.at_,.string x.name]):=zgc GB;have AE:Hid ((wr.alloc (kzH d.kind d.name d.pub d.n)).heap[w.heap.size]? = some (kzG m.name a1 m.uses.length c1 (some (qa b off)) m.decls.length c2 a3 m.procs.length c3 a4 m.main.length c4)):=zab BN.out;have C5:Hid (qb w (wr.alloc (kzH d.kind d.name d.pub d.n))):=thenB HB.out (al1 _ _);have EM:Hid (pick ((zjj m).take (j+1)) (items.take (j+1))=A7++[x]):=BW.out.trans (by rw [BZ];rfl);rw [BZ] at Bd BR AE C5;clear GB hbx BW;rw [BZ] at xp
      go_wp2_with (at_builtin;refine zbn rfl (.tmp 20) (.tmp 25) 28 rfl (w.heap.size+1) 98 _ 4 40 Tryz.underlying28 Tryz.infoItem rfl (by decide) (wr.alloc (kzH d.kind d.name true d.n)) u5 A7.length (zgb A7) (itD x) rfl Bd.out #[qi x.kind,qi x.n,qi x.at_,.string x.name] _ (by simp) rfl rfl (fun _=>False) BR.out (fun b _ h=>h.elim) (by omega) (by decide) (by simp;omega) ?_)
      intro g5 c5 w5 Br Ar Cc;have B5:=hid Br;have AU:=hid Ar;clear Br Ar Bd BR;go_wp2_with fail;go_roundw
      case rel=>exact ⟨j+1,A7++[x],by omega,by go_num,by rw [vak];simp;omega,EM.out.symm,by rw [zey,vak];exact B5.out,(AU.out.block _ (by omega)).trans AE.out,C5.out.trans (AU.out.mono (by omega))⟩
      case measure=>simp [intOf];omega
    | false=>
      have Bd:Hid (Row (w.heap.size+1) 98 4 (wr.alloc (kzH d.kind d.name d.pub d.n)) u5 A7.length (zgb A7)):=HO.out.alloc _;have AE:Hid ((wr.alloc (kzH d.kind d.name d.pub d.n)).heap[w.heap.size]? = some (kzG m.name a1 m.uses.length c1 (some (qa b off)) m.decls.length c2 a3 m.procs.length c3 a4 m.main.length c4)):=zab BN.out;have C5:Hid (qb w (wr.alloc (kzH d.kind d.name d.pub d.n))):=thenB HB.out (al1 _ _);have EM:Hid (pick ((zjj m).take (j+1)) (items.take (j+1))=A7):=BW.out.trans (by rw [BZ];simp);rw [BZ] at Bd AE C5;clear GB hbx BW;rw [BZ] at xp;go_wp2_with fail;go_roundw
      case rel=>exact ⟨j+1,A7,by omega,by go_num,by omega,EM.out.symm,Bd.out,AE.out,C5.out⟩
      case measure=>simp [intOf];omega
  . obtain rfl:j=m.decls.length:=by omega
    have PA:Hid (A7=pick ((zjj m).take m.decls.length) (items.take m.decls.length)):=FQ.out;obtain ⟨k0,k1,k2,k3,k4,kf⟩:=zaa BN.out;clear FQ hbx;go_wp2_with fail;clear k0 k1 k2 k3 k4 kf
    go_loopw [5,8,9,31] (fun v _ _ i wr=>∃ (j:Nat) (A7:List It),j<=m.procs.length/\i=qi j/\A7.length<=m.decls.length+j/\A7=pick ((zjj m).take (m.decls.length+j)) (items.take (m.decls.length+j))/\Row (w.heap.size+1) 98 4 wr v A7.length (zgb A7)/\wr.heap[w.heap.size]? = some (kzG m.name a1 m.uses.length c1 a2 m.decls.length c2 a3 m.procs.length c3 a4 m.main.length c4)/\qb w wr) (fun _ _ _ i _=>m.procs.length - (intOf i).toNat)
    case atStart=>exact ⟨0,A7,vae _,rfl,hacc,PA.out,HO.out,BN.out,HB.out⟩
    case round=>
     clear HO BN HB BU Cj PA hacc;obtain ⟨j,A7,hj2,rfl,hacc,hdef,Ab,hbx,hb⟩:=hrel;have HO:=hid Ab;have BN:=hid hbx;have HB:=hid hb;have FQ:=hid hdef;have BU:=hb.size;have Cj:=lt_of_heap hbx;clear Ab hb hdef
     by_cases A0:j<m.procs.length
     . have Ii:m.decls.length+j<items.length:=by have:=DN.out;omega
       have BW:Hid (pick ((zjj m).take (m.decls.length+(j+1))) (items.take (m.decls.length+(j+1)))=A7++if m.procs[j].pub then [items[m.decls.length+j]] else []):=by
        show pick ((zjj m).take (m.decls.length+j+1)) (items.take (m.decls.length+j+1))=_;rw [zp4 _ _ (m.decls.length+j) (by rw [zhh];omega) Ii,zyk m j A0,← FQ.out]
       have GB:=Kk.out items[m.decls.length+j] (vag _);have Dp:=hid ((Kh.out.later HB.out).place Ii);obtain ⟨b,off,q1,d1,q2,d2,q3,d3,rfl,hx⟩:=(N3.out.later HB.out).pr j A0;obtain ⟨Au,x0,xp,x2,x3,x4,_,_,_,Bq⟩:=hx;obtain ⟨b2,off2,rfl,hbl2,i0,i1,i2,i3⟩:=Dp.out
       have Mt:((m.decls.length:Int)+(j:Int))=((m.decls.length+j:Nat):Int):=by omega
       have IZ:IntKind.i64.wrap ((m.decls.length:Int)+(j:Int))=((m.decls.length+j:Nat):Int):=by simp only [IntKind.wrap,IntKind.bits,IntKind.signed];simp;omega
       have Qr:((m.decls.length+j:Nat):Int)<items.length:=by omega
       have T6:(0:Int)<=((m.decls.length+j:Nat):Int):=by omega
       obtain ⟨k0,k1,k2,k3,k4,kf⟩:=zaa BN.out;clear Dp Mt;generalize m.procs[j]=p at *;generalize items[m.decls.length+j]=x at *
       cases BZ:p.pub with
       | true=>
         have Bd:Hid (Row (w.heap.size+1) 98 4 (wr.alloc (kzK p.name p.pub q1 p.params.length d1 q2 p.locals.length d2 q3 p.body.length d3)) u5 A7.length (zgb A7)):=HO.out.alloc _;have BR:Hid (zat (wr.alloc (kzK p.name p.pub q1 p.params.length d1 q2 p.locals.length d2 q3 p.body.length d3)) (fun _=>False) (itD x) [qi x.kind,qi x.n,qi x.at_,.string x.name]):=zgc GB;have AE:Hid ((wr.alloc (kzK p.name p.pub q1 p.params.length d1 q2 p.locals.length d2 q3 p.body.length d3)).heap[w.heap.size]? = some (kzG m.name a1 m.uses.length c1 a2 m.decls.length c2 (some (qa b off)) m.procs.length c3 a4 m.main.length c4)):=zab BN.out;have C5:Hid (qb w (wr.alloc (kzK p.name p.pub q1 p.params.length d1 q2 p.locals.length d2 q3 p.body.length d3))):=thenB HB.out (al1 _ _);have EM:Hid (pick ((zjj m).take (m.decls.length+(j+1))) (items.take (m.decls.length+(j+1)))=A7++[x]):=BW.out.trans (by rw [BZ];rfl)
         rw [BZ] at Bd BR AE C5;clear GB hbx BW;rw [BZ] at xp
         go_wp2_with (at_builtin;refine zbn rfl (.tmp 38) (.tmp 47) 28 rfl (w.heap.size+1) 98 _ 4 40 Tryz.underlying28 Tryz.infoItem rfl (by decide) (wr.alloc (kzK p.name true q1 p.params.length d1 q2 p.locals.length d2 q3 p.body.length d3)) u5 A7.length (zgb A7) (itD x) rfl Bd.out #[qi x.kind,qi x.n,qi x.at_,.string x.name] _ (by simp) rfl rfl (fun _=>False) BR.out (fun b _ h=>h.elim) (by omega) (by decide) (by simp;omega) ?_)
         intro g5 c5 w5 Br Ar Cc;have B5:=hid Br;have AU:=hid Ar;clear Br Ar Bd BR;go_wp2_with fail;go_roundw
         case rel=>exact ⟨j+1,A7++[x],by omega,by go_num,by rw [vak];simp;omega,EM.out.symm,by rw [zey,vak];exact B5.out,(AU.out.block _ (by omega)).trans AE.out,C5.out.trans (AU.out.mono (by omega))⟩
         case measure=>simp [intOf];omega
       | false=>
         have Bd:Hid (Row (w.heap.size+1) 98 4 (wr.alloc (kzK p.name p.pub q1 p.params.length d1 q2 p.locals.length d2 q3 p.body.length d3)) u5 A7.length (zgb A7)):=HO.out.alloc _;have AE:Hid ((wr.alloc (kzK p.name p.pub q1 p.params.length d1 q2 p.locals.length d2 q3 p.body.length d3)).heap[w.heap.size]? = some (kzG m.name a1 m.uses.length c1 a2 m.decls.length c2 (some (qa b off)) m.procs.length c3 a4 m.main.length c4)):=zab BN.out;have C5:Hid (qb w (wr.alloc (kzK p.name p.pub q1 p.params.length d1 q2 p.locals.length d2 q3 p.body.length d3))):=thenB HB.out (al1 _ _);have EM:Hid (pick ((zjj m).take (m.decls.length+(j+1))) (items.take (m.decls.length+(j+1)))=A7):=BW.out.trans (by rw [BZ];simp);rw [BZ] at Bd AE C5;clear GB hbx BW;rw [BZ] at xp;go_wp2_with fail;go_roundw
         case rel=>exact ⟨j+1,A7,by omega,by go_num,by omega,EM.out.symm,Bd.out,AE.out,C5.out⟩
         case measure=>simp [intOf];omega
     . obtain rfl:j=m.procs.length:=by omega
       have HR:Hid (pick (zjj m) items=A7):=by
        show pick (zjj m) items=A7;rw [FQ.out,vau (by rw [zhh];omega),vau (by rw [DN.out];omega)]
       obtain ⟨a5,c5,rfl,hea⟩:=HO.out.slice;have Hy:=hid hea;clear hea hbx;go_wp2_with fail;go_ret;refine ⟨⟨a5,c5,?_,?_⟩,HB.out⟩
       . rw [HR.out];rfl
       . rw [HR.out]
         exact Hy.out.moves ⟨vaa _,fun b _ h=>⟨by have:w.heap.size+1<=b:=h;show w.heap.size<=b;omega,rfl⟩⟩
end Go.Proofs.YtndkhgakfodldaaGreatDoor

namespace Go.Proofs.YtndkhgakfodldaaGreatDoor
set_option maxRecDepth 100000
set_option maxHeartbeats 3200000
open Go.RowKit Go.Maps Go.WideMaps Go.Shelf
set_option linter.unusedSimpArgs false
def zry (lo:Nat) (m:Mo) (e:Ending) (w:World):Prop:=
 (chkM m≠0/\e = .returned (.tuple #[.agg #[.string ⟨#[]⟩,qs],qi (chkM m)]))\/
 (chkM m=0/\∃ a cap,e = .returned (.tuple #[.agg #[.string m.name,.slice a (shownIts m).length cap],qi 0])/\EAt w (lo<=·) a (shownIts m).length (zgb (shownIts m)))
theorem zoa {m:Mo} (h:chkM m=0):m.err=0:=by
 unfold chkM at h
 by_cases he:m.err=0
 . exact he
 . rw [if_pos he] at h;exact h
theorem z9u {w:World} {b:Nat} {x0 x1 x2 x3 x4:Value} {t:TypeId} (h:w.heap[b]? = some (.cells #[x0,x1,x2,x3,x4] t (0,0))):w.cell? (qa b 0)=some x0/\w.cell? (qa b 1)=some x1/\w.cell? (qa b 2)=some x2/\w.cell? (qa b 3)=some x3/\w.cell? (qa b 4)=some x4:=by
 obtain ⟨h0,h1,h2,h3,h4,_⟩:=zaa h;exact ⟨h0,h1,h2,h3,h4⟩
theorem z1i {W:World} {b c:Nat} (hn:b≠c) {x0 x1 x2 x3 x4:Value} (h:W.cell? (qa b 0)=some x0/\W.cell? (qa b 1)=some x1/\W.cell? (qa b 2)=some x2/\W.cell? (qa b 3)=some x3/\W.cell? (qa b 4)=some x4) (u v:Value) :
 ((W.setCell (qa c 0) u).setCell (qa c 1) v).cell? (qa b 0)=some x0/\((W.setCell (qa c 0) u).setCell (qa c 1) v).cell? (qa b 1)=some x1/\((W.setCell (qa c 0) u).setCell (qa c 1) v).cell? (qa b 2)=some x2/\((W.setCell (qa c 0) u).setCell (qa c 1) v).cell? (qa b 3)=some x3/\((W.setCell (qa c 0) u).setCell (qa c 1) v).cell? (qa b 4)=some x4:=by
 have e:((W.setCell (qa c 0) u).setCell (qa c 1) v).heap[b]? = W.heap[b]?:=(heap_set_ne hn _).trans (heap_set_ne hn _)
 have g:∀ o,((W.setCell (qa c 0) u).setCell (qa c 1) v).cell? (qa b o)=W.cell? (qa b o):=fun o=>ves (w:=W) (a:=(qa b o)) e
 exact ⟨(g 0).trans h.1,(g 1).trans h.2.1,(g 2).trans h.2.2.1,(g 3).trans h.2.2.2.1,(g 4).trans h.2.2.2.2⟩
theorem z1j (m:Mo) (v:Value) (a1:OA) (c1:Nat) (a2:OA) (c2:Nat) (a3:OA) (c3:Nat) (a4:OA) (c4:Nat) (w:World) (hM:MoAt w Tt m v a1 c1 a2 c2 a3 c3 a4 c4) :
 qc 15 #[v] w fun e w'=>zry w.heap.size m e w'/\qb w w':=by
 obtain rfl:=hM.val;have HM:=hid hM;have HC:=hid (zf1 m _ a1 c1 a2 c2 a3 c3 a4 c4 ((w.alloc (kzG m.name a1 m.uses.length c1 a2 m.decls.length c2 a3 m.procs.length c3 a4 m.main.length c4)).alloc (.cells #[.string ⟨#[]⟩,qs] 30)) (hM.later (bl2 _ _ _)));clear hM;go_enter Tryz.func15,Tryz.ntmps15;go_wp2_with fail;refine HC.out.mono ?_;rintro e w1 ⟨rfl,A5⟩;have A8:=hid (thenB (bl2 w _ _) A5);have Ao:=A5.size;simp at Ao;have q1:=(A5.block w.heap.size (by simp;omega)).trans (zab (heap_newP w _));have q2:w1.heap[w.heap.size+1]? = some (.cells #[.string ⟨#[]⟩,qs] 30):=(A5.block (w.heap.size+1) (by simp)).trans (by simpa using heap_newP (w.alloc _) _);have JW:=hid q1;have La:=hid q2;obtain ⟨x0,x1,x2,x3,x4,xf⟩:=zaa q1;obtain ⟨y0,y1,yf⟩:=zcd q2;have Cz:=lt_of_heap q1;have Cg:=lt_of_heap q2;clear A5 q1 q2 HC
 by_cases hc:chkM m=0
 . have Cr:=zyi (zoa hc)
   have Gk:=hid Cr;have Bh:=hid (zh8 m _ a1 c1 a2 c2 a3 c3 a4 c4 w1 (HM.out.later A8.out) Cr);have HZ:=hid hc;clear Cr;rw [hc];clear hc;go_wp2_with fail;refine Bh.out.mono ?_;rintro e w2 ⟨⟨ai,ci,rfl,hit⟩,Aa⟩;have Ad:=hid (thenB A8.out Aa);have AA:=Aa.size;have Bc:=hid ((Aa.block _ Cz).trans JW.out);have BM:=hid ((Aa.block _ Cg).trans La.out);obtain ⟨HI,HF⟩:=zn9 hit;have BF:=hid (fun W (hW:qb w2 W)=>zyl m _ a1 c1 a2 c2 a3 c3 a4 c4 (za4 m) ai ci W (HM.out.later (thenB Ad.out hW)) Gk.out (zf0 m) (HI.later hW) HF);clear Aa Bh hit HI HF x0 x1 x2 x3 x4 xf y0 y1 yf;obtain ⟨x0,x1,x2,x3,x4,xf⟩:=zaa Bc.out;obtain ⟨y0,y1,yf⟩:=zcd BM.out;have M1:=lt_of_heap Bc.out;have Jk:=lt_of_heap BM.out;have HS:=hid (fun W (hW:qb w2 W)=>z9u ((hW.block _ M1).trans Bc.out))
   have FF:=hid (HS.out _ (Below.refl _ w2).drew);have Rv:=hid (fun W (hW:qb w2 W)=>zcd ((hW.block _ Jk).trans BM.out));go_wp2_with fail;clear x0 x1 x2 x3 x4 xf y0 y1 yf
   go_region_held (fun W=>W.cell? (qa w.heap.size 0)=some (.string m.name)/\W.cell? (qa w.heap.size 1)=some (.slice a1 m.uses.length c1)/\W.cell? (qa w.heap.size 2)=some (.slice a2 m.decls.length c2)/\W.cell? (qa w.heap.size 3)=some (.slice a3 m.procs.length c3)/\W.cell? (qa w.heap.size 4)=some (.slice a4 m.main.length c4)) (first | exact FF.out | exact z1i (by omega) FF.out _ _)
    (first | (go_at_call 50;refine (BF.out _ (Below.refl _ w2).drew).mono ?_;rintro e w3 ⟨⟨a5,c5,rfl,he5⟩,A9⟩;have Af:=hid (thenB (Below.refl _ w2).drew A9);have Nu:=hid he5;clear he5 A9;have FF:=hid (HS.out _ Af.out);obtain ⟨y0,y1,yf⟩:=Rv.out _ Af.out;have CR:w.heap.size+1<w3.heap.size:=vah Jk Af.out.size))
   all_goals
    go_wp2_with fail;refine bodyPost_ret (v:=.tuple #[.agg #[.string m.name,.slice a5 (pick (zjj m) (za4 m)).length c5],qi 0]) (by simp [results,Tryz.results15,go_sem,y0,y1,CR]) rfl ⟨Or.inr ⟨HZ.out,a5,c5,rfl,?_⟩,?_⟩
    . exact (Nu.out.moves (((zad.refl w3 _).set (p:=⟨w.heap.size+1,0,none⟩) (by intro b _ hb;have:w2.heap.size<=b:=hb;show b≠w.heap.size+1;omega) _).set (p:=⟨w.heap.size+1,1,none⟩) (by intro b _ hb;have:w2.heap.size<=b:=hb;show b≠w.heap.size+1;omega) _)).moves ⟨vaa _,fun b _ h=>⟨by have:w2.heap.size<=b:=h;show w.heap.size<=b;omega,rfl⟩⟩
    . exact ((thenB Ad.out Af.out).setCell (p:=⟨w.heap.size+1,0,none⟩) (by show w.heap.size<=w.heap.size+1;omega) _).setCell (p:=⟨w.heap.size+1,1,none⟩) (by show w.heap.size<=w.heap.size+1;omega) _
 . have HF:Hid (zry w.heap.size m (.returned (.tuple #[.agg #[.string ⟨#[]⟩,qs],qi (chkM m)])) ((w1.setCell ⟨w.heap.size+1,0,none⟩ (.string ⟨#[]⟩)).setCell ⟨w.heap.size+1,1,none⟩ (qs))):=Or.inl ⟨hc,rfl⟩
   go_wp2_with fail;refine bodyPost_ret (v:=.tuple #[.agg #[.string ⟨#[]⟩,qs],qi (chkM m)]) (by simp [results,Tryz.results15,go_sem,y0,y1,Cg]) rfl ⟨HF.out,?_⟩;exact (A8.out.setCell (p:=⟨w.heap.size+1,0,none⟩) (by show w.heap.size<=w.heap.size+1;omega) _).setCell (p:=⟨w.heap.size+1,1,none⟩) (by show w.heap.size<=w.heap.size+1;omega) _
end Go.Proofs.YtndkhgakfodldaaGreatDoor

namespace Go.Proofs.YtndkhgakfodldaaGreatDoor
open Go.RowKit
set_option linter.unusedSimpArgs false
theorem ztt:∀ (l:List Nd) (i:Nat) (h:i<l.length) (j:Nat),j<5->(zc2 l)[i*5+j]? = (l[i].ds)[j]?
 | [],i,h,_,_=>by simp at h
 | x :: r,0,_,j,hj=>by
   have:=x.ds_len;simp only [zc2,vbl];rw [vba (by omega),vbk,vax]
 | x :: r,i+1,h,j,hj=>by
   have:=x.ds_len;simp only [zc2,vbt];rw [vbh (by omega),show (i+1)*5+j - x.ds.length=i*5+j from by omega];exact ztt r i (by simpa using h) j hj
theorem ztu:∀ (l:List Ac) (i:Nat) (h:i<l.length) (j:Nat),j<7->(zc7 l)[i*7+j]? = (l[i].ds)[j]?
 | [],i,h,_,_=>by simp at h
 | x :: r,0,_,j,hj=>by
   have:=x.ds_len;simp only [zc7,vbl];rw [vba (by omega),vbk,vax]
 | x :: r,i+1,h,j,hj=>by
   have:=x.ds_len;simp only [zc7,vbt];rw [vbh (by omega),show (i+1)*7+j - x.ds.length=i*7+j from by omega];exact ztu r i (by simpa using h) j hj
def Un.ds (u:Un):List D:=[.str u.name,.list u.uses.length (zaw u.uses),.int u.data,.list u.parts.length (zke u.parts),.list u.main.length (zc7 u.main)]
def z1k (l:List Un):List D:=l.flatMap Un.ds
structure NdAt (w:World) (A:Nat->Prop) (b o:Nat) (x:Nd) (a1:OA) (k1:Nat):Prop where
 lt:b<w.heap.size
 c0:w.cell? (qa b o)=some (qi x.op)
 c1:w.cell? ⟨b,o+1,none⟩=some (qi x.n)
 c2:w.cell? ⟨b,o+2,none⟩=some (qi x.m)
 c3:w.cell? ⟨b,o+3,none⟩=some (qi x.at_)
 c4:w.cell? ⟨b,o+4,none⟩=some (.slice a1 x.args.length k1)
 args':DAt w A a1 x.args.length (zc2 x.args)
 w0:(Lit.int .i64 x.op).wf=true
 w1:(Lit.int .i64 x.n).wf=true
 w2:(Lit.int .i64 x.m).wf=true
 w3:(Lit.int .i64 x.at_).wf=true
theorem DAt.nd {w:World} {A:Nat->Prop} {a:OA} {l:List Nd} (h:DAt w A a l.length (zc2 l)) (i:Nat) (hi:i<l.length):∃ b off a1 k1,a=some (qa b off)/\NdAt w A b (off+i*5) l[i] a1 k1:=by
 obtain ⟨b,off,ha,hb,hc⟩:=h.cell (by omega);generalize hx:l[i]=x;obtain ⟨op,n,m,at_,args⟩:=x
 have g:∀ j d,j<5->(Nd.mk op n m at_ args).ds[j]? = some d->∃ v,w.cell? ⟨b,off+i*5+j,none⟩=some v/\zcv w A d v:=fun j d hj hd=>by
  rw [vbm];exact hc (i*5+j) d ((ztt l i hi j hj).trans (by rw [hx];exact hd))
 obtain ⟨v0,q0,d0⟩:=g 0 (.int op) (by omega) (by simp [Nd.ds]);obtain ⟨v1,q1,d1⟩:=g 1 (.int n) (by omega) (by simp [Nd.ds]);obtain ⟨v2,q2,d2⟩:=g 2 (.int m) (by omega) (by simp [Nd.ds]);obtain ⟨v3,q3,d3⟩:=g 3 (.int at_) (by omega) (by simp [Nd.ds]);obtain ⟨v4,q4,d4⟩:=g 4 (.list args.length (zc2 args)) (by omega) (by simp [Nd.ds]);obtain ⟨rfl,w0⟩:=zaz d0;obtain ⟨rfl,w1⟩:=zaz d1;obtain ⟨rfl,w2⟩:=zaz d2;obtain ⟨rfl,w3⟩:=zaz d3;obtain ⟨a1,k1,rfl,h1⟩:=zav d4;exact ⟨b,off,a1,k1,ha,hb,q0,q1,q2,q3,q4,h1,w0,w1,w2,w3⟩
structure AcAt (w:World) (A:Nat->Prop) (b o:Nat) (x:Ac) (a1:OA) (k1:Nat) (a2:OA) (k2:Nat) (a3:OA) (k3:Nat):Prop where
 lt:b<w.heap.size
 c0:w.cell? (qa b o)=some (qi x.op)
 c1:w.cell? ⟨b,o+1,none⟩=some (qi x.n)
 c2:w.cell? ⟨b,o+2,none⟩=some (qi x.m)
 c3:w.cell? ⟨b,o+3,none⟩=some (qi x.at_)
 c4:w.cell? ⟨b,o+4,none⟩=some (.slice a1 x.args.length k1)
 c5:w.cell? ⟨b,o+5,none⟩=some (.slice a2 x.body.length k2)
 c6:w.cell? ⟨b,o+6,none⟩=some (.slice a3 x.other.length k3)
 args':DAt w A a1 x.args.length (zc2 x.args)
 body':DAt w A a2 x.body.length (zc7 x.body)
 other':DAt w A a3 x.other.length (zc7 x.other)
 w0:(Lit.int .i64 x.op).wf=true
 w1:(Lit.int .i64 x.n).wf=true
 w2:(Lit.int .i64 x.m).wf=true
 w3:(Lit.int .i64 x.at_).wf=true
theorem DAt.ac {w:World} {A:Nat->Prop} {a:OA} {l:List Ac} (h:DAt w A a l.length (zc7 l)) (i:Nat) (hi:i<l.length):∃ b off a1 k1 a2 k2 a3 k3,a=some (qa b off)/\AcAt w A b (off+i*7) l[i] a1 k1 a2 k2 a3 k3:=by
 obtain ⟨b,off,ha,hb,hc⟩:=h.cell (by omega);generalize hx:l[i]=x;obtain ⟨op,n,m,at_,args,body,other⟩:=x
 have g:∀ j d,j<7->(Ac.mk op n m at_ args body other).ds[j]? = some d->∃ v,w.cell? ⟨b,off+i*7+j,none⟩=some v/\zcv w A d v:=fun j d hj hd=>by
  rw [vbm];exact hc (i*7+j) d ((ztu l i hi j hj).trans (by rw [hx];exact hd))
 obtain ⟨v0,q0,d0⟩:=g 0 (.int op) (by omega) (by simp [Ac.ds]);obtain ⟨v1,q1,d1⟩:=g 1 (.int n) (by omega) (by simp [Ac.ds]);obtain ⟨v2,q2,d2⟩:=g 2 (.int m) (by omega) (by simp [Ac.ds]);obtain ⟨v3,q3,d3⟩:=g 3 (.int at_) (by omega) (by simp [Ac.ds]);obtain ⟨v4,q4,d4⟩:=g 4 (.list args.length (zc2 args)) (by omega) (by simp [Ac.ds]);obtain ⟨v5,q5,d5⟩:=g 5 (.list body.length (zc7 body)) (by omega) (by simp [Ac.ds]);obtain ⟨v6,q6,d6⟩:=g 6 (.list other.length (zc7 other)) (by omega) (by simp [Ac.ds]);obtain ⟨rfl,w0⟩:=zaz d0;obtain ⟨rfl,w1⟩:=zaz d1;obtain ⟨rfl,w2⟩:=zaz d2;obtain ⟨rfl,w3⟩:=zaz d3;obtain ⟨a1,k1,rfl,h1⟩:=zav d4;obtain ⟨a2,k2,rfl,h2⟩:=zav d5;obtain ⟨a3,k3,rfl,h3⟩:=zav d6;exact ⟨b,off,a1,k1,a2,k2,a3,k3,ha,hb,q0,q1,q2,q3,q4,q5,q6,h1,h2,h3,w0,w1,w2,w3⟩
structure PtAt (w:World) (A:Nat->Prop) (b o:Nat) (x:Pt) (a1:OA) (k1:Nat):Prop where
 lt:b<w.heap.size
 c0:w.cell? (qa b o)=some (qi x.params)
 c1:w.cell? ⟨b,o+1,none⟩=some (qi x.locals)
 c2:w.cell? ⟨b,o+2,none⟩=some (.slice a1 x.body.length k1)
 body':DAt w A a1 x.body.length (zc7 x.body)
 w0:(Lit.int .i64 x.params).wf=true
 w1:(Lit.int .i64 x.locals).wf=true
theorem DAt.pt {w:World} {A:Nat->Prop} {a:OA} {l:List Pt} (h:DAt w A a l.length (zke l)) (i:Nat) (hi:i<l.length):∃ b off a1 k1,a=some (qa b off)/\PtAt w A b (off+i*3) l[i] a1 k1:=by
 obtain ⟨b,off,ha,hb,hc⟩:=h.cell (by omega);generalize hx:l[i]=x;obtain ⟨params,locals,body⟩:=x
 have g:∀ j d,j<3->(Pt.mk params locals body).ds[j]? = some d->∃ v,w.cell? ⟨b,off+i*3+j,none⟩=some v/\zcv w A d v:=fun j d hj hd=>by
  rw [vbm];exact hc (i*3+j) d ((zcc Pt.ds 3 (fun _=>rfl) l i hi j hj).trans (by rw [hx];exact hd))
 obtain ⟨v0,q0,d0⟩:=g 0 (.int params) (by omega) (by simp [Pt.ds]);obtain ⟨v1,q1,d1⟩:=g 1 (.int locals) (by omega) (by simp [Pt.ds]);obtain ⟨v2,q2,d2⟩:=g 2 (.list body.length (zc7 body)) (by omega) (by simp [Pt.ds]);obtain ⟨rfl,w0⟩:=zaz d0;obtain ⟨rfl,w1⟩:=zaz d1;obtain ⟨a1,k1,rfl,h1⟩:=zav d2;exact ⟨b,off,a1,k1,ha,hb,q0,q1,q2,h1,w0,w1⟩
structure UnAt (w:World) (A:Nat->Prop) (b o:Nat) (x:Un) (a1:OA) (k1:Nat) (a2:OA) (k2:Nat) (a3:OA) (k3:Nat):Prop where
 lt:b<w.heap.size
 c0:w.cell? (qa b o)=some (.string x.name)
 c1:w.cell? ⟨b,o+1,none⟩=some (.slice a1 x.uses.length k1)
 c2:w.cell? ⟨b,o+2,none⟩=some (qi x.data)
 c3:w.cell? ⟨b,o+3,none⟩=some (.slice a2 x.parts.length k2)
 c4:w.cell? ⟨b,o+4,none⟩=some (.slice a3 x.main.length k3)
 uses':DAt w A a1 x.uses.length (zaw x.uses)
 parts':DAt w A a2 x.parts.length (zke x.parts)
 main':DAt w A a3 x.main.length (zc7 x.main)
 w0:x.name.size<=maxLen
 w2:(Lit.int .i64 x.data).wf=true
theorem DAt.un {w:World} {A:Nat->Prop} {a:OA} {l:List Un} (h:DAt w A a l.length (z1k l)) (i:Nat) (hi:i<l.length):∃ b off a1 k1 a2 k2 a3 k3,a=some (qa b off)/\UnAt w A b (off+i*5) l[i] a1 k1 a2 k2 a3 k3:=by
 obtain ⟨b,off,ha,hb,hc⟩:=h.cell (by omega);generalize hx:l[i]=x;obtain ⟨name,uses,data,parts,main⟩:=x
 have g:∀ j d,j<5->(Un.mk name uses data parts main).ds[j]? = some d->∃ v,w.cell? ⟨b,off+i*5+j,none⟩=some v/\zcv w A d v:=fun j d hj hd=>by
  rw [vbm];exact hc (i*5+j) d ((zcc Un.ds 5 (fun _=>rfl) l i hi j hj).trans (by rw [hx];exact hd))
 obtain ⟨v0,q0,d0⟩:=g 0 (.str name) (by omega) (by simp [Un.ds,zke]);obtain ⟨v1,q1,d1⟩:=g 1 (.list uses.length (zaw uses)) (by omega) (by simp [Un.ds,zke]);obtain ⟨v2,q2,d2⟩:=g 2 (.int data) (by omega) (by simp [Un.ds,zke]);obtain ⟨v3,q3,d3⟩:=g 3 (.list parts.length (zke parts)) (by omega) (by simp [Un.ds,zke]);obtain ⟨v4,q4,d4⟩:=g 4 (.list main.length (zc7 main)) (by omega) (by simp [Un.ds,zke]);obtain ⟨rfl,w0⟩:=zcw d0;obtain ⟨a1,k1,rfl,h1⟩:=zav d1;obtain ⟨rfl,w2⟩:=zaz d2;obtain ⟨a2,k2,rfl,h2⟩:=zav d3;obtain ⟨a3,k3,rfl,h3⟩:=zav d4;exact ⟨b,off,a1,k1,a2,k2,a3,k3,ha,hb,q0,q1,q2,q3,q4,h1,h2,h3,w0,w2⟩
structure Ck where
 data:Int
 uses:Nat
 parts:List Pt
 num:Int->Int->Int->Bool
 prt:Int->Int->Int->Bool
 locals:Int
def ztv (c:Ck) (m:Int):Bool:=decide (1<=m/\m<=c.uses)
def zzp (size at_ n:Int):Bool:=decide (0<=at_/\at_+n<=size)
def numB (c:Ck) (m at_ n:Int):Bool:=if m=0 then zzp c.data at_ n else ztv c m&&c.num m at_ n
def ztw (l:List Pt) (at_ k:Int):Bool:=decide (0<=at_)&&(match l[at_.toNat]? with | some p=>decide (p.params=k) | none=>false)
def zi1 (c:Ck) (m at_ k:Int):Bool:=if m=0 then ztw c.parts at_ k else ztv c m&&c.prt m at_ k
def zym (c:Ck) (n m at_:Int):Bool:=decide (1<=n/\n<=32)&&numB c m at_ n
def zvx (c:Ck) (at_:Int):Bool:=decide (0<=at_/\at_<c.locals)
def argsOf (op:Int):Int:=if op=2 then 0 else if op=6 then 1 else if 7<=op/\op<=15 then 2 else -1
def zau (c:Ck) (x:Nd):Bool:=
 if x.op=3 then decide (x.args.length=0)&&(decide (x.n=0)&&numB c x.m x.at_ 1)
 else if x.op=4 then decide (x.args.length=1)&&zym c x.n x.m x.at_
 else if x.op=5 then decide (x.n=0)&&zi1 c x.m x.at_ x.args.length
 else if x.op=16 then decide (x.args.length=0)&&(decide (x.n=0)&&(decide (x.m=0)&&zvx c x.at_))
 else if x.op=1 then decide (x.args.length=0)&&(decide (0<=x.n/\x.n<=1099511627775)&&(decide (x.m=0)&&decide (x.at_=0)))
 else decide ((x.args.length:Int)=argsOf x.op)&&(decide (x.n=0)&&(decide (x.m=0)&&decide (x.at_=0)))
def zf2 (c:Ck):Nat->List Nd->Bool
 | 0,l=>decide (l.length=0)
 | k+1,l=>l.all fun x=>zau c x&&zf2 c k x.args
def zb2 (c:Ck) (a:Ac):Bool:=
 if a.op=1 then decide (a.args.length=1)&&(decide (a.n=0)&&(if a.m = -1 then zvx c a.at_ else numB c a.m a.at_ 1))
 else if a.op=2 then decide (a.args.length=2)&&zym c a.n a.m a.at_
 else if a.op=3 then decide (a.n=0)&&zi1 c a.m a.at_ a.args.length
 else if 4<=a.op/\a.op<=7 then decide (a.args.length=1)&&(decide (a.n=0)&&(decide (a.m=0)&&decide (a.at_=0)))
 else false
def zd9 (c:Ck):Nat->List Ac->Bool
 | 0,_=>false
 | k + 1,l=>decide (l.length<=10)&&l.all fun a=>zb2 c a&&(zf2 c 6 a.args &&
     (if a.op=4 then zd9 c k a.body&&zd9 c k a.other else if a.op=5 then zd9 c k a.body&&decide (a.other.length=0) else decide (a.body.length=0)&&decide (a.other.length=0)))
def ptB (p:Pt):Bool:=decide (0<=p.params/\p.params<=3)&&decide (0<=p.locals/\p.locals<=4)
def zda (u:Un):Bool:=decide (chkM ⟨u.name,u.uses,[],[],[]⟩=0)&&(u.parts.all ptB&&(decide (0<=u.data/\u.data<=512)&&decide (u.parts.length<=6)))
def zhv (u:Un) (num prt:Int->Int->Int->Bool) (locals:Int):Ck:=⟨u.data,u.uses.length,u.parts,num,prt,locals⟩
def zen (u:Un) (num prt:Int->Int->Int->Bool):Bool:=
 zda u&&(u.parts.all (fun p=>zd9 (zhv u num prt (p.params+p.locals)) 6 p.body)&&zd9 (zhv u num prt 0) 6 u.main)
end Go.Proofs.YtndkhgakfodldaaGreatDoor

namespace Go.Proofs.YtndkhgakfodldaaGreatDoor
set_option maxRecDepth 100000
open Go.RowKit Go.Maps Go.WideMaps
set_option linter.unusedSimpArgs false
set_option linter.unusedVariables false
theorem z7z {n:Int} (h:(Lit.int .i64 n).wf=true) : -9223372036854775808<=n/\n<=9223372036854775807:=by
 simp only [Lit.wf,vab,decide_eq_true_eq] at h;exact h
theorem zkl (size at_ n:Int) (w:World) (h1:0<=size) (h2:size<=512) (h3:1<=n) (h4:n<=32) (hw:(Lit.int .i64 at_).wf=true) :
 qc 267 #[qi size,qi at_,qi n] w fun e w'=>e = .returned (.bool (zzp size at_ n))/\w'=w:=by
 obtain ⟨g1,g2⟩:=z7z hw;clear hw
 by_cases ha:0<=at_
 . by_cases hb:at_<=size - n
   . have HR:Hid (zzp size at_ n=true):=decide_eq_true ⟨ha,by omega⟩
     go_enter Tryz.func267,Tryz.ntmps267;go_wp2_with fail;go_ret;exact ⟨ret_bool HR.out.symm,rfl⟩
   . have HR:Hid (zzp size at_ n=false):=decide_eq_false (by omega)
     have AZ:size - n<at_:=by omega
     clear hb;go_enter Tryz.func267,Tryz.ntmps267;go_wp2_with fail;go_ret;exact ⟨ret_bool (by first | exact HR.out.symm | (rw [HR.out];first | (simp;omega) | (simp [*];done))),rfl⟩
 . have HR:Hid (zzp size at_ n=false):=decide_eq_false (by omega)
   have Cd:at_<0:=by omega
   clear ha;go_enter Tryz.func267,Tryz.ntmps267;go_wp2_with fail;go_ret;exact ⟨ret_bool HR.out.symm,rfl⟩
theorem zvd (op:Int) (w:World) :
 qc 269 #[qi op] w fun e w'=>e = .returned (qi (argsOf op))/\w'=w:=by
 by_cases h2:op=2
 . subst h2
   go_enter Tryz.func269,Tryz.ntmps269;go_wp2_with fail;go_ret;exact ⟨rfl,rfl⟩
 by_cases h6:op=6
 . subst h6
   go_enter Tryz.func269,Tryz.ntmps269;go_wp2_with fail;go_ret;exact ⟨rfl,rfl⟩
 by_cases h7:7<=op
 . by_cases GY:op<=15
   . have HR:Hid (argsOf op=2):=by show _=_;unfold argsOf;rw [if_neg h2,if_neg h6,if_pos ⟨h7,GY⟩]
     go_enter Tryz.func269,Tryz.ntmps269;go_wp2_with fail;go_ret;exact ⟨ret_int HR.out.symm,rfl⟩
   . have HR:Hid (argsOf op = -1):=by show _=_;unfold argsOf;rw [if_neg h2,if_neg h6,if_neg (by omega)]
     have Ra:15<op:=by omega
     clear GY;go_enter Tryz.func269,Tryz.ntmps269;go_wp2_with fail;go_ret;exact ⟨ret_int HR.out.symm,rfl⟩
 . have HR:Hid (argsOf op = -1):=by show _=_;unfold argsOf;rw [if_neg h2,if_neg h6,if_neg (by omega)]
   have Tv:op<7:=by omega
   clear h7;go_enter Tryz.func269,Tryz.ntmps269;go_wp2_with fail;go_ret;exact ⟨ret_int HR.out.symm,rfl⟩
theorem zgn (c:Ck) (s:ByteArray) (x1:OA) (y1:Nat) (x2:OA) (y2:Nat) (x3:OA) (n3 y3:Nat) (iv:Value) (m:Int) (w:World) :
 qc 209 #[.agg #[.string s,.slice x1 c.uses y1,qi c.data,.slice x2 c.parts.length y2,.slice x3 n3 y3,iv,qi c.locals],qi m] w fun e w'=>e = .returned (.bool (zvx c m))/\qb w w':=by
 by_cases ha:0<=m
 . by_cases hb:m<c.locals
   . have HR:Hid (zvx c m=true):=decide_eq_true ⟨ha,hb⟩
     go_enter Tryz.func209,Tryz.ntmps209;go_wp2_with fail;go_ret;exact ⟨ret_bool HR.out.symm,al1 _ _⟩
   . have HR:Hid (zvx c m=false):=decide_eq_false (by omega)
     have AZ:c.locals<=m:=by omega
     clear hb;go_enter Tryz.func209,Tryz.ntmps209;go_wp2_with fail;go_ret;exact ⟨ret_bool (by first | exact HR.out.symm | (rw [HR.out];first | (simp;omega) | (simp [*];done))),al1 _ _⟩
 . have HR:Hid (zvx c m=false):=decide_eq_false (by omega)
   have Cd:m<0:=by omega
   clear ha;go_enter Tryz.func209,Tryz.ntmps209;go_wp2_with fail;go_ret;exact ⟨ret_bool HR.out.symm,al1 _ _⟩
theorem zkm (c:Ck) (s:ByteArray) (x1:OA) (y1:Nat) (x2:OA) (y2:Nat) (x3:OA) (n3 y3:Nat) (iv:Value) (m:Int) (w:World) :
 qc 268 #[.agg #[.string s,.slice x1 c.uses y1,qi c.data,.slice x2 c.parts.length y2,.slice x3 n3 y3,iv,qi c.locals],qi m] w fun e w'=>e = .returned (.bool (ztv c m))/\qb w w':=by
 by_cases ha:1<=m
 . by_cases hb:m<=c.uses
   . have HR:Hid (ztv c m=true):=decide_eq_true ⟨ha,hb⟩
     go_enter Tryz.func268,Tryz.ntmps268;go_wp2_with fail;go_ret;exact ⟨ret_bool HR.out.symm,al1 _ _⟩
   . have HR:Hid (ztv c m=false):=decide_eq_false (by omega)
     have AZ:(c.uses:Int)<m:=by omega
     clear hb;go_enter Tryz.func268,Tryz.ntmps268;go_wp2_with fail;go_ret;exact ⟨ret_bool (by first | exact HR.out.symm | (rw [HR.out];first | (simp;omega) | (simp [*];done))),al1 _ _⟩
 . have HR:Hid (ztv c m=false):=decide_eq_false (by omega)
   have Cd:m<1:=by omega
   clear ha;go_enter Tryz.func268,Tryz.ntmps268;go_wp2_with fail;go_ret;exact ⟨ret_bool HR.out.symm,al1 _ _⟩
structure UsAt (w:World) (c:Ck) (nf pf:FuncId) (v:Value):Prop where
 num:∀ W,qb w W->∀ m at_ n:Int,ztv c m=true->(Lit.int .i64 at_).wf=true->1<=n->n<=32->qc nf #[v,qi m,qi at_,qi n] W fun e W'=>e = .returned (.bool (c.num m at_ n))/\qb W W'
 prt:∀ W,qb w W->∀ (m at_:Int) (k:Nat),ztv c m=true->(Lit.int .i64 at_).wf=true->k<=17592186044416->qc pf #[v,qi m,qi at_,qi k] W fun e W'=>e = .returned (.bool (c.prt m at_ k))/\qb W W'
structure CkAt (w:World) (c:Ck) (cv:Value):Prop where
 num:∀ W,qb w W->∀ m at_ n:Int,(Lit.int .i64 m).wf=true->(Lit.int .i64 at_).wf=true->1<=n->n<=32->qc 210 #[cv,qi m,qi at_,qi n] W fun e W'=>e = .returned (.bool (numB c m at_ n))/\qb W W'
 prt:∀ W,qb w W->∀ (m at_:Int) (k:Nat),(Lit.int .i64 m).wf=true->(Lit.int .i64 at_).wf=true->k<=17592186044416->qc 212 #[cv,qi m,qi at_,qi k] W fun e W'=>e = .returned (.bool (zi1 c m at_ k))/\qb W W'
theorem CkAt.later {w w':World} {c:Ck} {cv:Value} (h:CkAt w c cv) (hb:qb w w'):CkAt w' c cv:=⟨fun W hW=>h.num W (thenB hb hW),fun W hW=>h.prt W (thenB hb hW)⟩
theorem UsAt.later {w w':World} {c:Ck} {nf pf:FuncId} {v:Value} (h:UsAt w c nf pf v) (hb:qb w w'):UsAt w' c nf pf v:=⟨fun W hW=>h.num W (thenB hb hW),fun W hW=>h.prt W (thenB hb hW)⟩
set_option maxHeartbeats 1600000
theorem zaj {w:World} {b:Nat} {x0 x1 x2 x3 x4 x5 x6:Value} {t:TypeId} (h:w.heap[b]? = some (.cells #[x0,x1,x2,x3,x4,x5,x6] t (0,0))) :
 w.cell? (qa b 0)=some x0/\w.cell? (qa b 1)=some x1/\w.cell? (qa b 2)=some x2/\w.cell? (qa b 3)=some x3/\w.cell? (qa b 4)=some x4/\w.cell? (qa b 5)=some x5/\w.cell? (qa b 6)=some x6/\b<w.heap.size:=by
 refine ⟨?_,?_,?_,?_,?_,?_,?_,lt_of_heap h⟩<;>(rw [vep h];rfl)
theorem z6m (w:World) (o p:Obj):((w.alloc o).alloc p).heap[w.heap.size+1]? = some p:=by simpa using heap_newP (w.alloc o) p
theorem z70 (av:OA) (nv cv:Nat) (w:World):(nilAhead 337 199 (.slice av nv cv) "HasPart").run Tryz.prog w = .ok (some false) w:=by kernel_rfl
theorem z71 (av:OA) (nv cv:Nat) (w:World):(method 337 199 (.slice av nv cv) "HasPart").run Tryz.prog w = .ok (330,.slice av nv cv) w:=by kernel_rfl
theorem z9v (c:Ck) (s:ByteArray) (x1:OA) (y1:Nat) (x2:OA) (y2:Nat) (x3:OA) (n3 y3:Nat) (av:OA) (nv cv:Nat) (m at_:Int) (k:Nat) (w:World) (hP:DAt w Tt x2 c.parts.length (zke c.parts)) (hu:c.uses<=17592186044416) (hU:UsAt w c 329 330 (.slice av nv cv)) (hm:(Lit.int .i64 m).wf=true) (ha:(Lit.int .i64 at_).wf=true) (hk:k<=17592186044416) :
 qc 212 #[.agg #[.string s,.slice x1 c.uses y1,qi c.data,.slice x2 c.parts.length y2,.slice x3 n3 y3,.iface 199 (.slice av nv cv),qi c.locals],qi m,qi at_,qi k] w fun e w'=>e = .returned (.bool (zi1 c m at_ k))/\qb w w':=by
 have HU:=hid hU;have HA:=hid ha;have HP:=hid hP;have EX:=hP.bound;clear hU ha hm hP;have n1:=z70 av nv cv;have n2:=z71 av nv cv
 by_cases h0:m=0
 . subst h0
   have HR:Hid (zi1 c 0 at_ k=ztw c.parts at_ k):=if_pos rfl
   by_cases t1:0<=at_
   . obtain ⟨i,rfl⟩:∃ i:Nat,at_=i:=⟨at_.toNat,by omega⟩
     by_cases t2:i<c.parts.length
     . obtain ⟨b,off,ab,cb,rfl,hx⟩:=(HP.out.later (al1 w (.cells #[.string s,.slice x1 c.uses y1,qi c.data,.slice x2 c.parts.length y2,.slice x3 n3 y3,.iface 199 (.slice av nv cv),qi c.locals] 206))).pt i t2
       have HQ:Hid (ztw c.parts i k=decide (c.parts[i].params=k)):=by show _=_;unfold ztw;rw [decide_eq_true t1,vbp,vac t2];rfl
       obtain ⟨Au,p0,_,_,_,_,_⟩:=hx
       have Dr:(i:Int)<c.parts.length:=by omega
       have pz:b<w.heap.size+1:=by simpa using Au
       generalize c.parts[i].params=pp at *
       by_cases t3:pp=k
       . have B4:Hid (zi1 c 0 i k=true):=by show _=_;rw [HR.out,HQ.out,decide_eq_true t3]
         subst t3;go_enter Tryz.func212,Tryz.ntmps212;go_wp2_with fail;go_ret;exact ⟨ret_bool B4.out.symm,al1 _ _⟩
       . have B4:Hid (zi1 c 0 i k=false):=by show _=_;rw [HR.out,HQ.out,decide_eq_false t3]
         go_enter Tryz.func212,Tryz.ntmps212;go_wp2_with fail;go_ret;exact ⟨ret_bool (by first | exact B4.out.symm | (rw [B4.out];first | (simp;omega) | (simp [*];done))),al1 _ _⟩
     . have B4:Hid (zi1 c 0 i k=false):=by show _=_;rw [HR.out];unfold ztw;rw [vbp,vbv (by omega)];simp
       have Dr:c.parts.length<=i:=by omega
       clear t2;go_enter Tryz.func212,Tryz.ntmps212;go_wp2_with fail;go_ret;exact ⟨ret_bool B4.out.symm,al1 _ _⟩
   . have B4:Hid (zi1 c 0 at_ k=false):=by show _=_;rw [HR.out];unfold ztw;rw [decide_eq_false t1];rfl
     have CV:at_<0:=by omega
     clear t1;go_enter Tryz.func212,Tryz.ntmps212;go_wp2_with fail;go_ret;exact ⟨ret_bool B4.out.symm,al1 _ _⟩
 . have HR:Hid (zi1 c m at_ k=(ztv c m&&c.prt m at_ k)):=if_neg h0
   have HI:=hid (zkm c s x1 y1 x2 y2 x3 n3 y3 (.iface 199 (.slice av nv cv)) m (w.alloc (.cells #[.string s,.slice x1 c.uses y1,qi c.data,.slice x2 c.parts.length y2,.slice x3 n3 y3,.iface 199 (.slice av nv cv),qi c.locals] 206)))
   cases hb:ztv c m with
   | false=>
     rw [hb] at HI HR;go_enter Tryz.func212,Tryz.ntmps212;go_wp2_with fail;refine HI.out.mono ?_;rintro e w1 ⟨rfl,A5⟩;have A8:=hid (thenB (al1 w _) A5);clear A5;go_wp2_with fail;go_ret;exact ⟨ret_bool HR.out.symm,A8.out⟩
   | true=>
     rw [hb] at HI HR;have G8:=hid hb;clear hb;go_enter Tryz.func212,Tryz.ntmps212;go_wp2_with fail;refine HI.out.mono ?_;rintro e w1 ⟨rfl,A5⟩;have A8:=hid (thenB (al1 w _) A5);have q1:=(A5.block _ (by simp)).trans (heap_newP w (.cells #[.string s,.slice x1 c.uses y1,qi c.data,.slice x2 c.parts.length y2,.slice x3 n3 y3,.iface 199 (.slice av nv cv),qi c.locals] 206));obtain ⟨c0,c1,c2,c3,c4,c5,c6,cz⟩:=zaj q1;clear A5 q1 c0 c1 c2 c3 c4 c6 HI
     go_wp2_with (go_at_call 330;refine (HU.out.prt _ A8.out m at_ k G8.out HA.out hk).mono ?_;rintro e w2 ⟨rfl,Aa⟩;have Ad:=hid (thenB A8.out Aa);clear Aa)
     go_ret;exact ⟨ret_bool (by rw [HR.out];rfl),Ad.out⟩
theorem z72 (w:World):(nilAhead 337 133 (.agg #[]) "HasNumbers").run Tryz.prog w = .ok (some false) w:=by kernel_rfl
theorem z73 (w:World):(nilAhead 337 133 (.agg #[]) "HasPart").run Tryz.prog w = .ok (some false) w:=by kernel_rfl
theorem z74 (w:World):(method 337 133 (.agg #[]) "HasNumbers").run Tryz.prog w = .ok (327,.agg #[]) w:=by kernel_rfl
theorem z75 (w:World):(method 337 133 (.agg #[]) "HasPart").run Tryz.prog w = .ok (328,.agg #[]) w:=by kernel_rfl
theorem z1l (c:Ck) (s:ByteArray) (x1:OA) (y1:Nat) (x2:OA) (y2:Nat) (x3:OA) (n3 y3:Nat) (m at_ n:Int) (w:World) (Fw:0<=c.data) (C8:c.data<=512) (hu:c.uses<=17592186044416) (hU:UsAt w c 327 328 (.agg #[])) (hm:(Lit.int .i64 m).wf=true) (ha:(Lit.int .i64 at_).wf=true) (h1:1<=n) (h2:n<=32) :
 qc 210 #[.agg #[.string s,.slice x1 c.uses y1,qi c.data,.slice x2 c.parts.length y2,.slice x3 n3 y3,.iface 133 (.agg #[]),qi c.locals],qi m,qi at_,qi n] w fun e w'=>e = .returned (.bool (numB c m at_ n))/\qb w w':=by
 have HU:=hid hU;have HA:=hid ha;clear hU ha hm;have n1:=z72;have n2:=z74
 by_cases h0:m=0
 . subst h0
   have HR:Hid (numB c 0 at_ n=zzp c.data at_ n):=if_pos rfl;go_enter Tryz.func210,Tryz.ntmps210;go_wp2_with fail;refine (zkl c.data at_ n _ Fw C8 h1 h2 HA.out).mono ?_;rintro e w1 ⟨rfl,rfl⟩;go_wp2_with fail;go_ret;exact ⟨ret_bool HR.out.symm,al1 _ _⟩
 . have HR:Hid (numB c m at_ n=(ztv c m&&c.num m at_ n)):=if_neg h0
   have HI:=hid (zkm c s x1 y1 x2 y2 x3 n3 y3 (.iface 133 (.agg #[])) m (w.alloc (.cells #[.string s,.slice x1 c.uses y1,qi c.data,.slice x2 c.parts.length y2,.slice x3 n3 y3,.iface 133 (.agg #[]),qi c.locals] 206)))
   cases hb:ztv c m with
   | false=>
     rw [hb] at HI HR;go_enter Tryz.func210,Tryz.ntmps210;go_wp2_with fail;refine HI.out.mono ?_;rintro e w1 ⟨rfl,A5⟩;have A8:=hid (thenB (al1 w _) A5);clear A5;go_wp2_with fail;go_ret;exact ⟨ret_bool HR.out.symm,A8.out⟩
   | true=>
     rw [hb] at HI HR;have G8:=hid hb;clear hb;go_enter Tryz.func210,Tryz.ntmps210;go_wp2_with fail;refine HI.out.mono ?_;rintro e w1 ⟨rfl,A5⟩;have A8:=hid (thenB (al1 w _) A5);have q1:=(A5.block _ (by simp)).trans (heap_newP w (.cells #[.string s,.slice x1 c.uses y1,qi c.data,.slice x2 c.parts.length y2,.slice x3 n3 y3,.iface 133 (.agg #[]),qi c.locals] 206));obtain ⟨c0,c1,c2,c3,c4,c5,c6,cz⟩:=zaj q1;clear A5 q1 c0 c1 c2 c3 c4 c6 HI
     go_wp2_with (go_at_call 327;refine (HU.out.num _ A8.out m at_ n G8.out HA.out h1 h2).mono ?_;rintro e w2 ⟨rfl,Aa⟩;have Ad:=hid (thenB A8.out Aa);clear Aa)
     go_ret;exact ⟨ret_bool (by rw [HR.out];rfl),Ad.out⟩
theorem z76 (c:Ck) (s:ByteArray) (x1:OA) (y1:Nat) (x2:OA) (y2:Nat) (x3:OA) (n3 y3:Nat) (m at_:Int) (k:Nat) (w:World) (hP:DAt w Tt x2 c.parts.length (zke c.parts)) (hu:c.uses<=17592186044416) (hU:UsAt w c 327 328 (.agg #[])) (hm:(Lit.int .i64 m).wf=true) (ha:(Lit.int .i64 at_).wf=true) (hk:k<=17592186044416) :
 qc 212 #[.agg #[.string s,.slice x1 c.uses y1,qi c.data,.slice x2 c.parts.length y2,.slice x3 n3 y3,.iface 133 (.agg #[]),qi c.locals],qi m,qi at_,qi k] w fun e w'=>e = .returned (.bool (zi1 c m at_ k))/\qb w w':=by
 have HU:=hid hU;have HA:=hid ha;have HP:=hid hP;have EX:=hP.bound;clear hU ha hm hP;have n1:=z73;have n2:=z75
 by_cases h0:m=0
 . subst h0
   have HR:Hid (zi1 c 0 at_ k=ztw c.parts at_ k):=if_pos rfl
   by_cases t1:0<=at_
   . obtain ⟨i,rfl⟩:∃ i:Nat,at_=i:=⟨at_.toNat,by omega⟩
     by_cases t2:i<c.parts.length
     . obtain ⟨b,off,ab,cb,rfl,hx⟩:=(HP.out.later (al1 w (.cells #[.string s,.slice x1 c.uses y1,qi c.data,.slice x2 c.parts.length y2,.slice x3 n3 y3,.iface 133 (.agg #[]),qi c.locals] 206))).pt i t2
       have HQ:Hid (ztw c.parts i k=decide (c.parts[i].params=k)):=by show _=_;unfold ztw;rw [decide_eq_true t1,vbp,vac t2];rfl
       obtain ⟨Au,p0,_,_,_,_,_⟩:=hx
       have Dr:(i:Int)<c.parts.length:=by omega
       have pz:b<w.heap.size+1:=by simpa using Au
       generalize c.parts[i].params=pp at *
       by_cases t3:pp=k
       . have B4:Hid (zi1 c 0 i k=true):=by show _=_;rw [HR.out,HQ.out,decide_eq_true t3]
         subst t3;go_enter Tryz.func212,Tryz.ntmps212;go_wp2_with fail;go_ret;exact ⟨ret_bool B4.out.symm,al1 _ _⟩
       . have B4:Hid (zi1 c 0 i k=false):=by show _=_;rw [HR.out,HQ.out,decide_eq_false t3]
         go_enter Tryz.func212,Tryz.ntmps212;go_wp2_with fail;go_ret;exact ⟨ret_bool (by first | exact B4.out.symm | (rw [B4.out];first | (simp;omega) | (simp [*];done))),al1 _ _⟩
     . have B4:Hid (zi1 c 0 i k=false):=by show _=_;rw [HR.out];unfold ztw;rw [vbp,vbv (by omega)];simp
       have Dr:c.parts.length<=i:=by omega
       clear t2;go_enter Tryz.func212,Tryz.ntmps212;go_wp2_with fail;go_ret;exact ⟨ret_bool B4.out.symm,al1 _ _⟩
   . have B4:Hid (zi1 c 0 at_ k=false):=by show _=_;rw [HR.out];unfold ztw;rw [decide_eq_false t1];rfl
     have CV:at_<0:=by omega
     clear t1;go_enter Tryz.func212,Tryz.ntmps212;go_wp2_with fail;go_ret;exact ⟨ret_bool B4.out.symm,al1 _ _⟩
 . have HR:Hid (zi1 c m at_ k=(ztv c m&&c.prt m at_ k)):=if_neg h0
   have HI:=hid (zkm c s x1 y1 x2 y2 x3 n3 y3 (.iface 133 (.agg #[])) m (w.alloc (.cells #[.string s,.slice x1 c.uses y1,qi c.data,.slice x2 c.parts.length y2,.slice x3 n3 y3,.iface 133 (.agg #[]),qi c.locals] 206)))
   cases hb:ztv c m with
   | false=>
     rw [hb] at HI HR;go_enter Tryz.func212,Tryz.ntmps212;go_wp2_with fail;refine HI.out.mono ?_;rintro e w1 ⟨rfl,A5⟩;have A8:=hid (thenB (al1 w _) A5);clear A5;go_wp2_with fail;go_ret;exact ⟨ret_bool HR.out.symm,A8.out⟩
   | true=>
     rw [hb] at HI HR;have G8:=hid hb;clear hb;go_enter Tryz.func212,Tryz.ntmps212;go_wp2_with fail;refine HI.out.mono ?_;rintro e w1 ⟨rfl,A5⟩;have A8:=hid (thenB (al1 w _) A5);have q1:=(A5.block _ (by simp)).trans (heap_newP w (.cells #[.string s,.slice x1 c.uses y1,qi c.data,.slice x2 c.parts.length y2,.slice x3 n3 y3,.iface 133 (.agg #[]),qi c.locals] 206));obtain ⟨c0,c1,c2,c3,c4,c5,c6,cz⟩:=zaj q1;clear A5 q1 c0 c1 c2 c3 c4 c6 HI
     go_wp2_with (go_at_call 328;refine (HU.out.prt _ A8.out m at_ k G8.out HA.out hk).mono ?_;rintro e w2 ⟨rfl,Aa⟩;have Ad:=hid (thenB A8.out Aa);clear Aa)
     go_ret;exact ⟨ret_bool (by rw [HR.out];rfl),Ad.out⟩
theorem ckS (c:Ck) (s:ByteArray) (x1:OA) (y1:Nat) (x2:OA) (y2:Nat) (x3:OA) (n3 y3:Nat) (w:World) (Fw:0<=c.data) (C8:c.data<=512) (hu:c.uses<=17592186044416) (hP:DAt w Tt x2 c.parts.length (zke c.parts)) (hU:UsAt w c 327 328 (.agg #[])):CkAt w c (.agg #[.string s,.slice x1 c.uses y1,qi c.data,.slice x2 c.parts.length y2,.slice x3 n3 y3,.iface 133 (.agg #[]),qi c.locals]):=
 ⟨fun W hW m at_ n h1 h2 h3 h4=>z1l c s x1 y1 x2 y2 x3 n3 y3 m at_ n W Fw C8 hu (hU.later hW) h1 h2 h3 h4,fun W hW m at_ k h1 h2 h3=>z76 c s x1 y1 x2 y2 x3 n3 y3 m at_ k W (hP.later hW) hu (hU.later hW) h1 h2 h3⟩
set_option maxHeartbeats 3200000
theorem zgo (c:Ck) (s:ByteArray) (x1:OA) (y1:Nat) (x2:OA) (y2:Nat) (x3:OA) (n3 y3:Nat) (iv:Value) (n m at_:Int) (w:World) (hC:CkAt w c (.agg #[.string s,.slice x1 c.uses y1,qi c.data,.slice x2 c.parts.length y2,.slice x3 n3 y3,iv,qi c.locals])) (hm:(Lit.int .i64 m).wf=true) (ha:(Lit.int .i64 at_).wf=true) :
 qc 211 #[.agg #[.string s,.slice x1 c.uses y1,qi c.data,.slice x2 c.parts.length y2,.slice x3 n3 y3,iv,qi c.locals],qi n,qi m,qi at_] w fun e w'=>e = .returned (.bool (zym c n m at_))/\qb w w':=by
 have HN:=hid (fun h1 h2=>hC.num (w.alloc (.cells #[.string s,.slice x1 c.uses y1,qi c.data,.slice x2 c.parts.length y2,.slice x3 n3 y3,iv,qi c.locals] 206)) (al1 _ _) m at_ n hm ha h1 h2);clear hC hm ha
 by_cases h1:1<=n
 . by_cases h2:n<=32
   . have HR:Hid (zym c n m at_=numB c m at_ n):=by show _=_;unfold zym;rw [decide_eq_true ⟨h1,h2⟩];rfl
     go_enter Tryz.func211,Tryz.ntmps211;go_wp2_with fail;refine (HN.out h1 h2).mono ?_;rintro e w1 ⟨rfl,A5⟩;have A8:=hid (thenB (al1 w _) A5);clear A5;go_wp2_with fail;go_ret;exact ⟨ret_bool HR.out.symm,A8.out⟩
   . have HR:Hid (zym c n m at_=false):=by show _=_;unfold zym;rw [decide_eq_false (by omega)];rfl
     have FG:32<n:=by omega
     clear h2 HN;go_enter Tryz.func211,Tryz.ntmps211;go_wp2_with fail;go_ret;exact ⟨ret_bool HR.out.symm,al1 _ _⟩
 . have HR:Hid (zym c n m at_=false):=by show _=_;unfold zym;rw [decide_eq_false (by omega)];rfl
   have D8:n<1:=by omega
   clear h1 HN;go_enter Tryz.func211,Tryz.ntmps211;go_wp2_with fail;go_ret;exact ⟨ret_bool HR.out.symm,al1 _ _⟩
theorem zob (c:Ck) (s:ByteArray) (x1:OA) (y1:Nat) (x2:OA) (y2:Nat) (x3:OA) (n3 y3:Nat) (iv:Value) (x:Nd) (aa:OA) (cp:Nat) (w:World) (hC:CkAt w c (.agg #[.string s,.slice x1 c.uses y1,qi c.data,.slice x2 c.parts.length y2,.slice x3 n3 y3,iv,qi c.locals])) (hm:(Lit.int .i64 x.m).wf=true) (ha:(Lit.int .i64 x.at_).wf=true) (hl:x.args.length<=17592186044416) :
 qc 213 #[.agg #[.string s,.slice x1 c.uses y1,qi c.data,.slice x2 c.parts.length y2,.slice x3 n3 y3,iv,qi c.locals],.agg #[qi x.op,qi x.n,qi x.m,qi x.at_,.slice aa x.args.length cp]] w fun e w'=>e = .returned (.bool (zau c x))/\qb w w':=by
 obtain ⟨op,n,m,at_,args⟩:=x;simp only [Nd.op,Nd.n,Nd.m,Nd.at_,Nd.args] at *;have HC:=hid hC;have HM:=hid hm;have HA:=hid ha;clear hC hm ha
 by_cases o3:op=3
 . subst o3
   by_cases t2:args.length=0
   . by_cases t1:n=0
     . have HR:Hid (zau c (.mk 3 n m at_ args)=numB c m at_ 1):=by show _=_;unfold zau;simp only [Nd.op,Nd.n,Nd.m,Nd.at_,Nd.args];simp [*]
       go_enter Tryz.func213,Tryz.ntmps213;go_wp2_with fail;refine (HC.out.num _ (al2 _ _ _) m at_ 1 HM.out HA.out (by decide) (by decide)).mono ?_;rintro e w1 ⟨rfl,A5⟩;have A8:=hid (thenB (al2 w _ _) A5);clear A5;go_wp2_with fail;go_ret;exact ⟨ret_bool HR.out.symm,A8.out⟩
     . have HR:Hid (zau c (.mk 3 n m at_ args)=false):=by show _=_;unfold zau;simp only [Nd.op,Nd.n,Nd.m,Nd.at_,Nd.args];simp [*]
       have t':n≠0:=by omega
       clear t1;go_enter Tryz.func213,Tryz.ntmps213;go_wp2_with fail;go_ret;exact ⟨ret_bool HR.out.symm,al2 _ _ _⟩
   . have HR:Hid (zau c (.mk 3 n m at_ args)=false):=by show _=_;unfold zau;simp only [Nd.op,Nd.n,Nd.m,Nd.at_,Nd.args];simp [*]
     have t':args.length≠0:=by omega
     clear t2;go_enter Tryz.func213,Tryz.ntmps213;go_wp2_with fail;go_ret;exact ⟨ret_bool HR.out.symm,al2 _ _ _⟩
 by_cases o4:op=4
 . subst o4
   by_cases t1:args.length=1
   . have HR:Hid (zau c (.mk 4 n m at_ args)=zym c n m at_):=by show _=_;unfold zau;simp only [Nd.op,Nd.n,Nd.m,Nd.at_,Nd.args];simp [*]
     go_enter Tryz.func213,Tryz.ntmps213;go_wp2_with fail;refine (zgo c s x1 y1 x2 y2 x3 n3 y3 iv n m at_ _ (HC.out.later (al2 _ _ _)) HM.out HA.out).mono ?_;rintro e w1 ⟨rfl,A5⟩;have A8:=hid (thenB (al2 w _ _) A5);clear A5;go_wp2_with fail;go_ret;exact ⟨ret_bool HR.out.symm,A8.out⟩
   . have HR:Hid (zau c (.mk 4 n m at_ args)=false):=by show _=_;unfold zau;simp only [Nd.op,Nd.n,Nd.m,Nd.at_,Nd.args];simp [*]
     have t':args.length≠1:=by omega
     clear t1;go_enter Tryz.func213,Tryz.ntmps213;go_wp2_with fail;go_ret;exact ⟨ret_bool HR.out.symm,al2 _ _ _⟩
 by_cases o5:op=5
 . subst o5
   by_cases t1:n=0
   . have HR:Hid (zau c (.mk 5 n m at_ args)=zi1 c m at_ args.length):=by show _=_;unfold zau;simp only [Nd.op,Nd.n,Nd.m,Nd.at_,Nd.args];simp [*]
     go_enter Tryz.func213,Tryz.ntmps213;go_wp2_with fail;refine (HC.out.prt _ (al2 _ _ _) m at_ args.length HM.out HA.out hl).mono ?_;rintro e w1 ⟨rfl,A5⟩;have A8:=hid (thenB (al2 w _ _) A5);clear A5;go_wp2_with fail;go_ret;exact ⟨ret_bool HR.out.symm,A8.out⟩
   . have HR:Hid (zau c (.mk 5 n m at_ args)=false):=by show _=_;unfold zau;simp only [Nd.op,Nd.n,Nd.m,Nd.at_,Nd.args];simp [*]
     have t':n≠0:=by omega
     clear t1;go_enter Tryz.func213,Tryz.ntmps213;go_wp2_with fail;go_ret;exact ⟨ret_bool HR.out.symm,al2 _ _ _⟩
 by_cases NV:op=16
 . subst NV
   by_cases t3:args.length=0
   . by_cases t2:n=0
     . by_cases t1:m=0
       . have HR:Hid (zau c (.mk 16 n m at_ args)=zvx c at_):=by show _=_;unfold zau;simp only [Nd.op,Nd.n,Nd.m,Nd.at_,Nd.args];simp [*]
         go_enter Tryz.func213,Tryz.ntmps213;go_wp2_with fail;refine (zgn c s x1 y1 x2 y2 x3 n3 y3 iv at_ _).mono ?_;rintro e w1 ⟨rfl,A5⟩;have A8:=hid (thenB (al2 w _ _) A5);clear A5;go_wp2_with fail;go_ret;exact ⟨ret_bool HR.out.symm,A8.out⟩
       . have HR:Hid (zau c (.mk 16 n m at_ args)=false):=by show _=_;unfold zau;simp only [Nd.op,Nd.n,Nd.m,Nd.at_,Nd.args];simp [*]
         have t':m≠0:=by omega
         clear t1;go_enter Tryz.func213,Tryz.ntmps213;go_wp2_with fail;go_ret;exact ⟨ret_bool HR.out.symm,al2 _ _ _⟩
     . have HR:Hid (zau c (.mk 16 n m at_ args)=false):=by show _=_;unfold zau;simp only [Nd.op,Nd.n,Nd.m,Nd.at_,Nd.args];simp [*]
       have t':n≠0:=by omega
       clear t2;go_enter Tryz.func213,Tryz.ntmps213;go_wp2_with fail;go_ret;exact ⟨ret_bool HR.out.symm,al2 _ _ _⟩
   . have HR:Hid (zau c (.mk 16 n m at_ args)=false):=by show _=_;unfold zau;simp only [Nd.op,Nd.n,Nd.m,Nd.at_,Nd.args];simp [*]
     have t':args.length≠0:=by omega
     clear t3;go_enter Tryz.func213,Tryz.ntmps213;go_wp2_with fail;go_ret;exact ⟨ret_bool HR.out.symm,al2 _ _ _⟩
 by_cases o1:op=1
 . subst o1
   by_cases t5:args.length=0
   . by_cases t4:0<=n
     . by_cases t3:n<=1099511627775
       . by_cases t2:m=0
         . by_cases t1:at_=0
           . have HR:Hid (zau c (.mk 1 n m at_ args)=true):=by show _=_;unfold zau;simp only [Nd.op,Nd.n,Nd.m,Nd.at_,Nd.args];simp [*]
             go_enter Tryz.func213,Tryz.ntmps213;go_wp2_with fail;go_ret;exact ⟨ret_bool HR.out.symm,al2 _ _ _⟩
           . have HR:Hid (zau c (.mk 1 n m at_ args)=false):=by show _=_;unfold zau;simp only [Nd.op,Nd.n,Nd.m,Nd.at_,Nd.args];simp [*]
             have t':at_≠0:=by omega
             clear t1;go_enter Tryz.func213,Tryz.ntmps213;go_wp2_with fail;go_ret;exact ⟨ret_bool (by first | exact HR.out.symm | (rw [HR.out];first | (simp;omega) | (simp [*];done))),al2 _ _ _⟩
         . have HR:Hid (zau c (.mk 1 n m at_ args)=false):=by show _=_;unfold zau;simp only [Nd.op,Nd.n,Nd.m,Nd.at_,Nd.args];simp [*]
           have t':m≠0:=by omega
           clear t2;go_enter Tryz.func213,Tryz.ntmps213;go_wp2_with fail;go_ret;exact ⟨ret_bool HR.out.symm,al2 _ _ _⟩
       . have HR:Hid (zau c (.mk 1 n m at_ args)=false):=by show _=_;unfold zau;simp only [Nd.op,Nd.n,Nd.m,Nd.at_,Nd.args];simp [*]
         have t':1099511627775<n:=by omega
         clear t3;go_enter Tryz.func213,Tryz.ntmps213;go_wp2_with fail;go_ret;exact ⟨ret_bool HR.out.symm,al2 _ _ _⟩
     . have HR:Hid (zau c (.mk 1 n m at_ args)=false):=by show _=_;unfold zau;simp only [Nd.op,Nd.n,Nd.m,Nd.at_,Nd.args];simp [*]
       have t':n<0:=by omega
       clear t4;go_enter Tryz.func213,Tryz.ntmps213;go_wp2_with fail;go_ret;exact ⟨ret_bool HR.out.symm,al2 _ _ _⟩
   . have HR:Hid (zau c (.mk 1 n m at_ args)=false):=by show _=_;unfold zau;simp only [Nd.op,Nd.n,Nd.m,Nd.at_,Nd.args];simp [*]
     have t':args.length≠0:=by omega
     clear t5;go_enter Tryz.func213,Tryz.ntmps213;go_wp2_with fail;go_ret;exact ⟨ret_bool HR.out.symm,al2 _ _ _⟩
 have HQ:Hid (zau c (.mk op n m at_ args)=(decide ((args.length:Int)=argsOf op)&&(decide (n=0)&&(decide (m=0)&&decide (at_=0))))):=by
  show _=_;unfold zau;exact (if_neg o3).trans ((if_neg o4).trans ((if_neg o5).trans ((if_neg NV).trans (if_neg o1))))
 have HG:=hid (zvd op);generalize argsOf op=g at *
 by_cases t4:(args.length:Int)=g
 . by_cases t3:n=0
   . by_cases t2:m=0
     . by_cases t1:at_=0
       . have HR:Hid (zau c (.mk op n m at_ args)=true):=by show _=_;rw [HQ.out];simp [*]
         go_enter Tryz.func213,Tryz.ntmps213;go_wp2_with fail;refine (HG.out _).mono ?_;rintro e w1 ⟨rfl,rfl⟩;go_wp2_with fail;go_ret;exact ⟨ret_bool HR.out.symm,al2 _ _ _⟩
       . have HR:Hid (zau c (.mk op n m at_ args)=false):=by show _=_;rw [HQ.out];simp [*]
         have t':at_≠0:=by omega
         clear t1;go_enter Tryz.func213,Tryz.ntmps213;go_wp2_with fail;refine (HG.out _).mono ?_;rintro e w1 ⟨rfl,rfl⟩;go_wp2_with fail;go_ret;exact ⟨ret_bool (by first | exact HR.out.symm | (rw [HR.out];first | (simp;omega) | (simp [*];done))),al2 _ _ _⟩
     . have HR:Hid (zau c (.mk op n m at_ args)=false):=by show _=_;rw [HQ.out];simp [*]
       have t':m≠0:=by omega
       clear t2;go_enter Tryz.func213,Tryz.ntmps213;go_wp2_with fail;refine (HG.out _).mono ?_;rintro e w1 ⟨rfl,rfl⟩;go_wp2_with fail;go_ret;exact ⟨ret_bool HR.out.symm,al2 _ _ _⟩
   . have HR:Hid (zau c (.mk op n m at_ args)=false):=by show _=_;rw [HQ.out];simp [*]
     have t':n≠0:=by omega
     clear t3;go_enter Tryz.func213,Tryz.ntmps213;go_wp2_with fail;refine (HG.out _).mono ?_;rintro e w1 ⟨rfl,rfl⟩;go_wp2_with fail;go_ret;exact ⟨ret_bool HR.out.symm,al2 _ _ _⟩
 . have HR:Hid (zau c (.mk op n m at_ args)=false):=by show _=_;rw [HQ.out];simp [*]
   have t':(args.length:Int)≠g:=by omega
   clear t4;go_enter Tryz.func213,Tryz.ntmps213;go_wp2_with fail;refine (HG.out _).mono ?_;rintro e w1 ⟨rfl,rfl⟩;go_wp2_with fail;go_ret;exact ⟨ret_bool HR.out.symm,al2 _ _ _⟩
theorem zp5 (c:Ck) (s:ByteArray) (x1:OA) (y1:Nat) (x2:OA) (y2:Nat) (x3:OA) (n3 y3:Nat) (iv:Value) (x:Ac) (aa:OA) (cp:Nat) (ab:OA) (cb:Nat) (ao:OA) (co:Nat) (w:World) (hC:CkAt w c (.agg #[.string s,.slice x1 c.uses y1,qi c.data,.slice x2 c.parts.length y2,.slice x3 n3 y3,iv,qi c.locals])) (hm:(Lit.int .i64 x.m).wf=true) (ha:(Lit.int .i64 x.at_).wf=true) (hl:x.args.length<=17592186044416) :
 qc 169 #[.agg #[.string s,.slice x1 c.uses y1,qi c.data,.slice x2 c.parts.length y2,.slice x3 n3 y3,iv,qi c.locals],.agg #[qi x.op,qi x.n,qi x.m,qi x.at_,.slice aa x.args.length cp,.slice ab x.body.length cb,.slice ao x.other.length co]] w fun e w'=>e = .returned (.bool (zb2 c x))/\qb w w':=by
 obtain ⟨op,n,m,at_,args,body,other⟩:=x;simp only [Ac.op,Ac.n,Ac.m,Ac.at_,Ac.args,Ac.body,Ac.other] at *;have HC:=hid hC;have HM:=hid hm;have HA:=hid ha;clear hC hm ha
 by_cases o1:op=1
 . subst o1
   by_cases om:m = -1
   . subst om
     by_cases t2:args.length=1
     . by_cases t1:n=0
       . have HR:Hid (zb2 c (.mk 1 n (-1) at_ args body other)=zvx c at_):=by show _=_;unfold zb2;simp only [Ac.op,Ac.n,Ac.m,Ac.at_,Ac.args];simp [*]
         go_enter Tryz.func169,Tryz.ntmps169;go_wp2_with fail;refine (zgn c s x1 y1 x2 y2 x3 n3 y3 iv at_ _).mono ?_;rintro e w1 ⟨rfl,A5⟩;have A8:=hid (thenB (al2 w _ _) A5);clear A5;go_wp2_with fail;go_ret;exact ⟨ret_bool HR.out.symm,A8.out⟩
       . have HR:Hid (zb2 c (.mk 1 n (-1) at_ args body other)=false):=by show _=_;unfold zb2;simp only [Ac.op,Ac.n,Ac.m,Ac.at_,Ac.args];simp [*]
         have t':n≠0:=by omega
         clear t1;go_enter Tryz.func169,Tryz.ntmps169;go_wp2_with fail;go_ret;exact ⟨ret_bool HR.out.symm,al2 _ _ _⟩
     . have HR:Hid (zb2 c (.mk 1 n (-1) at_ args body other)=false):=by show _=_;unfold zb2;simp only [Ac.op,Ac.n,Ac.m,Ac.at_,Ac.args];simp [*]
       have t':args.length≠1:=by omega
       clear t2;go_enter Tryz.func169,Tryz.ntmps169;go_wp2_with fail;go_ret;exact ⟨ret_bool HR.out.symm,al2 _ _ _⟩
   . by_cases t2:args.length=1
     . by_cases t1:n=0
       . have HR:Hid (zb2 c (.mk 1 n m at_ args body other)=numB c m at_ 1):=by show _=_;unfold zb2;simp only [Ac.op,Ac.n,Ac.m,Ac.at_,Ac.args];simp [*]
         go_enter Tryz.func169,Tryz.ntmps169;go_wp2_with fail;refine (HC.out.num _ (al2 _ _ _) m at_ 1 HM.out HA.out (by decide) (by decide)).mono ?_;rintro e w1 ⟨rfl,A5⟩;have A8:=hid (thenB (al2 w _ _) A5);clear A5;go_wp2_with fail;go_ret;exact ⟨ret_bool HR.out.symm,A8.out⟩
       . have HR:Hid (zb2 c (.mk 1 n m at_ args body other)=false):=by show _=_;unfold zb2;simp only [Ac.op,Ac.n,Ac.m,Ac.at_,Ac.args];simp [*]
         have t':n≠0:=by omega
         clear t1;go_enter Tryz.func169,Tryz.ntmps169;go_wp2_with fail;go_ret;exact ⟨ret_bool HR.out.symm,al2 _ _ _⟩
     . have HR:Hid (zb2 c (.mk 1 n m at_ args body other)=false):=by show _=_;unfold zb2;simp only [Ac.op,Ac.n,Ac.m,Ac.at_,Ac.args];simp [*]
       have t':args.length≠1:=by omega
       clear t2;go_enter Tryz.func169,Tryz.ntmps169;go_wp2_with fail;go_ret;exact ⟨ret_bool HR.out.symm,al2 _ _ _⟩
 by_cases o2:op=2
 . subst o2
   by_cases t1:args.length=2
   . have HR:Hid (zb2 c (.mk 2 n m at_ args body other)=zym c n m at_):=by show _=_;unfold zb2;simp only [Ac.op,Ac.n,Ac.m,Ac.at_,Ac.args];simp [*]
     go_enter Tryz.func169,Tryz.ntmps169;go_wp2_with fail;refine (zgo c s x1 y1 x2 y2 x3 n3 y3 iv n m at_ _ (HC.out.later (al2 _ _ _)) HM.out HA.out).mono ?_;rintro e w1 ⟨rfl,A5⟩;have A8:=hid (thenB (al2 w _ _) A5);clear A5;go_wp2_with fail;go_ret;exact ⟨ret_bool HR.out.symm,A8.out⟩
   . have HR:Hid (zb2 c (.mk 2 n m at_ args body other)=false):=by show _=_;unfold zb2;simp only [Ac.op,Ac.n,Ac.m,Ac.at_,Ac.args];simp [*]
     have t':args.length≠2:=by omega
     clear t1;go_enter Tryz.func169,Tryz.ntmps169;go_wp2_with fail;go_ret;exact ⟨ret_bool HR.out.symm,al2 _ _ _⟩
 by_cases o3:op=3
 . subst o3
   by_cases t1:n=0
   . have HR:Hid (zb2 c (.mk 3 n m at_ args body other)=zi1 c m at_ args.length):=by show _=_;unfold zb2;simp only [Ac.op,Ac.n,Ac.m,Ac.at_,Ac.args];simp [*]
     go_enter Tryz.func169,Tryz.ntmps169;go_wp2_with fail;refine (HC.out.prt _ (al2 _ _ _) m at_ args.length HM.out HA.out hl).mono ?_;rintro e w1 ⟨rfl,A5⟩;have A8:=hid (thenB (al2 w _ _) A5);clear A5;go_wp2_with fail;go_ret;exact ⟨ret_bool HR.out.symm,A8.out⟩
   . have HR:Hid (zb2 c (.mk 3 n m at_ args body other)=false):=by show _=_;unfold zb2;simp only [Ac.op,Ac.n,Ac.m,Ac.at_,Ac.args];simp [*]
     have t':n≠0:=by omega
     clear t1;go_enter Tryz.func169,Tryz.ntmps169;go_wp2_with fail;go_ret;exact ⟨ret_bool HR.out.symm,al2 _ _ _⟩
 by_cases o4:op=4
 . subst o4
   by_cases t4:args.length=1
   . by_cases t3:n=0
     . by_cases t2:m=0
       . by_cases t1:at_=0
         . have HR:Hid (zb2 c (.mk 4 n m at_ args body other)=true):=by show _=_;unfold zb2;simp only [Ac.op,Ac.n,Ac.m,Ac.at_,Ac.args];simp [*]
           go_enter Tryz.func169,Tryz.ntmps169;go_wp2_with fail;go_ret;exact ⟨ret_bool HR.out.symm,al2 _ _ _⟩
         . have HR:Hid (zb2 c (.mk 4 n m at_ args body other)=false):=by show _=_;unfold zb2;simp only [Ac.op,Ac.n,Ac.m,Ac.at_,Ac.args];simp [*]
           have t':at_≠0:=by omega
           clear t1;go_enter Tryz.func169,Tryz.ntmps169;go_wp2_with fail;go_ret;exact ⟨ret_bool (by first | exact HR.out.symm | (rw [HR.out];first | (simp;omega) | (simp [*];done))),al2 _ _ _⟩
       . have HR:Hid (zb2 c (.mk 4 n m at_ args body other)=false):=by show _=_;unfold zb2;simp only [Ac.op,Ac.n,Ac.m,Ac.at_,Ac.args];simp [*]
         have t':m≠0:=by omega
         clear t2;go_enter Tryz.func169,Tryz.ntmps169;go_wp2_with fail;go_ret;exact ⟨ret_bool HR.out.symm,al2 _ _ _⟩
     . have HR:Hid (zb2 c (.mk 4 n m at_ args body other)=false):=by show _=_;unfold zb2;simp only [Ac.op,Ac.n,Ac.m,Ac.at_,Ac.args];simp [*]
       have t':n≠0:=by omega
       clear t3;go_enter Tryz.func169,Tryz.ntmps169;go_wp2_with fail;go_ret;exact ⟨ret_bool HR.out.symm,al2 _ _ _⟩
   . have HR:Hid (zb2 c (.mk 4 n m at_ args body other)=false):=by show _=_;unfold zb2;simp only [Ac.op,Ac.n,Ac.m,Ac.at_,Ac.args];simp [*]
     have t':args.length≠1:=by omega
     clear t4;go_enter Tryz.func169,Tryz.ntmps169;go_wp2_with fail;go_ret;exact ⟨ret_bool HR.out.symm,al2 _ _ _⟩
 by_cases o5:op=5
 . subst o5
   by_cases t4:args.length=1
   . by_cases t3:n=0
     . by_cases t2:m=0
       . by_cases t1:at_=0
         . have HR:Hid (zb2 c (.mk 5 n m at_ args body other)=true):=by show _=_;unfold zb2;simp only [Ac.op,Ac.n,Ac.m,Ac.at_,Ac.args];simp [*]
           go_enter Tryz.func169,Tryz.ntmps169;go_wp2_with fail;go_ret;exact ⟨ret_bool HR.out.symm,al2 _ _ _⟩
         . have HR:Hid (zb2 c (.mk 5 n m at_ args body other)=false):=by show _=_;unfold zb2;simp only [Ac.op,Ac.n,Ac.m,Ac.at_,Ac.args];simp [*]
           have t':at_≠0:=by omega
           clear t1;go_enter Tryz.func169,Tryz.ntmps169;go_wp2_with fail;go_ret;exact ⟨ret_bool (by first | exact HR.out.symm | (rw [HR.out];first | (simp;omega) | (simp [*];done))),al2 _ _ _⟩
       . have HR:Hid (zb2 c (.mk 5 n m at_ args body other)=false):=by show _=_;unfold zb2;simp only [Ac.op,Ac.n,Ac.m,Ac.at_,Ac.args];simp [*]
         have t':m≠0:=by omega
         clear t2;go_enter Tryz.func169,Tryz.ntmps169;go_wp2_with fail;go_ret;exact ⟨ret_bool HR.out.symm,al2 _ _ _⟩
     . have HR:Hid (zb2 c (.mk 5 n m at_ args body other)=false):=by show _=_;unfold zb2;simp only [Ac.op,Ac.n,Ac.m,Ac.at_,Ac.args];simp [*]
       have t':n≠0:=by omega
       clear t3;go_enter Tryz.func169,Tryz.ntmps169;go_wp2_with fail;go_ret;exact ⟨ret_bool HR.out.symm,al2 _ _ _⟩
   . have HR:Hid (zb2 c (.mk 5 n m at_ args body other)=false):=by show _=_;unfold zb2;simp only [Ac.op,Ac.n,Ac.m,Ac.at_,Ac.args];simp [*]
     have t':args.length≠1:=by omega
     clear t4;go_enter Tryz.func169,Tryz.ntmps169;go_wp2_with fail;go_ret;exact ⟨ret_bool HR.out.symm,al2 _ _ _⟩
 by_cases o6:op=6
 . subst o6
   by_cases t4:args.length=1
   . by_cases t3:n=0
     . by_cases t2:m=0
       . by_cases t1:at_=0
         . have HR:Hid (zb2 c (.mk 6 n m at_ args body other)=true):=by show _=_;unfold zb2;simp only [Ac.op,Ac.n,Ac.m,Ac.at_,Ac.args];simp [*]
           go_enter Tryz.func169,Tryz.ntmps169;go_wp2_with fail;go_ret;exact ⟨ret_bool HR.out.symm,al2 _ _ _⟩
         . have HR:Hid (zb2 c (.mk 6 n m at_ args body other)=false):=by show _=_;unfold zb2;simp only [Ac.op,Ac.n,Ac.m,Ac.at_,Ac.args];simp [*]
           have t':at_≠0:=by omega
           clear t1;go_enter Tryz.func169,Tryz.ntmps169;go_wp2_with fail;go_ret;exact ⟨ret_bool (by first | exact HR.out.symm | (rw [HR.out];first | (simp;omega) | (simp [*];done))),al2 _ _ _⟩
       . have HR:Hid (zb2 c (.mk 6 n m at_ args body other)=false):=by show _=_;unfold zb2;simp only [Ac.op,Ac.n,Ac.m,Ac.at_,Ac.args];simp [*]
         have t':m≠0:=by omega
         clear t2;go_enter Tryz.func169,Tryz.ntmps169;go_wp2_with fail;go_ret;exact ⟨ret_bool HR.out.symm,al2 _ _ _⟩
     . have HR:Hid (zb2 c (.mk 6 n m at_ args body other)=false):=by show _=_;unfold zb2;simp only [Ac.op,Ac.n,Ac.m,Ac.at_,Ac.args];simp [*]
       have t':n≠0:=by omega
       clear t3;go_enter Tryz.func169,Tryz.ntmps169;go_wp2_with fail;go_ret;exact ⟨ret_bool HR.out.symm,al2 _ _ _⟩
   . have HR:Hid (zb2 c (.mk 6 n m at_ args body other)=false):=by show _=_;unfold zb2;simp only [Ac.op,Ac.n,Ac.m,Ac.at_,Ac.args];simp [*]
     have t':args.length≠1:=by omega
     clear t4;go_enter Tryz.func169,Tryz.ntmps169;go_wp2_with fail;go_ret;exact ⟨ret_bool HR.out.symm,al2 _ _ _⟩
 by_cases o7:op=7
 . subst o7
   by_cases t4:args.length=1
   . by_cases t3:n=0
     . by_cases t2:m=0
       . by_cases t1:at_=0
         . have HR:Hid (zb2 c (.mk 7 n m at_ args body other)=true):=by show _=_;unfold zb2;simp only [Ac.op,Ac.n,Ac.m,Ac.at_,Ac.args];simp [*]
           go_enter Tryz.func169,Tryz.ntmps169;go_wp2_with fail;go_ret;exact ⟨ret_bool HR.out.symm,al2 _ _ _⟩
         . have HR:Hid (zb2 c (.mk 7 n m at_ args body other)=false):=by show _=_;unfold zb2;simp only [Ac.op,Ac.n,Ac.m,Ac.at_,Ac.args];simp [*]
           have t':at_≠0:=by omega
           clear t1;go_enter Tryz.func169,Tryz.ntmps169;go_wp2_with fail;go_ret;exact ⟨ret_bool (by first | exact HR.out.symm | (rw [HR.out];first | (simp;omega) | (simp [*];done))),al2 _ _ _⟩
       . have HR:Hid (zb2 c (.mk 7 n m at_ args body other)=false):=by show _=_;unfold zb2;simp only [Ac.op,Ac.n,Ac.m,Ac.at_,Ac.args];simp [*]
         have t':m≠0:=by omega
         clear t2;go_enter Tryz.func169,Tryz.ntmps169;go_wp2_with fail;go_ret;exact ⟨ret_bool HR.out.symm,al2 _ _ _⟩
     . have HR:Hid (zb2 c (.mk 7 n m at_ args body other)=false):=by show _=_;unfold zb2;simp only [Ac.op,Ac.n,Ac.m,Ac.at_,Ac.args];simp [*]
       have t':n≠0:=by omega
       clear t3;go_enter Tryz.func169,Tryz.ntmps169;go_wp2_with fail;go_ret;exact ⟨ret_bool HR.out.symm,al2 _ _ _⟩
   . have HR:Hid (zb2 c (.mk 7 n m at_ args body other)=false):=by show _=_;unfold zb2;simp only [Ac.op,Ac.n,Ac.m,Ac.at_,Ac.args];simp [*]
     have t':args.length≠1:=by omega
     clear t4;go_enter Tryz.func169,Tryz.ntmps169;go_wp2_with fail;go_ret;exact ⟨ret_bool HR.out.symm,al2 _ _ _⟩
 have HR:Hid (zb2 c (.mk op n m at_ args body other)=false):=by
  show _=_;unfold zb2;exact (if_neg o1).trans ((if_neg o2).trans ((if_neg o3).trans (if_neg (by show ¬ (4<=op/\op<=7);omega))))
 go_enter Tryz.func169,Tryz.ntmps169;go_wp2_with fail;go_ret;exact ⟨ret_bool HR.out.symm,al2 _ _ _⟩
set_option maxHeartbeats 1600000
theorem zhi (c:Ck) (s:ByteArray) (x1:OA) (y1:Nat) (x2:OA) (y2:Nat) (x3:OA) (n3 y3:Nat) (iv:Value) (a:OA) (cap:Nat) (Ae:Int) (w:World) :
 qc 170 #[.agg #[.string s,.slice x1 c.uses y1,qi c.data,.slice x2 c.parts.length y2,.slice x3 n3 y3,iv,qi c.locals],.slice a 0 cap,qi Ae] w fun e w'=>e = .returned (.bool true)/\qb w w':=by
 go_enter Tryz.func170,Tryz.ntmps170;go_wp2_with fail
 go_loopw [18] (fun i wr=>i=qi 0/\qb w wr) (fun _ _=>0)
 case atStart=>exact ⟨rfl,al1 _ _⟩
 case round=>
  obtain ⟨rfl,hb⟩:=hrel;have HB:=hid hb;clear hb;go_wp2_with fail;go_ret;exact ⟨rfl,HB.out⟩
theorem zlt (c:Ck) (s:ByteArray) (x1:OA) (y1:Nat) (x2:OA) (y2:Nat) (x3:OA) (n3 y3:Nat) (iv:Value) (a:OA) (n cap:Nat) (w:World) (hn:0<n) :
 qc 170 #[.agg #[.string s,.slice x1 c.uses y1,qi c.data,.slice x2 c.parts.length y2,.slice x3 n3 y3,iv,qi c.locals],.slice a n cap,qi 7] w fun e w'=>e = .returned (.bool false)/\qb w w':=by
 go_enter Tryz.func170,Tryz.ntmps170;go_wp2_with fail;go_ret;exact ⟨rfl,al1 _ _⟩
theorem z1m (c:Ck) (k:Nat):zf2 c k []=true:=by cases k<;>simp [zf2]
theorem zhj (c:Ck) (s:ByteArray) (x1:OA) (y1:Nat) (x2:OA) (y2:Nat) (x3:OA) (n3 y3:Nat) (iv:Value):∀ (k:Nat),k<=6->∀ (l:List Nd) (A:Nat->Prop) (a:OA) (cap:Nat) (Ae:Int) (w:World),Ae=7 - (k:Int)->DAt w A a l.length (zc2 l)->CkAt w c (.agg #[.string s,.slice x1 c.uses y1,qi c.data,.slice x2 c.parts.length y2,.slice x3 n3 y3,iv,qi c.locals])->
 qc 170 #[.agg #[.string s,.slice x1 c.uses y1,qi c.data,.slice x2 c.parts.length y2,.slice x3 n3 y3,iv,qi c.locals],.slice a l.length cap,qi Ae] w fun e w'=>e = .returned (.bool (zf2 c k l))/\qb w w'
 | 0,_,l,A,a,cap,Ae,w,hd,_,_=>by
   obtain rfl:Ae=7:=by omega
   rcases vdx l.length with h0 | h0
   . obtain rfl:=vam h0
     exact zhi c s x1 y1 x2 y2 x3 n3 y3 iv a cap 7 w
   . have:zf2 c 0 l=false:=by simp only [zf2];exact decide_eq_false (by omega)
     rw [this];exact zlt c s x1 y1 x2 y2 x3 n3 y3 iv a l.length cap w h0
 | k + 1, hk,l,A,a,cap,Ae,w,hd,hD,hC=>by
   have HI:=hid (fun (l:List Nd) (A:Nat->Prop) (a:OA) (cap:Nat) (w:World)=>zhj c s x1 y1 x2 y2 x3 n3 y3 iv k (by omega) l A a cap (Ae+1) w (by omega))
   rcases vdx l.length with h0 | h0
   . obtain rfl:=vam h0
     rw [z1m];exact zhi c s x1 y1 x2 y2 x3 n3 y3 iv a cap Ae w
   have HR:Hid (zf2 c (k+1) l=l.all (fun x=>zau c x&&zf2 c k x.args)):=by show _=_;simp [zf2]
   have Bt:=hD.bound
   have C8:1<=Ae:=by omega
   have Jr:Ae<=6:=by omega
   have HD:=hid hD;have HC:=hid hC;clear hD hC hd;go_enter Tryz.func170,Tryz.ntmps170;go_wp2_with fail
   go_loopw [18] (fun i wr=>∃ j:Nat,j<=l.length/\i=qi j/\(l.take j).all (fun x=>zau c x&&zf2 c k x.args)=true/\qb w wr/\wr.heap[w.heap.size]? = some (.cells #[.string s,.slice x1 c.uses y1,qi c.data,.slice x2 c.parts.length y2,.slice x3 n3 y3,iv,qi c.locals] 206)) (fun i _=>l.length - (intOf i).toNat)
   case atStart=>exact ⟨0,vae _,rfl,rfl,al1 _ _,heap_newP _ _⟩
   case round=>
    obtain ⟨j,hj,rfl,A6,hb,hB⟩:=hrel;obtain ⟨q0,q1,q2,q3,q4,q5,q6,qz⟩:=zaj hB;have HB:=hid hb;have HX:=hid hB;have HL:=hid A6;clear A6 hB hb
    by_cases A0:j<l.length
    . obtain ⟨b,off,aa,cp,rfl,hx⟩:=(HD.out.later HB.out).nd j A0
      have HF:=hid (fun (h:(zau c l[j]&&zf2 c k l[j].args)=false)=>all_not l (fun x=>zau c x&&zf2 c k x.args) j A0 h);have HT:=hid (fun (h:(zau c l[j]&&zf2 c k l[j].args)=true)=>(by rw [all_snoc l _ j A0,HL.out,h];rfl:(l.take (j+1)).all (fun x=>zau c x&&zf2 c k x.args)=true));obtain ⟨Au,x0,x1',x2',Ky,x4,hargs,_,_,hm,AF⟩:=hx;have HA:=hid hargs;have DF:=hargs.bound;have HM:=hid hm;have FR:=hid AF;clear hargs hm AF;generalize l[j]=x at *;go_wp2_with fail;refine (zob c s x1 y1 x2 y2 x3 n3 y3 iv x aa cp _ (HC.out.later (thenB HB.out (al1 _ _))) HM.out FR.out DF).mono ?_
      cases h1:zau c x with
      | false=>
        rintro e w3 ⟨rfl,A9⟩;have Af:=hid (thenB HB.out (thenB (al1 _ _) A9));have Be:=hid (HF.out (by rw [h1];rfl));clear A9;go_wp2_with fail;go_ret;exact ⟨ret_bool (by rw [HR.out,Be.out]),Af.out⟩
      | true=>
        rintro e w3 ⟨rfl,A9⟩;have Af:=hid (thenB (al1 wr _) A9);have p1:=(Af.out.block _ (lt_of_heap HX.out)).trans HX.out;have p2:=(A9.block _ (by simp)).trans (heap_newP wr (kzF x.op x.n x.m x.at_ aa x.args.length cp));have CI:=hid p1;clear q0 q1 q2 q3 q4 q5 q6 qz x0 x1' x2' Ky x4 Au;obtain ⟨q0,q1,q2,q3,q4,q5,q6,qz⟩:=zaj p1;obtain ⟨z0,z1,z2,z3,z4,_⟩:=zaa p2;have zz:=lt_of_heap p2;clear A9 p1 p2;go_wp2_with fail;refine (HI.out x.args A aa cp _ (HA.out.later Af.out) (HC.out.later (thenB HB.out Af.out))).mono ?_
        cases h2:zf2 c k x.args with
        | false=>
          rintro e w4 ⟨rfl,Ah⟩;have An:=hid (thenB (thenB HB.out Af.out) Ah);have Be:=hid (HF.out (by rw [h1,h2];rfl));clear Ah;go_wp2_with fail;go_ret;exact ⟨ret_bool (by rw [HR.out,Be.out]),An.out⟩
        | true=>
          rintro e w4 ⟨rfl,Ah⟩;have An:=hid (thenB (thenB HB.out Af.out) Ah);have DJ:=hid ((Ah.block _ (lt_of_heap CI.out)).trans CI.out);have B8:=hid (HT.out (by rw [h1,h2];rfl));clear Ah;go_wp2_with fail;go_roundw
          case rel=>exact ⟨j+1,by omega,by go_num,B8.out,An.out,DJ.out⟩
          case measure=>simp [intOf];omega
    . have HT:Hid (l.all (fun x=>zau c x&&zf2 c k x.args)=true):=zci HL.out A0
      go_wp2_with fail;go_ret;exact ⟨ret_bool (by rw [HR.out,HT.out]),HB.out⟩
set_option maxHeartbeats 3200000
def zzq (c:Ck) (k:Nat) (a:Ac):Bool:=if a.op=4 then zd9 c k a.body&&zd9 c k a.other else if a.op=5 then zd9 c k a.body&&decide (a.other.length=0) else decide (a.body.length=0)&&decide (a.other.length=0)
def zoc (c:Ck) (cv:Value) (k:Nat):Prop:=∀ (l:List Ac) (A:Nat->Prop) (a:OA) (cap:Nat) (Ae:Int) (w:World),Ae=7 - (k:Int)->DAt w A a l.length (zc7 l)->CkAt w c cv->
    qc 128 #[cv,.slice a l.length cap,qi Ae] w fun e w'=>e = .returned (.bool (zd9 c k l))/\qb w w'
theorem zlu (c:Ck) (s:ByteArray) (x1:OA) (y1:Nat) (x2:OA) (y2:Nat) (x3:OA) (n3 y3:Nat) (iv:Value) (k:Nat) (hk:k<=6) (ih:zoc c (.agg #[.string s,.slice x1 c.uses y1,qi c.data,.slice x2 c.parts.length y2,.slice x3 n3 y3,iv,qi c.locals]) k) (x:Ac) (A:Nat->Prop) (aa:OA) (cp:Nat) (ab:OA) (cb:Nat) (ao:OA) (co:Nat) (Ae:Int) (w:World) (hd:Ae=7 - (k:Int)) (hB:DAt w A ab x.body.length (zc7 x.body)) (hO:DAt w A ao x.other.length (zc7 x.other)) (hC:CkAt w c (.agg #[.string s,.slice x1 c.uses y1,qi c.data,.slice x2 c.parts.length y2,.slice x3 n3 y3,iv,qi c.locals])) :
 qc 171 #[.agg #[.string s,.slice x1 c.uses y1,qi c.data,.slice x2 c.parts.length y2,.slice x3 n3 y3,iv,qi c.locals],.agg #[qi x.op,qi x.n,qi x.m,qi x.at_,.slice aa x.args.length cp,.slice ab x.body.length cb,.slice ao x.other.length co],qi Ae] w fun e w'=>e = .returned (.bool (zzq c k x))/\qb w w':=by
 have HI:=hid (fun l A a cap w=>ih l A a cap Ae w hd);have Ip:=hB.bound;have Id:=hO.bound;have HB:=hid hB;have HO:=hid hO;have HC:=hid hC;clear ih hB hO hC hd
 by_cases o4:x.op=4
 . have HR:Hid (zzq c k x=(zd9 c k x.body&&zd9 c k x.other)):=if_pos o4
   go_enter Tryz.func171,Tryz.ntmps171;go_wp2_with fail;refine (HI.out x.body A ab cb _ (HB.out.later (al2 _ _ _)) (HC.out.later (al2 _ _ _))).mono ?_
   cases h1:zd9 c k x.body with
   | false=>
     rintro e w3 ⟨rfl,A9⟩;have Af:=hid (thenB (al2 w _ _) A9);clear A9;go_wp2_with fail;go_ret;exact ⟨ret_bool (by rw [HR.out,h1];rfl),Af.out⟩
   | true=>
     rintro e w3 ⟨rfl,A9⟩;have Af:=hid (thenB (al2 w _ _) A9);have p1:=(A9.block w.heap.size (by simp;omega)).trans (zab (heap_newP w (.cells #[.string s,.slice x1 c.uses y1,qi c.data,.slice x2 c.parts.length y2,.slice x3 n3 y3,iv,qi c.locals] 206)));have p2:=(A9.block (w.heap.size+1) (by simp)).trans (z6m w _ _);obtain ⟨q0,q1,q2,q3,q4,q5,q6,qz⟩:=zaj p1;obtain ⟨z0,z1,z2,z3,z4,z5,z6,zz⟩:=zaj p2;clear A9 p1 p2;go_wp2_with fail;refine (HI.out x.other A ao co _ (HO.out.later Af.out) (HC.out.later Af.out)).mono ?_;rintro e w4 ⟨rfl,Ah⟩;have An:=hid (thenB Af.out Ah);clear Ah;go_wp2_with fail;go_ret;exact ⟨ret_bool (by rw [HR.out,h1];rfl),An.out⟩
 by_cases o5:x.op=5
 . have HR:Hid (zzq c k x=(zd9 c k x.body&&decide (x.other.length=0))):=(if_neg o4).trans (if_pos o5)
   go_enter Tryz.func171,Tryz.ntmps171;go_wp2_with fail;refine (HI.out x.body A ab cb _ (HB.out.later (al2 _ _ _)) (HC.out.later (al2 _ _ _))).mono ?_
   cases h1:zd9 c k x.body with
   | false=>
     rintro e w3 ⟨rfl,A9⟩;have Af:=hid (thenB (al2 w _ _) A9);clear A9;go_wp2_with fail;go_ret;exact ⟨ret_bool (by rw [HR.out,h1];rfl),Af.out⟩
   | true=>
     rintro e w3 ⟨rfl,A9⟩;have Af:=hid (thenB (al2 w _ _) A9);have p2:=(A9.block (w.heap.size+1) (by simp)).trans (z6m w _ _);obtain ⟨z0,z1,z2,z3,z4,z5,z6,zz⟩:=zaj p2;clear A9 p2
     by_cases h0:x.other.length=0
     . go_wp2_with fail
       go_ret;exact ⟨ret_bool (by rw [HR.out,h1,decide_eq_true h0];rfl),Af.out⟩
     . have JD:x.other.length≠0:=h0
       have B4:Hid (zzq c k x=false):=by show _=_;rw [HR.out,h1,decide_eq_false h0];rfl
       clear h0;go_wp2_with fail;go_ret;exact ⟨ret_bool (by first | exact B4.out.symm | (rw [B4.out];first | (simp;omega) | (simp [*];done))),Af.out⟩
 . have HR:Hid (zzq c k x=(decide (x.body.length=0)&&decide (x.other.length=0))):=(if_neg o4).trans (if_neg o5)
   by_cases Di:x.body.length=0
   . by_cases h0:x.other.length=0
     . have B4:Hid (zzq c k x=true):=by show _=_;rw [HR.out,decide_eq_true h0,decide_eq_true Di];rfl
       go_enter Tryz.func171,Tryz.ntmps171;go_wp2_with fail;go_ret;exact ⟨ret_bool B4.out.symm,al2 _ _ _⟩
     . have JD:x.other.length≠0:=h0
       have B4:Hid (zzq c k x=false):=by show _=_;rw [HR.out,decide_eq_false h0,decide_eq_true Di];rfl
       clear h0;go_enter Tryz.func171,Tryz.ntmps171;go_wp2_with fail;go_ret;exact ⟨ret_bool (by first | exact B4.out.symm | (rw [B4.out];first | (simp;omega) | (simp [*];done))),al2 _ _ _⟩
   . have JD:x.body.length≠0:=Di
     have B4:Hid (zzq c k x=false):=by show _=_;rw [HR.out,decide_eq_false Di];rfl
     clear Di;go_enter Tryz.func171,Tryz.ntmps171;go_wp2_with fail;go_ret;exact ⟨ret_bool B4.out.symm,al2 _ _ _⟩
theorem zkn (c:Ck) (s:ByteArray) (x1:OA) (y1:Nat) (x2:OA) (y2:Nat) (x3:OA) (n3 y3:Nat) (iv:Value) (a:OA) (n cap:Nat) (w:World) :
 qc 128 #[.agg #[.string s,.slice x1 c.uses y1,qi c.data,.slice x2 c.parts.length y2,.slice x3 n3 y3,iv,qi c.locals],.slice a n cap,qi 7] w fun e w'=>e = .returned (.bool false)/\qb w w':=by
 go_enter Tryz.func128,Tryz.ntmps128;go_wp2_with fail;go_ret;exact ⟨rfl,al1 _ _⟩
theorem zko (c:Ck) (s:ByteArray) (x1:OA) (y1:Nat) (x2:OA) (y2:Nat) (x3:OA) (n3 y3:Nat) (iv:Value) (a:OA) (n cap:Nat) (Ae:Int) (w:World) (hd:Ae<=6) (hn:10<n) (Dv:n<=17592186044416) :
 qc 128 #[.agg #[.string s,.slice x1 c.uses y1,qi c.data,.slice x2 c.parts.length y2,.slice x3 n3 y3,iv,qi c.locals],.slice a n cap,qi Ae] w fun e w'=>e = .returned (.bool false)/\qb w w':=by
 go_enter Tryz.func128,Tryz.ntmps128;go_wp2_with fail;go_ret;exact ⟨rfl,al1 _ _⟩
def zvy (c:Ck) (k:Nat) (x:Ac):Bool:=zb2 c x&&(zf2 c 6 x.args&&zzq c k x)
theorem zp6 (c:Ck) (k:Nat) (l:List Ac):zd9 c (k+1) l=(decide (l.length<=10)&&l.all (zvy c k)):=by
 rw [zd9]
 rfl
theorem zve (c:Ck) (s:ByteArray) (x1:OA) (y1:Nat) (x2:OA) (y2:Nat) (x3:OA) (n3 y3:Nat) (iv:Value) (k:Nat) (hk:k+1<=6) (ih:zoc c (.agg #[.string s,.slice x1 c.uses y1,qi c.data,.slice x2 c.parts.length y2,.slice x3 n3 y3,iv,qi c.locals]) k):zoc c (.agg #[.string s,.slice x1 c.uses y1,qi c.data,.slice x2 c.parts.length y2,.slice x3 n3 y3,iv,qi c.locals]) (k+1):=by
 intro l A a cap Ae w hd hD hC;have Bt:=hD.bound
 by_cases DG:10<l.length
 . have:zd9 c (k+1) l=false:=by rw [zp6,decide_eq_false (by omega)];rfl
   rw [this];exact zko c s x1 y1 x2 y2 x3 n3 y3 iv a l.length cap Ae w (by omega) DG Bt
 have MM:l.length<=10:=by omega
 have HR:Hid (zd9 c (k+1) l=l.all (zvy c k)):=by show _=_;rw [zp6,decide_eq_true MM];rfl
 have C8:1<=Ae:=by omega
 have Jr:Ae<=6:=by omega
 have HI:=hid (fun x A aa cp ab cb ao co w=>zlu c s x1 y1 x2 y2 x3 n3 y3 iv k (by omega) ih x A aa cp ab cb ao co (Ae+1) w (by omega));have HD:=hid hD;have HC:=hid hC;clear hD hC hd DG ih;go_enter Tryz.func128,Tryz.ntmps128;go_wp2_with fail
 go_loopw [18] (fun i wr=>∃ j:Nat,j<=l.length/\i=qi j/\(l.take j).all (zvy c k)=true/\qb w wr/\wr.heap[w.heap.size]? = some (.cells #[.string s,.slice x1 c.uses y1,qi c.data,.slice x2 c.parts.length y2,.slice x3 n3 y3,iv,qi c.locals] 206)) (fun i _=>l.length - (intOf i).toNat)
 case atStart=>exact ⟨0,vae _,rfl,rfl,al1 _ _,heap_newP _ _⟩
 case round=>
  obtain ⟨j,hj,rfl,A6,hb,hB⟩:=hrel;obtain ⟨q0,q1,q2,q3,q4,q5,q6,qz⟩:=zaj hB;have HB:=hid hb;have HX:=hid hB;have HL:=hid A6;clear A6 hB hb
  by_cases A0:j<l.length
  . obtain ⟨b,off,aa,cp,ab,cb,ao,co,rfl,hx⟩:=(HD.out.later HB.out).ac j A0
    have HF:=hid (fun (h:zvy c k l[j]=false)=>all_not l (zvy c k) j A0 h);have HT:=hid (fun (h:zvy c k l[j]=true)=>(by rw [all_snoc l _ j A0,HL.out,h];rfl:(l.take (j+1)).all (zvy c k)=true));obtain ⟨Au,x0,x1',x2',Ky,x4,x5,x6,hargs,hbody,hother,_,_,hm,AF⟩:=hx;have DF:=hargs.bound;have HA:=hid hargs;have Gp:=hid hbody;have N7:=hid hother;have HM:=hid hm;have FR:=hid AF;clear hargs hbody hother hm AF;generalize l[j]=x at *;go_wp2_with fail;refine (zp5 c s x1 y1 x2 y2 x3 n3 y3 iv x aa cp ab cb ao co _ (HC.out.later (thenB HB.out (al1 _ _))) HM.out FR.out DF).mono ?_
    cases h1:zb2 c x with
    | false=>
      rintro e w3 ⟨rfl,A9⟩;have Af:=hid (thenB HB.out (thenB (al1 _ _) A9));have Be:=hid (HF.out (by unfold zvy;rw [h1];rfl));clear A9;go_wp2_with fail;go_ret;exact ⟨ret_bool (by rw [HR.out,Be.out]),Af.out⟩
    | true=>
      rintro e w3 ⟨rfl,A9⟩;have Af:=hid (thenB (al1 wr _) A9);have p1:=(Af.out.block _ (lt_of_heap HX.out)).trans HX.out;have p2:=(A9.block _ (by simp)).trans (heap_newP wr (kzA x.op x.n x.m x.at_ aa x.args.length cp ab x.body.length cb ao x.other.length co));have CI:=hid p1;have JK:=hid p2;clear q0 q1 q2 q3 q4 q5 q6 qz x0 x1' x2' Ky x4 x5 x6 Au;obtain ⟨q0,q1,q2,q3,q4,q5,q6,qz⟩:=zaj p1;obtain ⟨z0,z1,z2,z3,z4,z5,z6,zz⟩:=zaj p2;clear A9 p1 p2;go_wp2_with fail;refine (zhj c s x1 y1 x2 y2 x3 n3 y3 iv 6 (by decide) x.args A aa cp 1 _ (by decide) (HA.out.later Af.out) (HC.out.later (thenB HB.out Af.out))).mono ?_
      cases h2:zf2 c 6 x.args with
      | false=>
        rintro e w4 ⟨rfl,Ah⟩;have An:=hid (thenB (thenB HB.out Af.out) Ah);have Be:=hid (HF.out (by unfold zvy;rw [h1,h2];rfl));clear Ah;go_wp2_with fail;go_ret;exact ⟨ret_bool (by rw [HR.out,Be.out]),An.out⟩
      | true=>
        rintro e w4 ⟨rfl,Ah⟩;have An:=hid (thenB Af.out Ah);have p1:=(Ah.block _ (lt_of_heap CI.out)).trans CI.out;have p2:=(Ah.block _ (lt_of_heap JK.out)).trans JK.out;have DJ:=hid p1;clear q0 q1 q2 q3 q4 q5 q6 qz z0 z1 z2 z3 z4 z5 z6 zz;obtain ⟨q0,q1,q2,q3,q4,q5,q6,qz⟩:=zaj p1;obtain ⟨z0,z1,z2,z3,z4,z5,z6,zz⟩:=zaj p2;clear Ah p1 p2;go_wp2_with fail;refine (HI.out x A aa cp ab cb ao co _ (Gp.out.later An.out) (N7.out.later An.out) (HC.out.later (thenB HB.out An.out))).mono ?_
        cases h3:zzq c k x with
        | false=>
          rintro e w5 ⟨rfl,Aq⟩;have Ar:=hid (thenB (thenB HB.out An.out) Aq);have Be:=hid (HF.out (by unfold zvy;rw [h1,h2,h3];rfl));clear Aq;go_wp2_with fail;go_ret;exact ⟨ret_bool (by rw [HR.out,Be.out]),Ar.out⟩
        | true=>
          rintro e w5 ⟨rfl,Aq⟩;have Ar:=hid (thenB (thenB HB.out An.out) Aq);have CH:=hid ((Aq.block _ (lt_of_heap DJ.out)).trans DJ.out);have B8:=hid (HT.out (by unfold zvy;rw [h1,h2,h3];rfl));clear Aq;go_wp2_with fail;go_roundw
          case rel=>exact ⟨j+1,by omega,by go_num,B8.out,Ar.out,CH.out⟩
          case measure=>simp [intOf];omega
  . have HT:Hid (l.all (zvy c k)=true):=zci HL.out A0
    go_wp2_with fail;go_ret;exact ⟨ret_bool (by rw [HR.out,HT.out]),HB.out⟩
theorem zeo (c:Ck) (s:ByteArray) (x1:OA) (y1:Nat) (x2:OA) (y2:Nat) (x3:OA) (n3 y3:Nat) (iv:Value):∀ (k:Nat),k<=6->zoc c (.agg #[.string s,.slice x1 c.uses y1,qi c.data,.slice x2 c.parts.length y2,.slice x3 n3 y3,iv,qi c.locals]) k
 | 0,_=>fun l A a cap Ae w hd _ _=>by
   obtain rfl:Ae=7:=by omega
   exact zkn c s x1 y1 x2 y2 x3 n3 y3 iv a l.length cap w
 | k+1,hk=>zve c s x1 y1 x2 y2 x3 n3 y3 iv k hk (zeo c s x1 y1 x2 y2 x3 n3 y3 iv k (by omega))
structure UvAt (w:World) (u:Un) (x1:OA) (y1:Nat) (x2:OA) (y2:Nat) (x3:OA) (y3:Nat):Prop where
 wn:u.name.size<=maxLen
 uses:DAt w Tt x1 u.uses.length (zaw u.uses)
 wd:(Lit.int .i64 u.data).wf=true
 parts:DAt w Tt x2 u.parts.length (zke u.parts)
 main:DAt w Tt x3 u.main.length (zc7 u.main)
theorem UvAt.later {w w':World} {u:Un} {x1:OA} {y1:Nat} {x2:OA} {y2:Nat} {x3:OA} {y3:Nat} (h:UvAt w u x1 y1 x2 y2 x3 y3) (hb:qb w w'):UvAt w' u x1 y1 x2 y2 x3 y3:=⟨h.wn,h.uses.later hb,h.wd,h.parts.later hb,h.main.later hb⟩
theorem UvAt.mo {w:World} {u:Un} {x1:OA} {y1:Nat} {x2:OA} {y2:Nat} {x3:OA} {y3:Nat} (h:UvAt w u x1 y1 x2 y2 x3 y3):MoAt w Tt ⟨u.name,u.uses,[],[],[]⟩ (.agg #[.string u.name,.slice x1 u.uses.length y1,qs,qs,qs]) x1 y1 none 0 none 0 none 0:=
 ⟨rfl,h.wn,h.uses,⟨vaa _,vae _,Or.inl rfl⟩,⟨vaa _,vae _,Or.inl rfl⟩,⟨vaa _,vae _,Or.inl rfl⟩⟩
theorem zod (u:Un) (x1:OA) (y1:Nat) (x2:OA) (y2:Nat) (x3:OA) (y3:Nat) (w:World) (hU:UvAt w u x1 y1 x2 y2 x3 y3) :
 qc 127 #[.agg #[.string u.name,.slice x1 u.uses.length y1,qi u.data,.slice x2 u.parts.length y2,.slice x3 u.main.length y3]] w fun e w'=>e = .returned (.bool (zda u))/\qb w w':=by
 have HC:=hid (z1j _ _ _ _ _ _ _ _ _ _ (w.alloc (kzC u.name x1 u.uses.length y1 u.data x2 u.parts.length y2 x3 u.main.length y3)) (hU.later (al1 _ _)).mo);have EX:=hU.parts.bound;have HU:=hid hU;clear hU;have HQ:Hid (zda u=(decide (chkM ⟨u.name,u.uses,[],[],[]⟩=0)&&(u.parts.all ptB&&(decide (0<=u.data/\u.data<=512)&&decide (u.parts.length<=6))))):=rfl
 go_enter Tryz.func127,Tryz.ntmps127;go_wp2_with fail;refine HC.out.mono ?_;rintro e w1 ⟨Ak,A5⟩;have A8:=hid (thenB (al1 w _) A5);have AE:=hid ((A5.block _ (by simp)).trans (heap_newP w (kzC u.name x1 u.uses.length y1 u.data x2 u.parts.length y2 x3 u.main.length y3)));have Ao:=lt_of_heap AE.out;unfold zry at Ak;clear A5 HC
 rcases Ak with ⟨hc,rfl⟩ | ⟨hc,af,cf,rfl,_⟩
 . have HF:Hid (zda u=false):=by show _=_;rw [HQ.out,decide_eq_false hc];rfl
   generalize chkM ⟨u.name,u.uses,[],[],[]⟩=z at *;go_wp2_with fail;go_ret;exact ⟨ret_bool (by first | exact HF.out.symm | (rw [HF.out];first | (simp;omega) | (simp [*];done))),thenB A8.out (al1 _ _)⟩
 . have JX : Hid (zda u=(u.parts.all ptB&&(decide (0<=u.data/\u.data<=512)&&decide (u.parts.length<=6)))):=by show _=_;rw [HQ.out,decide_eq_true hc];rfl
   generalize shownIts ⟨u.name,u.uses,[],[],[]⟩=sh at *;obtain ⟨q0,q1,q2,q3,q4,_⟩:=zaa AE.out;clear hc HQ;go_wp2_with fail
   go_loopw [21] (fun i wr=>∃ j:Nat,j<=u.parts.length/\i=qi j/\(u.parts.take j).all ptB=true/\qb w wr/\wr.heap[w.heap.size]? = some (kzC u.name x1 u.uses.length y1 u.data x2 u.parts.length y2 x3 u.main.length y3)) (fun i _=>u.parts.length - (intOf i).toNat)
   case atStart=>exact ⟨0,vae _,rfl,rfl,thenB A8.out (al1 _ _),zab AE.out⟩
   case round=>
    clear q0 q1 q2 q3 q4;obtain ⟨j,hj,rfl,A6,hb,hB⟩:=hrel;obtain ⟨q0,q1,q2,q3,q4,_⟩:=zaa hB;have qz:=lt_of_heap hB;have HB:=hid hb;have HX:=hid hB;have HL:=hid A6;clear A6 hB hb
    by_cases A0:j<u.parts.length
    . obtain ⟨b,off,ab,cb,rfl,hx⟩:=((HU.out.later HB.out).parts).pt j A0
      have HF:=hid (fun (h:ptB u.parts[j]=false)=>(by rw [JX.out,all_not u.parts ptB j A0 h];rfl:zda u=false));have HT:=hid (fun (h:ptB u.parts[j]=true)=>(by rw [all_snoc u.parts _ j A0,HL.out,h];rfl:(u.parts.take (j+1)).all ptB=true));obtain ⟨Au,p0,p1,p2,_,_,_⟩:=hx;generalize u.parts[j]=p at *
      by_cases t1:p.params<0
      . have Be:=hid (HF.out (by unfold ptB;rw [decide_eq_false (by omega)];rfl))
        go_wp2_with fail;go_ret;exact ⟨ret_bool (by first | exact Be.out.symm | (rw [Be.out];first | (simp;omega) | (simp [*];done))),thenB HB.out (al1 _ _)⟩
      have CV:0<=p.params:=by omega
      by_cases t2:3<p.params
      . have Be:=hid (HF.out (by unfold ptB;rw [decide_eq_false (by omega)];rfl))
        clear t1;go_wp2_with fail;go_ret;exact ⟨ret_bool (by first | exact Be.out.symm | (rw [Be.out];first | (simp;omega) | (simp [*];done))),thenB HB.out (al1 _ _)⟩
      have Dr:p.params<=3:=by omega
      by_cases t3:p.locals<0
      . have Be:=hid (HF.out (by unfold ptB;rw [decide_eq_true ⟨CV,Dr⟩,decide_eq_false (by omega)];rfl))
        clear t1 t2;go_wp2_with fail;go_ret;exact ⟨ret_bool (by first | exact Be.out.symm | (rw [Be.out];first | (simp;omega) | (simp [*];done))),thenB HB.out (al1 _ _)⟩
      have Kz:0<=p.locals:=by omega
      by_cases t4:4<p.locals
      . have Be:=hid (HF.out (by unfold ptB;rw [decide_eq_true ⟨CV,Dr⟩,decide_eq_false (by omega)];rfl))
        clear t1 t2 t3;go_wp2_with fail;go_ret;exact ⟨ret_bool (by first | exact Be.out.symm | (rw [Be.out];first | (simp;omega) | (simp [*];done))),thenB HB.out (al1 _ _)⟩
      have PI:p.locals<=4:=by omega
      have B8:=hid (HT.out (by unfold ptB;rw [decide_eq_true ⟨CV,Dr⟩,decide_eq_true ⟨Kz,PI⟩];rfl));clear t1 t2 t3 t4;go_wp2_with fail;go_roundw
      case rel=>exact ⟨j+1,by omega,by go_num,B8.out,thenB HB.out (al1 _ _),zab HX.out⟩
      case measure=>simp [intOf];omega
    . have HP:Hid (zda u=(decide (0<=u.data/\u.data<=512)&&decide (u.parts.length<=6))):=by show _=_;rw [JX.out,zci HL.out A0];rfl
      by_cases t1:0<=u.data
      . by_cases t2:u.data<=512
        . by_cases t3:u.parts.length<=6
          . have HR:Hid (zda u=true):=by show _=_;rw [HP.out,decide_eq_true ⟨t1,t2⟩,decide_eq_true t3];rfl
            go_wp2_with fail;go_ret;exact ⟨ret_bool (by first | exact HR.out.symm | (rw [HR.out];first | (simp;omega) | (simp [*];done))),HB.out⟩
          . have HR:Hid (zda u=false):=by show _=_;rw [HP.out,decide_eq_true ⟨t1,t2⟩,decide_eq_false t3];rfl
            have Kz:6<u.parts.length:=by omega
            clear t3;go_wp2_with fail;go_ret;exact ⟨ret_bool (by first | exact HR.out.symm | (rw [HR.out];first | (simp;omega) | (simp [*];done))),HB.out⟩
        . have HR:Hid (zda u=false):=by show _=_;rw [HP.out,decide_eq_false (by omega)];rfl
          have Dr:512<u.data:=by omega
          clear t2;go_wp2_with fail;go_ret;exact ⟨ret_bool HR.out.symm,HB.out⟩
      . have HR:Hid (zda u=false):=by show _=_;rw [HP.out,decide_eq_false (by omega)];rfl
        have CV:u.data<0:=by omega
        clear t1;go_wp2_with fail;go_ret;exact ⟨ret_bool HR.out.symm,HB.out⟩
theorem zh9 {u:Un} (h:zda u=true):0<=u.data/\u.data<=512:=by
 unfold zda at h;simp only [vab,decide_eq_true_eq] at h;exact h.2.2.1
theorem zrz {u:Un} (h:zda u=true) (j:Nat) (hj:j<u.parts.length):(0<=u.parts[j].params/\u.parts[j].params<=3)/\0<=u.parts[j].locals/\u.parts[j].locals<=4:=by
 unfold zda at h;simp only [vab,decide_eq_true_eq,var] at h;have:=h.2.1 u.parts[j] (vag hj);unfold ptB at this;simpa only [vab,decide_eq_true_eq] using this
theorem z1n (u:Un) (num prt:Int->Int->Int->Bool) (x1:OA) (y1:Nat) (x2:OA) (y2:Nat) (x3:OA) (y3:Nat) (tI:TypeId) (vI:Value) (w:World) (hU:UvAt w u x1 y1 x2 y2 x3 y3)
 (hC:zda u=true->∀ (lc:Int) (W:World),qb w W->CkAt W (zhv u num prt lc) (.agg #[.string u.name,.slice x1 u.uses.length y1,qi u.data,.slice x2 u.parts.length y2,.slice x3 u.main.length y3,.iface tI vI,qi lc])) :
 qc 77 #[.agg #[.string u.name,.slice x1 u.uses.length y1,qi u.data,.slice x2 u.parts.length y2,.slice x3 u.main.length y3],.iface tI vI] w fun e w'=>e = .returned (.bool (zen u num prt))/\qb w w':=by
 have HH:=hid (zod u x1 y1 x2 y2 x3 y3 (w.alloc (kzC u.name x1 u.uses.length y1 u.data x2 u.parts.length y2 x3 u.main.length y3)) (hU.later (al1 _ _)));have EX:=hU.parts.bound;have HU:=hid hU;have HC:=hid hC;have HQ:Hid (zen u num prt=(zda u&&(u.parts.all (fun p=>zd9 (zhv u num prt (p.params+p.locals)) 6 p.body)&&zd9 (zhv u num prt 0) 6 u.main))):=rfl;clear hU hC;go_enter Tryz.func77,Tryz.ntmps77;go_wp2_with fail;refine HH.out.mono ?_
 cases hh:zda u with
 | false=>
   rintro e w1 ⟨rfl,A5⟩;have A8:=hid (thenB (al1 w _) A5)
   have HR:Hid (zen u num prt=false):=by show _=_;rw [HQ.out,hh];rfl
   clear A5;go_wp2_with fail;go_ret;exact ⟨ret_bool HR.out.symm,A8.out⟩
 | true =>
   rintro e w1 ⟨rfl,A5⟩;have A8:=hid (thenB (al1 w _) A5);have AE:=hid ((A5.block _ (by simp)).trans (heap_newP w (kzC u.name x1 u.uses.length y1 u.data x2 u.parts.length y2 x3 u.main.length y3)));have Ku:=hid (HC.out hh);have S3:=hid hh
   have JX:Hid (zen u num prt=(u.parts.all (fun p=>zd9 (zhv u num prt (p.params+p.locals)) 6 p.body)&&zd9 (zhv u num prt 0) 6 u.main)):=by show _=_;rw [HQ.out,hh];rfl
   obtain ⟨q0,q1,q2,q3,q4,_⟩:=zaa AE.out;have qz:=lt_of_heap AE.out;clear A5 HC HQ HH hh;go_wp2_with fail
   go_loopw [14] (fun i wr=>∃ j:Nat,j<=u.parts.length/\i=qi j/\(u.parts.take j).all (fun p=>zd9 (zhv u num prt (p.params+p.locals)) 6 p.body)=true/\qb w wr/\wr.heap[w.heap.size]? = some (kzC u.name x1 u.uses.length y1 u.data x2 u.parts.length y2 x3 u.main.length y3)) (fun i _=>u.parts.length - (intOf i).toNat)
   case atStart=>exact ⟨0,vae _,rfl,rfl,A8.out,AE.out⟩
   case round=>
    clear q0 q1 q2 q3 q4 qz;obtain ⟨j,hj,rfl,A6,hb,hB⟩:=hrel;obtain ⟨q0,q1,q2,q3,q4,_⟩:=zaa hB;have qz:=lt_of_heap hB;have HB:=hid hb;have HX:=hid hB;have HL:=hid A6;clear A6 hB hb
    by_cases A0:j<u.parts.length
    . obtain ⟨b,off,ab,cb,rfl,hx⟩:=((HU.out.later HB.out).parts).pt j A0
      have HF:=hid (fun (h:zd9 (zhv u num prt (u.parts[j].params+u.parts[j].locals)) 6 u.parts[j].body=false)=>(by rw [JX.out,all_not u.parts (fun p=>zd9 (zhv u num prt (p.params+p.locals)) 6 p.body) j A0 h];rfl:zen u num prt=false));have HT:=hid (fun (h:zd9 (zhv u num prt (u.parts[j].params+u.parts[j].locals)) 6 u.parts[j].body=true)=>(by rw [all_snoc u.parts _ j A0,HL.out,h];rfl:(u.parts.take (j+1)).all (fun p=>zd9 (zhv u num prt (p.params+p.locals)) 6 p.body)=true));obtain ⟨⟨g1,g2⟩,g3,g4⟩:=zrz S3.out j A0;obtain ⟨Au,p0,p1,p2,Ch,_,_⟩:=hx;have Gp:=hid Ch;clear Ch;generalize u.parts[j]=p at *;go_wp2_with fail;refine (zeo (zhv u num prt (p.params+p.locals)) u.name x1 y1 _ y2 x3 u.main.length y3 (.iface tI vI) 6 (by decide) p.body Tt ab cb 1 _ (by decide) (Gp.out.later (al2 _ _ _)) (Ku.out (p.params+p.locals) _ (thenB HB.out (al2 _ _ _)))).mono ?_
      cases h1:zd9 (zhv u num prt (p.params+p.locals)) 6 p.body with
      | false=>
        rintro e w3 ⟨rfl,A9⟩;have Af:=hid (thenB HB.out (thenB (al2 _ _ _) A9));have Be:=hid (HF.out h1);clear A9;go_wp2_with fail;go_ret;exact ⟨ret_bool (by first | exact Be.out.symm | (rw [Be.out];first | (simp;omega) | (simp [*];done))),Af.out⟩
      | true=>
        rintro e w3 ⟨rfl,A9⟩;have Af:=hid (thenB (al2 wr _ _) A9);have CI:=hid ((Af.out.block _ (lt_of_heap HX.out)).trans HX.out);have B8:=hid (HT.out h1);clear A9;go_wp2_with fail;go_roundw
        case rel=>exact ⟨j+1,by omega,by go_num,B8.out,thenB HB.out Af.out,CI.out⟩
        case measure=>simp [intOf];omega
    . have HR:Hid (zen u num prt=zd9 (zhv u num prt 0) 6 u.main):=by show _=_;rw [JX.out,zci HL.out A0];rfl
      go_wp2_with fail;refine (zeo (zhv u num prt 0) u.name x1 y1 x2 y2 x3 u.main.length y3 (.iface tI vI) 6 (by decide) u.main Tt x3 y3 1 _ (by decide) (HU.out.later HB.out).main (Ku.out 0 _ HB.out)).mono ?_;rintro e w3 ⟨rfl,A9⟩;have Af:=hid (thenB HB.out A9);clear A9;go_wp2_with fail;go_ret;exact ⟨ret_bool HR.out.symm,Af.out⟩
set_option maxHeartbeats 1600000
theorem z1o:laidOutB Tryz.prog=true:=by kernel_rfl
theorem z1p:Tryz.prog.keyType 244=true:=by kernel_rfl
theorem zoe:Keyed Tryz.prog 244:=Keyed.of_law (deep_law_laid z1o (m:=3) (by decide) (of_decide_eq_true (by kernel_rfl)) (by kernel_rfl) (by kernel_rfl))
def zin (mod name:ByteArray):Lit:=.string (keyBytes [.string mod.data.toList,.string name.data.toList])
theorem zhk (mod name:ByteArray) (h1:mod.size<=maxLen) (h2:name.size<=maxLen):keyOf Tryz.prog 244 (.agg #[.string mod,.string name])=some (zin mod name):=by
 have hf:(Value.agg #[.string mod,.string name]).formed Tryz.prog 244=true:=by kernel_rfl
 have hl:Tryz.prog.keyLits (Tryz.prog.types.size+1) 244 (Value.agg #[.string mod,.string name]).cells.toList=some [.string mod.data.toList,.string name.data.toList]:=by
  have h0:0<Tryz.prog.types.size:=of_decide_eq_true (by kernel_rfl)
  obtain ⟨k,hk⟩:∃ k,Tryz.prog.types.size=k+1:=⟨Tryz.prog.types.size - 1,by omega⟩
  rw [hk]
  have hs:∀ s:ByteArray,s.size<=maxLen->Tryz.prog.keyLits (k+1) 9 [.string s]=some [.string s.data.toList]:=fun s h=>by
   unfold Program.keyLits;rw [Tryz.underlying9];exact if_pos h
  have e:(Value.agg #[.string mod,.string name]).cells.toList=[.string mod,.string name]:=rfl
  have c2:Tryz.prog.cellsOf 244=2:=by kernel_rfl
  have c9:Tryz.prog.cellsOf 9=1:=by kernel_rfl
  rw [e];unfold Program.keyLits;rw [Tryz.underlying244];simp [c2,c9,hs mod h1,hs name h2]
 unfold keyOf;rw [Tryz.underlying244];simp only [z1p,hf,hl]
 rfl
theorem zyn {a b c d:ByteArray} (h1:a.size<=maxLen) (h2:b.size<=maxLen) (h3:c.size<=maxLen) (h4:d.size<=maxLen) (h:¬ (a=c/\b=d)):zin a b≠zin c d:=fun e=>by
 have k1:=zhk a b h1 h2;have k2:=zhk c d h3 h4;rw [← e] at k2;have:=zoe.inj k1 k2
 injection this with this
 have:=congrArg Array.toList this;simp at this;exact h this
def z4e (K:Kn) (mod name:ByteArray) (x:Mg):Kn:=fun a b=>if a=mod/\b=name then some x else K a b
def z66 (D:DataW Value) (K:Kn):Prop:=∀ a b:ByteArray,a.size<=maxLen->b.size<=maxLen->has D (zin a b)=(K a b).isSome/\D.atKey (zin a b) (.held mg0.val) = .held ((K a b).getD mg0).val
theorem z66.put {D:DataW Value} {K:Kn} (h:z66 D K) (hD:IsMap D) (mod name:ByteArray) (h1:mod.size<=maxLen) (h2:name.size<=maxLen) (x:Mg):z66 (D.put (zin mod name) (.held x.val)) (z4e K mod name x):=by
 intro a b ha hb
 by_cases e:a=mod/\b=name
 . obtain ⟨rfl,rfl⟩:=e
   simp only [z4e,and_self,if_true];exact ⟨has_put_same (k:=zin a b) hD trivial _,atKey_put_same (k:=zin a b) hD trivial _ _⟩
 . have Aj:=zyn ha hb h1 h2 e
   simp only [z4e,if_neg e];rw [has_put_other Aj,atKey_put_other Aj];exact h a b ha hb
def zlb (w:World) (b n:Nat) (K:Kn):Prop:=∃ D,w.ownsMap Tryz.prog 244 zpu b n D/\z66 D K
theorem zlb.lt {w:World} {b n:Nat} {K:Kn} (h:zlb w b n K):b<w.heap.size:=by obtain ⟨D,h1,_⟩:=h;exact h1.lt
theorem zlb.block {w w':World} {b n:Nat} {K:Kn} (h:zlb w b n K) (hb:w'.heap[b]? = w.heap[b]?):zlb w' b n K:=by
 obtain ⟨D,h1,h2⟩:=h;obtain ⟨es,clock,AZ,r⟩:=h1;exact ⟨D,⟨es,clock,hb.trans AZ,r⟩,h2⟩
theorem zlb.later {w w':World} {b n:Nat} {K:Kn} (h:zlb w b n K) (hb:qb w w'):zlb w' b n K:=h.block (hb.block b h.lt)
theorem zlb.made (w:World):zlb (w.alloc (.map #[] 0)) w.heap.size 0 (fun _ _=>none):=⟨.map [],veu w _ _ _,fun _ _ _ _=>⟨rfl,rfl⟩⟩
theorem z6n (w:World):(zeroValue 242).run Tryz.prog w = .ok mg0.val w:=by kernel_rfl
theorem zlb.known {w:World} {b n:Nat} {K:Kn} (h:zlb w b n K):zls w (.map (some b)) K:=by
 intro w' hb mod name h1 h2;obtain ⟨D,k1,k2⟩:=h.later hb;obtain ⟨v,ps,hrun,hv⟩:=k1.look_ok zoe Tryz.underlying187 (z6n w') (zd:=.held mg0.val) (zp:=[]) rfl (zhk mod name h1 h2);rw [(k2 mod name h1 h2).2] at hv;simp only [zpu,vbf,vdd,vda] at hv;rw [hrun,hv.1,(k2 mod name h1 h2).1]
theorem zlb.put {w:World} {b n:Nat} {K:Kn} (h:zlb w b n K) (hn:n<maxLen) (mod name:ByteArray) (h1:mod.size<=maxLen) (h2:name.size<=maxLen) (x:Mg) :
 ∃ w',(Instr.mapUpdate 187 (.map (some b)) (.agg #[.string mod,.string name]) x.val).run Tryz.prog w = .ok () w'/\zlb w' b (n+1) (z4e K mod name x)/\w.grownBy w' (some b):=by
 obtain ⟨D,k1,k2⟩:=h;obtain ⟨w',r1,r2,r3⟩:=k1.update zoe Tryz.underlying187 hn (zhk mod name h1 h2) (val:=x.val) (d:=.held x.val) (ps:=[]) rfl;exact ⟨w',r1,⟨_,r2,k2.put k1.isMap mod name h1 h2 x⟩,r3⟩
theorem Keeps.grown {R:Nat} {w w1 w2:World} (h:Keeps R w w1) (hg:w1.grownBy w2 (some R)):Keeps R w w2:=
 h.trans ⟨hg.os,hg.tape,hg.output,hg.size,fun k h1 h2=>hg.block k h1 (fun e=>h2 (vai e))⟩
def z6o (m:Int) (i:It):Mg:=⟨i.kind,i.n,m,i.at_⟩
def zia (K:Kn) (mod:ByteArray) (m:Int) (l:List It):Kn:=l.foldl (fun K i=>z4e K mod i.name (z6o m i)) K
theorem zvf (K:Kn) (mod:ByteArray) (m:Int) (l:List It) (i:It):zia K mod m (l++[i])=z4e (zia K mod m l) mod i.name (z6o m i):=by
 unfold zia;rw [vbn];rfl
theorem zkp (K:Kn) (b n:Nat) (mod:ByteArray) (mm:Int) (l:List It) (a:OA) (cap:Nat) (w:World) (hK:zlb w b n K) (hm:mod.size<=maxLen) (hI:Fx.zcj w a l) (hF:Fx.AllFit l) (hl:l.length<=1000) (hn:n<=1000) (E4:∀ b' off,l≠[]->a=some (qa b' off)->b'≠b) :
 qc 119 #[.agg #[.map (some b)],.string mod,qi mm,.slice a l.length cap] w fun e w'=>e = .returned (.tuple #[])/\zlb w' b (n+l.length) (zia K mod mm l)/\Keeps b w w':=by
 have HI:=hid hI;have HF:=hid hF;have HK:=hid hK;have Sq:=hid E4;have E0:=hK.lt;clear hI hF hK E4;go_enter Tryz.func119,Tryz.ntmps119;go_wp2_with fail
 go_loopw [9,12] (fun _ i wr=>∃ j:Nat,j<=l.length/\i=qi j/\zlb wr b (n+j) (zia K mod mm (l.take j))/\wr.heap[w.heap.size]? = some (.cells #[.map (some b)] 189)/\Keeps b w wr) (fun _ i _=>l.length - (intOf i).toNat)
 case atStart=>exact ⟨0,vae _,rfl,HK.out.later (al1 _ _),heap_newP _ _,(Keeps.refl _ _).alloc _⟩
 case round=>
  obtain ⟨j,hj,rfl,hk,hbx,Bf⟩:=hrel;have Pg:=hid hk;have HX:=hid hbx;have HE:=hid Bf;have BU:=Bf.size;have Cj:=lt_of_heap hbx;clear hk Bf
  by_cases A0:j<l.length
  . obtain ⟨b2,off,rfl,Au,c0,c1,c2,c3⟩:=HI.out.place A0
    have Aj:=Sq.out b2 off (fun h=>by rw [h] at A0;simp at A0) rfl;have d0:=(HE.out.cell (off:=off+j*4) Au Aj).trans c0;have d1:=(HE.out.cell (off:=off+j*4+1) Au Aj).trans c1;have d2:=(HE.out.cell (off:=off+j*4+2) Au Aj).trans c2;have d3:=(HE.out.cell (off:=off+j*4+3) Au Aj).trans c3;have Dh:b2<wr.heap.size:=vah Au BU;have Bq:=HF.out l[j] (vag _)
    have BW:Hid (z4e (zia K mod mm (l.take j)) mod l[j].name (z6o mm l[j])=zia K mod mm (l.take (j+1))):=by
     show _=zia K mod mm (l.take (j+1));rw [vaf A0,zvf]
    generalize l[j]=x at *;obtain ⟨w2,hrun,JA,DC⟩:=(Pg.out.later (al1 _ (kzI x.kind x.n x.at_ x.name))).put (by unfold maxLen;omega) mod x.name hm Bq (z6o mm x);simp only [Mg.val,z6o] at hrun;rw [BW.out] at JA;have AM:=hid JA;have Bv:=hid ((HE.out.alloc _).grown DC);have D1:Hid (w2.heap[w.heap.size]? = some (.cells #[.map (some b)] 189)):=(DC.block _ (by simp;omega) (fun e=>by have:=vai e;omega)).trans (zab HX.out)
    have k0:wr.cell? (qa w.heap.size 0)=some (.map (some b)):=by rw [vep HX.out];rfl
    clear c0 c1 c2 c3 JA DC hbx Bq;go_wp2_with fail;go_roundw
    case rel=>exact ⟨j+1,by omega,by go_num,by rw [← vbm];exact AM.out,D1.out,Bv.out⟩
    case measure=>simp [intOf];omega
  . obtain rfl:j=l.length:=by omega
    have RY:Hid (zlb wr b (n+l.length) (zia K mod mm l)):=by have:=Pg.out;rw [vat] at this;exact this
    clear hbx;go_wp2_with fail;go_end0;exact ⟨rfl,RY.out,HE.out⟩
end Go.Proofs.YtndkhgakfodldaaGreatDoor
