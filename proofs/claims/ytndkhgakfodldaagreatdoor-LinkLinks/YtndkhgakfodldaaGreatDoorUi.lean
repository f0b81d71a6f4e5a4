import Derived.Test.YtndkhgakfodldaaGreatDoorUc
import Derived.Test.YtndkhgakfodldaaGreatDoorXc
import Derived.Test.YtndkhgakfodldaaGreatDoorLex
namespace Go.Proofs.YtndkhgakfodldaaGreatDoor
set_option maxRecDepth 100000
set_option maxHeartbeats 3200000
open Go.RowKit Go.Maps Go.WideMaps
set_option linter.unusedSimpArgs false
theorem fL{P:Prop}(h:P:=by
 rintro e w1 ⟨rfl,h1⟩;have H1:=hid h1;clear h1;go_wp2_with fail;go_end0;exact ⟨rfl,H1.out.tail⟩):P:=h
theorem fV{P:Prop}(h:P:=by
 rintro e w2 ⟨rfl,h2⟩;have H2:=hid h2;clear h2;go_wp2_with fail;go_end0;exact ⟨rfl,H2.out.tail⟩):P:=h
theorem iY{P:Prop}(h:P:=by
 obtain rfl:j=l.length:=by omega
 rw [vau] at H1;go_wp2_with fail;go_end0;exact ⟨rfl,H1.out⟩):P:=h
theorem jc{P:Prop}(h:P:=by
 rintro e w2 ⟨rfl,h2⟩;have H2:=hid h2;clear h2;go_wp2_with fail;go_end0;exact ⟨rfl,H2.out⟩):P:=h
abbrev pU (p:Pr) (a:OA) (b:Nat) (c:OA) (e:Nat) (f:OA) (g:Nat):Obj:=kzK p.name p.pub a p.params.length b c p.locals.length e f p.body.length g
abbrev It:=Fx.It
def itD (i:It):List D:=[.int i.kind,.int i.n,.int i.at_,.str i.name]
def zg8 (l:List It):List D:=l.flatMap itD
def layIt (at_:Int) (d:De):It:=⟨d.kind,d.n,if d.kind=2\/d.kind=3 then at_ else 0,d.name⟩
def zff (at_:Int) (d:De):Int:=if d.kind=2 then at_+1 else if d.kind=3 then at_+d.n else at_
def zod:Int->List De->List It × Int
 | a,[]=>([],a)
 | a,d :: r=>(layIt a d :: (zod (zff a d) r).1,(zod (zff a d) r).2)
def z5a (i:Nat) (p:Pr):It:=⟨4,p.params.length,i,p.name⟩
def zpt:Nat->List Pr->List It
 | _,[]=>[]
 | i,p :: r=>z5a i p :: zpt (i+1) r
def za8 (m:Mo):List It:=(zod 0 m.decls).1++zpt 0 m.procs
def zb8 (m:Mo):Int:=(zod 0 m.decls).2
theorem zrq:∀ (l:List De) (a:Int) (d:De),zod a (l++[d])=((zod a l).1++[layIt (zod a l).2 d],zff (zod a l).2 d)
 | [],a,d=>rfl
 | x :: r,a,d=>by
   show (layIt a x :: (zod (zff a x) (r++[d])).1,(zod (zff a x) (r++[d])).2)=_
   rw [zrq r];rfl
theorem zvs:∀ (l:List De) (a:Int),(zod a l).1.length=l.length
 | [],_=>rfl
 | x :: r,a=>by show (_ :: _).length=_;rw [vaw,zvs r,vaw]
theorem zoe:∀ (l:List Pr) (i:Nat) (p:Pr),zpt i (l++[p])=zpt i l++[z5a (i+l.length) p]
 | [],i,p=>rfl
 | x :: r,i,p=>by
   show z5a i x :: zpt (i+1) (r++[p])=_
   rw [zoe r,show i+1+r.length=i+(x :: r).length from aF];rfl
theorem zrr:∀ (l:List Pr) (i:Nat),(zpt i l).length=l.length
 | [],_=>rfl
 | x :: r,i=>by show (_ :: _).length=_;rw [vaw,zrr r,vaw]
theorem zgw (m:Mo):(za8 m).length=m.decls.length+m.procs.length:=by unfold za8;rw [vaj,zvs,zrr]
structure LayOk (m:Mo):Prop where
 decls:m.decls.length<=10
 procs:m.procs.length<=6
 kinds:∀ d ∈ m.decls,1<=d.kind/\d.kind<=3/\(d.kind=3->1<=d.n/\d.n<=32)
theorem zfr {m:Mo} (h:m.err=0):m.uses.length<=3/\m.decls.length<=10/\m.procs.length<=6/\(∀ p ∈ m.procs,p.params.length<=3/\p.locals.length<=4/\zah 6 p.body=false)/\zah 6 m.main=false:=by
 obtain ⟨_,hm,_⟩:=zu0 h;unfold Mo.many at hm;simp only [vat] at hm;obtain ⟨h1,h2,h3,h4,h5⟩:=hm;have h1:=of_decide_eq_false h1;have h2:=of_decide_eq_false h2;have h3:=of_decide_eq_false h3;rw [vca] at h4 h5;refine ⟨ae,ae,ae,fun p hp=>?_,by simpa using h5 m.main (by unfold Mo.bodies;simp)⟩;have:=h4 p hp;simp only [vcv,vat] at this;have k1:=of_decide_eq_false this.1;have k2:=of_decide_eq_false this.2;exact ⟨ae,ae,by simpa using h5 p.body (by unfold Mo.bodies;simp;exact Or.inl ⟨p,hp,rfl⟩)⟩
theorem z0s {m:Mo} (h:m.err=0):LayOk m:=by
 have hp:=zfr h;refine ⟨hp.2.1,hp.2.2.1,fun d hd=>?_⟩;obtain ⟨_,hs,h1,h2⟩:=(z9w h).decls d hd;refine ⟨h1,h2,fun h3=>?_⟩;unfold zej at hs;rw [h3,if_neg aq,if_pos rfl] at hs;simpa using hs
theorem zof:∀ (l:List De) (a:Int),(∀ d ∈ l,1<=d.kind/\d.kind<=3/\(d.kind=3->1<=d.n/\d.n<=32))->a<=(zod a l).2/\(zod a l).2<=a+32*l.length
 | [],a,_=>⟨Int.le_refl _,by simp [zod]⟩
 | x :: r,a,h=>by
   have hx:=h x aA;have ih:=zof r (zff a x) (fun d hd=>h d (by simp [hd]));show a<=(zod (zff a x) r).2/\(zod (zff a x) r).2<=a+32*((x :: r).length:Nat);rw [vaw]
   have hn:a<=zff a x/\zff a x<=a+32:=by
    unfold zff;split
    . omega
    . split
      . rename_i h3;have:=hx.2.2 h3;omega
      . omega
   omega
theorem Tryz.infoItem:(Tryz.prog.info? 98).map (fun i=>(i.zero,i.size,i.bytes))=some (some (.agg #[qi 0,qi 0,qi 0,.string ⟨#[]⟩]),4,40):=ah
theorem zg9 {A:Nat->Prop} {w:World} {k n a:Int} {s:ByteArray} (h:s.size<=maxLen):zav w A (itD ⟨k,n,a,s⟩) [qi k,qi n,qi a,.string s]:=.cons zqh (.cons zqh (.cons zqh (.cons (zx0 h) .nil)))
theorem zfs (l:List It) (x:It):zg8 (l++[x])=zg8 l++itD x:=by simp [zg8]
theorem zpu {w:World} {A:Nat->Prop} {a:OA} {l:List It} (h:EAt w A a l.length (zg8 l)):Fx.zcy w a l/\Fx.AllFit l:=by
 rcases h with h | ⟨b,off,cs,ha,_,hb,hc,hx⟩
 . exact jw
 . have g:∀ i (hi:i<l.length) j d,j<4->(itD l[i])[j]? = some d->∃ v,w.cell? ⟨b,off+i*4+j,none⟩=some v/\zg7 w A d v:=fun i hi j d hj hd=>by
    exact iD
   refine ⟨Or.inr ⟨b,off,ha,hb,fun i hi=>?_,fun i hi=>?_,fun i hi=>?_,fun i hi=>?_⟩,fun x BI=>?_⟩
   . obtain ⟨v,hv,hd⟩:=g i hi 0 (.int l[i].kind) ae rfl
     rw [zpf hd] at hv;exact hv
   . obtain ⟨v,hv,hd⟩:=g i hi 1 (.int l[i].n) ae rfl
     rw [zpf hd] at hv;exact hv
   . obtain ⟨v,hv,hd⟩:=g i hi 2 (.int l[i].at_) ae rfl
     rw [zpf hd] at hv;exact hv
   . obtain ⟨v,hv,hd⟩:=g i hi 3 (.str l[i].name) ae rfl
     rw [(z0a hd).1] at hv;exact hv
   . obtain ⟨i,hi,rfl⟩:=vba BI
     obtain ⟨v,hv,hd⟩:=g i hi 3 (.str l[i].name) ae rfl;exact (z0a hd).2
theorem zjj (m:Mo) (v:Value) (a1:OA) (c1:Nat) (a2:OA) (c2:Nat) (a3:OA) (c3:Nat) (a4:OA) (c4:Nat) (w:World) (hM:MoAt w Tt m v a1 c1 a2 c2 a3 c3 a4 c4) (C6:LayOk m) :
 qc 49 #[v] w fun e w'=>(∃ a cap,e = .returned (.tuple #[.slice a (za8 m).length cap,qi (zb8 m)])/\EAt w' (w.heap.size<=·) a (za8 m).length (zg8 (za8 m)))/\qb w w':=by
 obtain rfl:=hM.val;have OI:=hid hM.decls;have Oh:=hid hM.procs;have Hk:=hid C6;have Kr:=C6.decls;have Ps:=C6.procs;clear hM C6;go_enter Tryz.func49,Tryz.ntmps49;go_wp2_with fail
 go_loopw [4,5,7,8,14] (fun v dv _ _ i wr=>∃ (j:Nat) (A5:List It) (dt:Int),j<=m.decls.length/\i=qi j/\dv=qi dt/\A5.length=j/\zod 0 (m.decls.take j)=(A5,dt)/\Row (w.heap.size+1) 98 4 wr v A5.length (zg8 A5)/\wr.heap[w.heap.size]? = some (kzG m.name a1 m.uses.length c1 a2 m.decls.length c2 a3 m.procs.length c3 a4 m.main.length c4)/\qb w wr) (fun _ _ _ _ i _=>m.decls.length - (intOf i).toNat)
 case atStart=>exact ⟨0,[],0,vaf _,rfl,rfl,rfl,rfl,Row.nil _ _ _ _,heap_newP _ _,al1 _ _⟩
 case round=>
  obtain ⟨j,A5,dt,hj,rfl,rfl,hacc,CB,Aa,hbx,hb⟩:=hrel;have HO:=hid Aa;have BV:=hid hbx;have HB:=hid hb;have IV:=hid CB;have C1:=hb.size;have Cv:=lt_of_heap hbx;clear Aa hb CB
  by_cases A0:j<m.decls.length
  . obtain ⟨b,off,rfl,hx⟩:=(OI.out.later HB.out).de j A0
    obtain ⟨Av,x0,x1,x2,x3,_,_,B4⟩:=hx
    have C3:Hid (zod 0 (m.decls.take (j+1))=(A5++[layIt dt m.decls[j]],zff dt m.decls[j])):=by
     show zod 0 (m.decls.take (j+1))=_;rw [vag A0,zrq,IV.out]
    have LO:=Hk.out.kinds m.decls[j] (vah _)
    have Bz:0<=dt/\dt<=320:=by
     have:=zof (m.decls.take j) 0 (fun d hd=>Hk.out.kinds d (List.mem_of_mem_take hd));rw [IV.out] at this;simp only [vbg] at this;omega
    generalize m.decls[j]=d at *;have CK:=LO.1;have FX:=LO.2.1;have M1:=LO.2.2;clear LO hbx
    by_cases E9:d.kind=2
    . have JR:IntKind.i64.wrap (dt+1)=dt+1:=by simp only [IntKind.wrap,IntKind.bits,IntKind.signed];simp;omega
      have HX:Hid (layIt dt d=⟨d.kind,d.n,dt,d.name⟩):=by show layIt dt d=_;unfold layIt;rw [if_pos (Or.inl E9)]
      have HN:Hid (zff dt d=dt+1):=by show zff dt d=_;unfold zff;rw [if_pos E9]
      have Bi:Hid (Row (w.heap.size+1) 98 4 ((wr.alloc (kzH d.kind d.name d.pub d.n)).alloc (kzI d.kind d.n dt d.name)) u4 A5.length (zg8 A5)):=(HO.out.alloc _).alloc _;have C0:Hid (zav ((wr.alloc (kzH d.kind d.name d.pub d.n)).alloc (kzI d.kind d.n dt d.name)) (fun _=>False) (itD ⟨d.kind,d.n,dt,d.name⟩) [qi d.kind,qi d.n,qi dt,.string d.name]):=zg9 B4;have Ce:Hid (qb w ((wr.alloc (kzH d.kind d.name d.pub d.n)).alloc (kzI d.kind d.n dt d.name))):=thenB HB.out (bl2 _ _ _);have AF:Hid (((wr.alloc (kzH d.kind d.name d.pub d.n)).alloc (kzI d.kind d.n dt d.name)).heap[w.heap.size]? = some (kzG m.name a1 m.uses.length c1 (some (qa b off)) m.decls.length c2 a3 m.procs.length c3 a4 m.main.length c4)):=zab (zab BV.out)
      have b2:(d.kind == 2)=true:=by rw [E9];rfl
      clear B4 CK FX M1 E9
      exact fK
    by_cases D5:d.kind=3
    . have RU:=M1 D5
      have JR:IntKind.i64.wrap (dt+d.n)=dt+d.n:=aK
      have HX:Hid (layIt dt d=⟨d.kind,d.n,dt,d.name⟩):=by show layIt dt d=_;unfold layIt;rw [if_pos (Or.inr D5)]
      have HN:Hid (zff dt d=dt+d.n):=by show zff dt d=_;unfold zff;rw [if_neg E9,if_pos D5]
      have Bi:Hid (Row (w.heap.size+1) 98 4 ((wr.alloc (kzH d.kind d.name d.pub d.n)).alloc (kzI d.kind d.n dt d.name)) u4 A5.length (zg8 A5)):=(HO.out.alloc _).alloc _;have C0:Hid (zav ((wr.alloc (kzH d.kind d.name d.pub d.n)).alloc (kzI d.kind d.n dt d.name)) (fun _=>False) (itD ⟨d.kind,d.n,dt,d.name⟩) [qi d.kind,qi d.n,qi dt,.string d.name]):=zg9 B4;have Ce:Hid (qb w ((wr.alloc (kzH d.kind d.name d.pub d.n)).alloc (kzI d.kind d.n dt d.name))):=thenB HB.out (bl2 _ _ _);have AF:Hid (((wr.alloc (kzH d.kind d.name d.pub d.n)).alloc (kzI d.kind d.n dt d.name)).heap[w.heap.size]? = some (kzG m.name a1 m.uses.length c1 (some (qa b off)) m.decls.length c2 a3 m.procs.length c3 a4 m.main.length c4)):=zab (zab BV.out)
      have b2:(d.kind == 2)=false:=by rw [D5];rfl
      have b3:(d.kind == 3)=true:=by rw [D5];rfl
      clear B4 CK FX M1 E9 D5 RU
      exact fK
    have HX:Hid (layIt dt d=⟨d.kind,d.n,0,d.name⟩):=by show layIt dt d=_;unfold layIt;rw [if_neg ae]
    have HN:Hid (zff dt d=dt):=by show zff dt d=_;unfold zff;rw [if_neg E9,if_neg D5]
    have Bi:Hid (Row (w.heap.size+1) 98 4 ((wr.alloc (kzH d.kind d.name d.pub d.n)).alloc (kzI d.kind d.n 0 d.name)) u4 A5.length (zg8 A5)):=(HO.out.alloc _).alloc _;have C0:Hid (zav ((wr.alloc (kzH d.kind d.name d.pub d.n)).alloc (kzI d.kind d.n 0 d.name)) (fun _=>False) (itD ⟨d.kind,d.n,0,d.name⟩) [qi d.kind,qi d.n,qi 0,.string d.name]):=zg9 B4;have Ce:Hid (qb w ((wr.alloc (kzH d.kind d.name d.pub d.n)).alloc (kzI d.kind d.n 0 d.name))):=thenB HB.out (bl2 _ _ _);have AF:Hid (((wr.alloc (kzH d.kind d.name d.pub d.n)).alloc (kzI d.kind d.n 0 d.name)).heap[w.heap.size]? = some (kzG m.name a1 m.uses.length c1 (some (qa b off)) m.decls.length c2 a3 m.procs.length c3 a4 m.main.length c4)):=zab (zab BV.out);have b2:(d.kind == 2)=false:=beq_eq_false_iff_ne.2 E9;have b3:(d.kind == 3)=false:=beq_eq_false_iff_ne.2 D5;clear B4 CK FX M1 E9 D5
    go_wp2_with (at_builtin;refine zbv rfl (.tmp 41) (.tmp 43) 28 rfl (w.heap.size+1) 98 _ 4 40 Tryz.underlying28 Tryz.infoItem rfl aq ((wr.alloc (kzH d.kind d.name d.pub d.n)).alloc (kzI d.kind d.n 0 d.name)) u4 A5.length (zg8 A5) (itD ⟨d.kind,d.n,0,d.name⟩) rfl Bi.out #[qi d.kind,qi d.n,qi 0,.string d.name] _ aA rfl rfl (fun _=>False) C0.out (fun b _ h=>h.elim) ae aq aF ?_)
    intro g5 c5 w5 Bw At Cf;have Ba:=hid Bw;have AX:=hid At;clear Bw At Bi C0;go_wp2_with fail;go_roundw
    case rel=>exact ⟨j+1,A5++[_],_,ae,aR,rfl,fi,C3.out.trans (by rw [HX.out,HN.out]),eN,(AX.out.block _ ae).trans AF.out,Ce.out.trans (AX.out.mono ae)⟩
    case measure=>simp [intOf];omega
  . obtain rfl:j=m.decls.length:=by omega
    have Mn:Hid (zod 0 m.decls=(A5,dt)):=by have:=IV.out;rw [vau] at this;exact this
    have Qp:Hid (Row (w.heap.size+1) 98 4 wr u4 m.decls.length (zg8 A5)):=hacc ▸ HO.out;obtain ⟨k0,k1,k2,k3,k4,kf⟩:=zaa BV.out;clear IV hbx HO;go_wp2_with fail;clear k0 k1 k2 k3 k4 kf
    go_loopw [4,9,10,49] (fun v _ _ i wr=>∃ (j:Nat) (Eg:List It),j<=m.procs.length/\i=qi j/\Eg.length=m.decls.length+j/\Eg=A5++zpt 0 (m.procs.take j)/\Row (w.heap.size+1) 98 4 wr v Eg.length (zg8 Eg)/\wr.heap[w.heap.size]? = some (kzG m.name a1 m.uses.length c1 a2 m.decls.length c2 a3 m.procs.length c3 a4 m.main.length c4)/\qb w wr) (fun _ _ _ i _=>m.procs.length - (intOf i).toNat)
    case atStart=>exact ⟨0,A5,vaf _,rfl,by rw [hacc,vbt],by simp [zpt],hacc ▸ Qp.out,BV.out,HB.out⟩
    case round=>
     clear Qp BV HB C1 Cv;obtain ⟨j,Eg,hj2,rfl,hac2,hdef,Aa,hbx,hb⟩:=hrel;have HO:=hid Aa;have BV:=hid hbx;have HB:=hid hb;have GN:=hid hdef;have C1:=hb.size;have Cv:=lt_of_heap hbx;clear Aa hb hdef
     by_cases A0:j<m.procs.length
     . obtain ⟨b,off,q1,d1,q2,d2,q3,d3,rfl,hx⟩:=(Oh.out.later HB.out).pr j A0
       obtain ⟨Av,x0,x1,x2,x3,x4,_,_,_,B4⟩:=hx
       have C3:Hid (Eg++[z5a j m.procs[j]]=A5++zpt 0 (m.procs.take (j+1))):=by
        show Eg++[z5a j m.procs[j]]=_;rw [vag A0,zoe,GN.out,vdg,vbg,vdv ae,vaz]
       generalize m.procs[j]=p at *;have Bi:Hid (Row (w.heap.size+1) 98 4 (wr.alloc (pU p q1 d1 q2 d2 q3 d3)) u4 Eg.length (zg8 Eg)):=HO.out.alloc _;have C0:Hid (zav (wr.alloc (pU p q1 d1 q2 d2 q3 d3)) (fun _=>False) (itD (z5a j p)) [qi 4,qi p.params.length,qi j,.string p.name]):=zg9 B4;have Ce:Hid (qb w (wr.alloc (pU p q1 d1 q2 d2 q3 d3))):=thenB HB.out (al1 _ _);have AF:Hid ((wr.alloc (pU p q1 d1 q2 d2 q3 d3)).heap[w.heap.size]? = some (kzG m.name a1 m.uses.length c1 a2 m.decls.length c2 (some (qa b off)) m.procs.length c3 a4 m.main.length c4)):=zab BV.out;clear B4 hbx
       go_wp2_with (at_builtin;refine zbv rfl (.tmp 54) (.tmp 62) 28 rfl (w.heap.size+1) 98 _ 4 40 Tryz.underlying28 Tryz.infoItem rfl aq (wr.alloc (pU p q1 d1 q2 d2 q3 d3)) u4 Eg.length (zg8 Eg) (itD (z5a j p)) rfl Bi.out #[qi 4,qi p.params.length,qi j,.string p.name] _ aA rfl rfl (fun _=>False) C0.out (fun b _ h=>h.elim) ae aq aF ?_)
       intro g5 c5 w5 Bw At Cf;have Ba:=hid Bw;have AX:=hid At;clear Bw At Bi C0;go_wp2_with fail;go_roundw
       case rel=>exact ⟨j+1,Eg++[z5a j p],ae,aR,by simp [hac2];omega,C3.out,by rw [zfs,vaj,hac2];exact Ba.out,(AX.out.block _ ae).trans AF.out,Ce.out.trans (AX.out.mono ae)⟩
       case measure=>simp [intOf];omega
     . obtain rfl:j=m.procs.length:=by omega
       have HI:Hid (za8 m=Eg):=by
        show za8 m=Eg;rw [GN.out,vau];unfold za8;rw [Mn.out]
       have Lr:Hid (zb8 m=dt):=by show zb8 m=dt;unfold zb8;rw [Mn.out]
       obtain ⟨a5,c5,rfl,hea⟩:=HO.out.slice;have IZ:=hid hea;clear hea hbx;go_wp2_with fail;go_ret2;refine ⟨⟨a5,c5,?_,?_⟩,HB.out⟩
       . rw [HI.out,Lr.out,hac2];rfl
       . rw [HI.out]
         exact IZ.out.moves ⟨vaa _,fun b _ h=>⟨bQ,rfl⟩⟩
set_option maxHeartbeats 1600000
def chkM (m:Mo):Int:=if m.err≠0 then m.err else if Fx.zgd (Fx.zbi m.uses)||Fx.zgd (Fx.zew (za8 m)) then 6 else 0
theorem zdw {w:World} {A:Nat->Prop} {a:OA} {l:List ByteArray} (h:DAt w A a l.length (zak l)):Fx.zez w a l/\∀ s ∈ l,s.size<=maxLen:=by
 refine ⟨?_,fun s hs=>?_⟩
 . rcases h.2.2 with h0 | ⟨b,off,cs,ha,_,hb,hc,hx⟩
   . exact Or.inl (vam h0)
   . refine Or.inr ⟨b,off,ha,hb,fun i hi=>?_⟩
     obtain ⟨v,hv,hd⟩:=hx.get i (.str l[i]) (by simp [zak,hi]);rw [(zdh hd).1] at hv;exact hc i _ hv
 . obtain ⟨i,hi,rfl⟩:=vba hs
   obtain ⟨b,off,_,_,_,h4⟩:=h.str i hi;exact h4
theorem zrs {m:Mo} {v:Value} {a1 a2 a3 a4:OA} {c1 c2 c3 c4:Nat} {w:World} (hM:MoAt w Tt m v a1 c1 a2 c2 a3 c3 a4 c4) (h3:m.uses.length<=3) :
 qc 59 #[.slice a1 m.uses.length c1] w fun e w'=>e = .returned (.bool (Fx.zgd (Fx.zbi m.uses)))/\qb w w':=
 Fx.zf6 a1 c1 m.uses w (zdw hM.uses).1 ae (zdw hM.uses).2
theorem ztv {w:World} {B:Nat} {v:Value} {l:List It} (h:w.ownsRow B 9 1 v l.length (Fx.zxr l)) (hl:l.length<=1000000) (hf:Fx.AllFit l) :
 qc 59 #[v] w fun e w'=>e = .returned (.bool (Fx.zgd (Fx.zew l)))/\qb w w':=by
 obtain ⟨a,c,rfl,hS⟩:=Fx.zv7 h;rw [← Fx.zmf]
 exact Fx.zf6 a c _ w hS (by rw [vct];omega) (fun s h=>by
  obtain ⟨i,hi,rfl⟩:=vcy.1 h
  exact hf i hi)
theorem zgx (m:Mo) (v:Value) (a1:OA) (c1:Nat) (a2:OA) (c2:Nat) (a3:OA) (c3:Nat) (a4:OA) (c4:Nat) (w:World) (hM:MoAt w Tt m v a1 c1 a2 c2 a3 c3 a4 c4) :
 qc 48 #[v] w fun e w'=>e = .returned (qi (chkM m))/\qb w w':=by
 obtain rfl:=hM.val;have HM:=hid hM;have HC:=hid (zn8 m _ a1 c1 a2 c2 a3 c3 a4 c4 (w.alloc (kzG m.name a1 m.uses.length c1 a2 m.decls.length c2 a3 m.procs.length c3 a4 m.main.length c4)) (hM.later (al1 _ _)));clear hM
 obtain ⟨r,hr⟩:∃ r,r=chkM m:=⟨_,rfl⟩
 rw [← hr];have HR:=hid hr;clear hr;go_enter Tryz.func48,Tryz.ntmps48;go_wp2_with fail;refine HC.out.mono ?_;rintro e w1 ⟨rfl,A6⟩;have A8:=hid (thenB (al1 w _) A6);have Ao:=A6.size;simp at Ao;have q1:=(A6.block _ aA).trans (heap_newP w _);have KY:=hid q1;obtain ⟨x0,x1,x2,x3,x4,xf⟩:=zaa q1;have CJ:=lt_of_heap q1;clear A6 q1 HC
 by_cases he:m.err=0
 . have CB:=z0s he
   have LG:=(zfr he).1;have Bl:=hid (zjj m _ a1 c1 a2 c2 a3 c3 a4 c4 w1 (HM.out.later A8.out) CB);have An:Hid (r=if Fx.zgd (Fx.zbi m.uses)||Fx.zgd (Fx.zew (za8 m)) then 6 else 0):=HR.out.trans (if_neg (by simp [he]))
   have L9:Hid ((za8 m).length<=16):=by have h1:=CB.decls;have h2:=CB.procs;show (za8 m).length<=16;rw [zgw];omega
   clear CB HR;go_wp2_with fail;refine Bl.out.mono ?_;rintro e w2 ⟨⟨ai,ci,rfl,hit⟩,Ab⟩;have Ad:=hid (thenB A8.out Ab);have Ay:=Ab.size;have Me:=hid ((Ab.block _ CJ).trans KY.out);obtain ⟨HI,HF⟩:=zpu hit;have Li:=hid HI;have Ln:=hid HF;clear Ab Bl hit HI HF x0 x1 x2 x3 x4 xf;obtain ⟨x0,x1,x2,x3,x4,xf⟩:=zaa Me.out;have Ch:=lt_of_heap Me.out;have BM:=hid (zrs (HM.out.later Ad.out) LG)
   cases Cj:Fx.zgd (Fx.zbi m.uses) with
   | true=>
     rw [Cj] at BM An;have Aq:Hid (r=6):=An.out;clear Cj An;go_wp2_with fail;refine BM.out.mono ?_;rintro e w3 ⟨rfl,A9⟩;have Af:=hid (thenB Ad.out A9);clear A9;go_wp2_with fail;go_ret;exact ⟨ret_int Aq.out.symm,Af.out⟩
   | false=>
     rw [Cj] at BM An;clear Cj;go_wp2_with fail;refine BM.out.mono ?_;rintro e w3 ⟨rfl,A9⟩;have Af:=hid (thenB Ad.out A9);have Df:=hid (Fx.zi2 ai ci (za8 m) w3 (Li.out.later A9) (by have:=L9.out;omega));clear A9;go_wp2_with fail;refine Df.out.mono ?_;rintro e w4 ⟨v4,rfl,ho4,Aj⟩;have Ap:=hid (thenB Af.out Aj);have C5:=hid (ztv ho4 (by have:=L9.out;omega) Ln.out);clear Aj ho4;go_wp2_with fail;refine C5.out.mono ?_;rintro e w5 ⟨rfl,As⟩;have At:=hid (thenB Ap.out As);clear As
     cases DE:Fx.zgd (Fx.zew (za8 m)) with
     | true=>
       have Aq:Hid (r=6):=An.out.trans (by rw [DE];rfl);exact jA
     | false=>
       have Aq:Hid (r=0):=An.out.trans (by rw [DE];rfl);exact jA
 . have An:Hid (r=m.err):=HR.out.trans (if_pos he)
   go_wp2_with fail;go_ret;exact ⟨ret_int An.out.symm,A8.out⟩
set_option maxHeartbeats 3200000
def pick (bs:List Bool) (l:List It):List It:=(bs.zip l).filterMap fun p=>if p.1 then some p.2 else none
def zkx (m:Mo):List Bool:=m.decls.map De.pub++m.procs.map Pr.pub
def shownIts (m:Mo):List It:=pick (zkx m) (za8 m)
theorem ziu (m:Mo):(zkx m).length=m.decls.length+m.procs.length:=by simp [zkx]
theorem z0t (m:Mo) (j:Nat) (h:j<m.decls.length):(zkx m)[j]' eY=m.decls[j].pub:=by
 unfold zkx;rw [vcl bT];simp
theorem z0u (m:Mo) (j:Nat) (h:j<m.procs.length):(zkx m)[m.decls.length+j]' eY=m.procs[j].pub:=by
 unfold zkx;rw [List.getElem_append_right aA];simp
theorem zrt (bs:List Bool) (l:List It) (k:Nat) (hb:k<bs.length) (hl:k<l.length):pick (bs.take (k+1)) (l.take (k+1))=pick (bs.take k) (l.take k)++if bs[k] then [l[k]] else []:=by
 unfold pick;rw [vag hb,vag hl,List.zip_append aF,List.filterMap_append]
 congr 1
 cases bs[k]<;>rfl
theorem z0v (m:Mo) (v:Value) (a1:OA) (c1:Nat) (a2:OA) (c2:Nat) (a3:OA) (c3:Nat) (a4:OA) (c4:Nat) (items:List It) (ai:OA) (ci:Nat) (w:World) (hM:MoAt w Tt m v a1 c1 a2 c2 a3 c3 a4 c4) (C6:LayOk m) (Ah:items.length=m.decls.length+m.procs.length) (hI:Fx.zcy w ai items) (hF:Fx.AllFit items) :
 qc 50 #[v,.slice ai items.length ci] w fun e w'=>(∃ a cap,e = .returned (.slice a (pick (zkx m) items).length cap)/\EAt w' (w.heap.size<=·) a (pick (zkx m) items).length (zg8 (pick (zkx m) items)))/\qb w w':=by
 obtain rfl:=hM.val;have OI:=hid hM.decls;have Oh:=hid hM.procs;have Li:=hid hI;have Ln:=hid hF;have Em:=hid Ah;have Kr:=C6.decls;have Ps:=C6.procs;clear hM C6 hI hF Ah;go_enter Tryz.func50,Tryz.ntmps50;go_wp2_with fail
 go_loopw [5,6,7,13] (fun v _ _ i wr=>∃ (j:Nat) (A5:List It),j<=m.decls.length/\i=qi j/\A5.length<=j/\A5=pick ((zkx m).take j) (items.take j)/\Row (w.heap.size+1) 98 4 wr v A5.length (zg8 A5)/\wr.heap[w.heap.size]? = some (kzG m.name a1 m.uses.length c1 a2 m.decls.length c2 a3 m.procs.length c3 a4 m.main.length c4)/\qb w wr) (fun _ _ _ i _=>m.decls.length - (intOf i).toNat)
 case atStart=>exact ⟨0,[],vaf _,rfl,vaa _,by simp [pick],Row.nil _ _ _ _,heap_newP _ _,al1 _ _⟩
 case round=>
  obtain ⟨j,A5,hj,rfl,hacc,hdef,Aa,hbx,hb⟩:=hrel;have HO:=hid Aa;have BV:=hid hbx;have HB:=hid hb;have GN:=hid hdef;have C1:=hb.size;have Cv:=lt_of_heap hbx;clear Aa hb hdef
  by_cases A0:j<m.decls.length
  . have Jj:j<items.length:=by have:=Em.out;omega
    have C3:Hid (pick ((zkx m).take (j+1)) (items.take (j+1))=A5++if m.decls[j].pub then [items[j]] else []):=by
     show pick ((zkx m).take (j+1)) (items.take (j+1))=_;rw [zrt _ _ j eY Jj,z0t m j A0,← GN.out]
    have I5:=Ln.out items[j] (vah _);have DT:=hid ((Li.out.later HB.out).place Jj);obtain ⟨b,off,rfl,hx⟩:=(OI.out.later HB.out).de j A0;obtain ⟨Av,x0,x1,xp,x3,_,_,B4⟩:=hx;obtain ⟨b2,off2,rfl,hbl2,i0,i1,i2,i3⟩:=DT.out
    have RI:(j:Int)<items.length:=ae
    clear DT;generalize m.decls[j]=d at *;generalize items[j]=x at *
    cases BH:d.pub with
    | true=>
      have Bi:Hid (Row (w.heap.size+1) 98 4 (wr.alloc (kzH d.kind d.name d.pub d.n)) u5 A5.length (zg8 A5)):=HO.out.alloc _;have C0:Hid (zav (wr.alloc (kzH d.kind d.name d.pub d.n)) (fun _=>False) (itD x) [qi x.kind,qi x.n,qi x.at_,.string x.name]):=zg9 I5;have AF:Hid ((wr.alloc (kzH d.kind d.name d.pub d.n)).heap[w.heap.size]? = some (kzG m.name a1 m.uses.length c1 (some (qa b off)) m.decls.length c2 a3 m.procs.length c3 a4 m.main.length c4)):=zab BV.out;have Ce:Hid (qb w (wr.alloc (kzH d.kind d.name d.pub d.n))):=thenB HB.out (al1 _ _);have Fv:Hid (pick ((zkx m).take (j+1)) (items.take (j+1))=A5++[x]):=C3.out.trans (by rw [BH];rfl);rw [BH] at Bi C0 AF Ce;clear I5 hbx C3;rw [BH] at xp
      go_wp2_with (at_builtin;refine zbv rfl (.tmp 20) (.tmp 25) 28 rfl (w.heap.size+1) 98 _ 4 40 Tryz.underlying28 Tryz.infoItem rfl aq (wr.alloc (kzH d.kind d.name true d.n)) u5 A5.length (zg8 A5) (itD x) rfl Bi.out #[qi x.kind,qi x.n,qi x.at_,.string x.name] _ aA rfl rfl (fun _=>False) C0.out (fun b _ h=>h.elim) ae aq aF ?_)
      exact ge
    | false=>
      have Bi:Hid (Row (w.heap.size+1) 98 4 (wr.alloc (kzH d.kind d.name d.pub d.n)) u5 A5.length (zg8 A5)):=HO.out.alloc _;have AF:Hid ((wr.alloc (kzH d.kind d.name d.pub d.n)).heap[w.heap.size]? = some (kzG m.name a1 m.uses.length c1 (some (qa b off)) m.decls.length c2 a3 m.procs.length c3 a4 m.main.length c4)):=zab BV.out;have Ce:Hid (qb w (wr.alloc (kzH d.kind d.name d.pub d.n))):=thenB HB.out (al1 _ _);have Fv:Hid (pick ((zkx m).take (j+1)) (items.take (j+1))=A5):=C3.out.trans (by rw [BH];simp);exact gN
  . obtain rfl:j=m.decls.length:=by omega
    have QM:Hid (A5=pick ((zkx m).take m.decls.length) (items.take m.decls.length)):=GN.out;obtain ⟨k0,k1,k2,k3,k4,kf⟩:=zaa BV.out;clear GN hbx;go_wp2_with fail;clear k0 k1 k2 k3 k4 kf
    go_loopw [5,8,9,31] (fun v _ _ i wr=>∃ (j:Nat) (A5:List It),j<=m.procs.length/\i=qi j/\A5.length<=m.decls.length+j/\A5=pick ((zkx m).take (m.decls.length+j)) (items.take (m.decls.length+j))/\Row (w.heap.size+1) 98 4 wr v A5.length (zg8 A5)/\wr.heap[w.heap.size]? = some (kzG m.name a1 m.uses.length c1 a2 m.decls.length c2 a3 m.procs.length c3 a4 m.main.length c4)/\qb w wr) (fun _ _ _ i _=>m.procs.length - (intOf i).toNat)
    case atStart=>exact ⟨0,A5,vaf _,rfl,hacc,QM.out,HO.out,BV.out,HB.out⟩
    case round=>
     clear HO BV HB C1 Cv QM hacc;obtain ⟨j,A5,hj2,rfl,hacc,hdef,Aa,hbx,hb⟩:=hrel;have HO:=hid Aa;have BV:=hid hbx;have HB:=hid hb;have GN:=hid hdef;have C1:=hb.size;have Cv:=lt_of_heap hbx;clear Aa hb hdef
     by_cases A0:j<m.procs.length
     . have Jj:m.decls.length+j<items.length:=by have:=Em.out;omega
       have C3:Hid (pick ((zkx m).take (m.decls.length+(j+1))) (items.take (m.decls.length+(j+1)))=A5++if m.procs[j].pub then [items[m.decls.length+j]] else []):=by
        show pick ((zkx m).take (m.decls.length+j+1)) (items.take (m.decls.length+j+1))=_;rw [zrt _ _ (m.decls.length+j) eY Jj,z0u m j A0,← GN.out]
       have I5:=Ln.out items[m.decls.length+j] (vah _);have DT:=hid ((Li.out.later HB.out).place Jj);obtain ⟨b,off,q1,d1,q2,d2,q3,d3,rfl,hx⟩:=(Oh.out.later HB.out).pr j A0;obtain ⟨Av,x0,xp,x2,x3,x4,_,_,_,B4⟩:=hx;obtain ⟨b2,off2,rfl,hbl2,i0,i1,i2,i3⟩:=DT.out
       have NE:((m.decls.length:Int)+(j:Int))=((m.decls.length+j:Nat):Int):=ae
       have JR:IntKind.i64.wrap ((m.decls.length:Int)+(j:Int))=((m.decls.length+j:Nat):Int):=aK
       have RI:((m.decls.length+j:Nat):Int)<items.length:=ae
       have U9:(0:Int)<=((m.decls.length+j:Nat):Int):=ae
       obtain ⟨k0,k1,k2,k3,k4,kf⟩:=zaa BV.out;clear DT NE;generalize m.procs[j]=p at *;generalize items[m.decls.length+j]=x at *
       cases BH:p.pub with
       | true=>
         have Bi:Hid (Row (w.heap.size+1) 98 4 (wr.alloc (kzK p.name p.pub q1 p.params.length d1 q2 p.locals.length d2 q3 p.body.length d3)) u5 A5.length (zg8 A5)):=HO.out.alloc _;have C0:Hid (zav (wr.alloc (kzK p.name p.pub q1 p.params.length d1 q2 p.locals.length d2 q3 p.body.length d3)) (fun _=>False) (itD x) [qi x.kind,qi x.n,qi x.at_,.string x.name]):=zg9 I5;have AF:Hid ((wr.alloc (kzK p.name p.pub q1 p.params.length d1 q2 p.locals.length d2 q3 p.body.length d3)).heap[w.heap.size]? = some (kzG m.name a1 m.uses.length c1 a2 m.decls.length c2 (some (qa b off)) m.procs.length c3 a4 m.main.length c4)):=zab BV.out;have Ce:Hid (qb w (wr.alloc (kzK p.name p.pub q1 p.params.length d1 q2 p.locals.length d2 q3 p.body.length d3))):=thenB HB.out (al1 _ _);have Fv:Hid (pick ((zkx m).take (m.decls.length+(j+1))) (items.take (m.decls.length+(j+1)))=A5++[x]):=C3.out.trans (by rw [BH];rfl)
         rw [BH] at Bi C0 AF Ce;clear I5 hbx C3;rw [BH] at xp
         go_wp2_with (at_builtin;refine zbv rfl (.tmp 38) (.tmp 47) 28 rfl (w.heap.size+1) 98 _ 4 40 Tryz.underlying28 Tryz.infoItem rfl aq (wr.alloc (kzK p.name true q1 p.params.length d1 q2 p.locals.length d2 q3 p.body.length d3)) u5 A5.length (zg8 A5) (itD x) rfl Bi.out #[qi x.kind,qi x.n,qi x.at_,.string x.name] _ aA rfl rfl (fun _=>False) C0.out (fun b _ h=>h.elim) ae aq aF ?_)
         exact ge
       | false=>
         have Bi:Hid (Row (w.heap.size+1) 98 4 (wr.alloc (kzK p.name p.pub q1 p.params.length d1 q2 p.locals.length d2 q3 p.body.length d3)) u5 A5.length (zg8 A5)):=HO.out.alloc _;have AF:Hid ((wr.alloc (kzK p.name p.pub q1 p.params.length d1 q2 p.locals.length d2 q3 p.body.length d3)).heap[w.heap.size]? = some (kzG m.name a1 m.uses.length c1 a2 m.decls.length c2 (some (qa b off)) m.procs.length c3 a4 m.main.length c4)):=zab BV.out;have Ce:Hid (qb w (wr.alloc (kzK p.name p.pub q1 p.params.length d1 q2 p.locals.length d2 q3 p.body.length d3))):=thenB HB.out (al1 _ _);have Fv:Hid (pick ((zkx m).take (m.decls.length+(j+1))) (items.take (m.decls.length+(j+1)))=A5):=C3.out.trans (by rw [BH];simp);exact gN
     . obtain rfl:j=m.procs.length:=by omega
       have HR:Hid (pick (zkx m) items=A5):=by
        show pick (zkx m) items=A5;rw [GN.out,vav eY,vav (by rw [Em.out];omega)]
       obtain ⟨a5,c5,rfl,hea⟩:=HO.out.slice;have IZ:=hid hea;clear hea hbx;go_wp2_with fail;go_ret;refine ⟨⟨a5,c5,?_,?_⟩,HB.out⟩
       . rw [HR.out];rfl
       . rw [HR.out]
         exact IZ.out.moves ⟨vaa _,fun b _ h=>⟨bQ,rfl⟩⟩
end Go.Proofs.YtndkhgakfodldaaGreatDoor

namespace Go.Proofs.YtndkhgakfodldaaGreatDoor
set_option maxRecDepth 100000
set_option maxHeartbeats 3200000
open Go.RowKit Go.Maps Go.WideMaps Go.Shelf
set_option linter.unusedSimpArgs false
def ztw (lo:Nat) (m:Mo) (e:Ending) (w:World):Prop:=
 (chkM m≠0/\e = .returned (.tuple #[.agg #[.string ⟨#[]⟩,qs],qi (chkM m)]))\/
 (chkM m=0/\∃ a cap,e = .returned (.tuple #[.agg #[.string m.name,.slice a (shownIts m).length cap],qi 0])/\EAt w (lo<=·) a (shownIts m).length (zg8 (shownIts m)))
theorem zpv {m:Mo} (h:chkM m=0):m.err=0:=by
 unfold chkM at h
 by_cases he:m.err=0
 . exact he
 . rw [if_pos he] at h;exact h
theorem yb1 {w:World} {b:Nat} {x0 x1 x2 x3 x4:Value} {t:TypeId} (h:w.heap[b]? = some (.cells #[x0,x1,x2,x3,x4] t (0,0))):w.cell? (qa b 0)=some x0/\w.cell? (qa b 1)=some x1/\w.cell? (qa b 2)=some x2/\w.cell? (qa b 3)=some x3/\w.cell? (qa b 4)=some x4:=by
 obtain ⟨h0,h1,h2,h3,h4,_⟩:=zaa h;exact ⟨h0,h1,h2,h3,h4⟩
theorem z3y {W:World} {b c:Nat} (hn:b≠c) {x0 x1 x2 x3 x4:Value} (h:W.cell? (qa b 0)=some x0/\W.cell? (qa b 1)=some x1/\W.cell? (qa b 2)=some x2/\W.cell? (qa b 3)=some x3/\W.cell? (qa b 4)=some x4) (u v:Value) :
 ((W.setCell (qa c 0) u).setCell (qa c 1) v).cell? (qa b 0)=some x0/\((W.setCell (qa c 0) u).setCell (qa c 1) v).cell? (qa b 1)=some x1/\((W.setCell (qa c 0) u).setCell (qa c 1) v).cell? (qa b 2)=some x2/\((W.setCell (qa c 0) u).setCell (qa c 1) v).cell? (qa b 3)=some x3/\((W.setCell (qa c 0) u).setCell (qa c 1) v).cell? (qa b 4)=some x4:=by
 have e:((W.setCell (qa c 0) u).setCell (qa c 1) v).heap[b]? = W.heap[b]?:=(heap_set_ne hn _).trans (heap_set_ne hn _)
 have g:∀ o,((W.setCell (qa c 0) u).setCell (qa c 1) v).cell? (qa b o)=W.cell? (qa b o):=fun o=>vet (w:=W) (a:=(qa b o)) e
 exact ⟨(g 0).trans h.1,(g 1).trans h.2.1,(g 2).trans h.2.2.1,(g 3).trans h.2.2.2.1,(g 4).trans h.2.2.2.2⟩
theorem z3z (m:Mo) (v:Value) (a1:OA) (c1:Nat) (a2:OA) (c2:Nat) (a3:OA) (c3:Nat) (a4:OA) (c4:Nat) (w:World) (hM:MoAt w Tt m v a1 c1 a2 c2 a3 c3 a4 c4) :
 qc 15 #[v] w fun e w'=>ztw w.heap.size m e w'/\qb w w':=by
 obtain rfl:=hM.val;have HM:=hid hM;have HC:=hid (zgx m _ a1 c1 a2 c2 a3 c3 a4 c4 ((w.alloc (kzG m.name a1 m.uses.length c1 a2 m.decls.length c2 a3 m.procs.length c3 a4 m.main.length c4)).alloc (.cells #[.string ⟨#[]⟩,qs] 30)) (hM.later (bl2 _ _ _)));clear hM;go_enter Tryz.func15,Tryz.ntmps15;go_wp2_with fail;refine HC.out.mono ?_;rintro e w1 ⟨rfl,A6⟩;have A8:=hid (thenB (bl2 w _ _) A6);have Ao:=A6.size;simp at Ao;have q1:=(A6.block w.heap.size aF).trans (zab (heap_newP w _));have q2:w1.heap[w.heap.size+1]? = some (.cells #[.string ⟨#[]⟩,qs] 30):=(A6.block (w.heap.size+1) aA).trans dT;have KY:=hid q1;have Me:=hid q2;obtain ⟨x0,x1,x2,x3,x4,xf⟩:=zaa q1;obtain ⟨y0,y1,yf⟩:=zcr q2;have CJ:=lt_of_heap q1;have Ch:=lt_of_heap q2;clear A6 q1 q2 HC
 by_cases hc:chkM m=0
 . have CB:=z0s (zpv hc)
   have Hr:=hid CB;have Bl:=hid (zjj m _ a1 c1 a2 c2 a3 c3 a4 c4 w1 (HM.out.later A8.out) CB);have HZ:=hid hc;clear CB;rw [hc];clear hc;go_wp2_with fail;refine Bl.out.mono ?_;rintro e w2 ⟨⟨ai,ci,rfl,hit⟩,Ab⟩;have Ad:=hid (thenB A8.out Ab);have Ay:=Ab.size;have Bh:=hid ((Ab.block _ CJ).trans KY.out);have BQ:=hid ((Ab.block _ Ch).trans Me.out);obtain ⟨HI,HF⟩:=zpu hit;have BM:=hid (fun W (hW:qb w2 W)=>z0v m _ a1 c1 a2 c2 a3 c3 a4 c4 (za8 m) ai ci W (HM.out.later (thenB Ad.out hW)) Hr.out (zgw m) (HI.later hW) HF);clear Ab Bl hit HI HF x0 x1 x2 x3 x4 xf y0 y1 yf;obtain ⟨x0,x1,x2,x3,x4,xf⟩:=zaa Bh.out;obtain ⟨y0,y1,yf⟩:=zcr BQ.out;have Nb:=lt_of_heap Bh.out;have Kg:=lt_of_heap BQ.out;have HS:=hid (fun W (hW:qb w2 W)=>yb1 ((hW.block _ Nb).trans Bh.out))
   have FF:=hid (HS.out _ (Below.refl _ w2).drew);have SM:=hid (fun W (hW:qb w2 W)=>zcr ((hW.block _ Kg).trans BQ.out));go_wp2_with fail;clear x0 x1 x2 x3 x4 xf y0 y1 yf
   go_region_held (fun W=>W.cell? (qa w.heap.size 0)=some (.string m.name)/\W.cell? (qa w.heap.size 1)=some (.slice a1 m.uses.length c1)/\W.cell? (qa w.heap.size 2)=some (.slice a2 m.decls.length c2)/\W.cell? (qa w.heap.size 3)=some (.slice a3 m.procs.length c3)/\W.cell? (qa w.heap.size 4)=some (.slice a4 m.main.length c4)) (first | exact FF.out | exact z3y ae FF.out _ _)
    (first | (go_at_call 50;refine (BM.out _ (Below.refl _ w2).drew).mono ?_;rintro e w3 ⟨⟨a5,c5,rfl,he5⟩,A9⟩;have Af:=hid (thenB (Below.refl _ w2).drew A9);have OH:=hid he5;clear he5 A9;have FF:=hid (HS.out _ Af.out);obtain ⟨y0,y1,yf⟩:=SM.out _ Af.out;have CC:w.heap.size+1<w3.heap.size:=vai Kg Af.out.size))
   all_goals
    go_wp2_with fail;refine bodyPost_ret (v:=.tuple #[.agg #[.string m.name,.slice a5 (pick (zkx m) (za8 m)).length c5],qi 0]) (by simp [results,Tryz.results15,go_sem,y0,y1,CC]) rfl ⟨Or.inr ⟨HZ.out,a5,c5,rfl,?_⟩,?_⟩
    . exact (OH.out.moves (((zad.refl w3 _).set (p:=⟨w.heap.size+1,0,none⟩) dh _).set (p:=⟨w.heap.size+1,1,none⟩) dh _)).moves ⟨vaa _,fun b _ h=>⟨by have:w2.heap.size<=b:=h;show w.heap.size<=b;omega,rfl⟩⟩
    . exact ((thenB Ad.out Af.out).setCell (p:=⟨w.heap.size+1,0,none⟩) bI _).setCell (p:=⟨w.heap.size+1,1,none⟩) bI _
 . have HF:Hid (ztw w.heap.size m (.returned (.tuple #[.agg #[.string ⟨#[]⟩,qs],qi (chkM m)])) ((w1.setCell ⟨w.heap.size+1,0,none⟩ (.string ⟨#[]⟩)).setCell ⟨w.heap.size+1,1,none⟩ (qs))):=Or.inl ⟨hc,rfl⟩
   go_wp2_with fail;refine bodyPost_ret (v:=.tuple #[.agg #[.string ⟨#[]⟩,qs],qi (chkM m)]) (by simp [results,Tryz.results15,go_sem,y0,y1,Ch]) rfl ⟨HF.out,?_⟩;exact (A8.out.setCell (p:=⟨w.heap.size+1,0,none⟩) bI _).setCell (p:=⟨w.heap.size+1,1,none⟩) bI _
end Go.Proofs.YtndkhgakfodldaaGreatDoor

namespace Go.Proofs.YtndkhgakfodldaaGreatDoor
open Go.RowKit
set_option linter.unusedSimpArgs false
theorem zvt:∀ (l:List Nd) (i:Nat) (h:i<l.length) (j:Nat),j<5->(zdn l)[i*5+j]? = (l[i].ds)[j]?
 | [],i,h,_,_=>dH
 | x :: r,0,_,j,hj=>by
   have:=x.ds_len;simp only [zdn,vbm];rw [vbc ae,vbk,vaz]
 | x :: r,i+1,h,j,hj=>by
   have:=x.ds_len;simp only [zdn,vbu];rw [vbh ae,show (i+1)*5+j - x.ds.length=i*5+j from ae];exact zvt r i bT j hj
theorem zvu:∀ (l:List Ac) (i:Nat) (h:i<l.length) (j:Nat),j<7->(zdu l)[i*7+j]? = (l[i].ds)[j]?
 | [],i,h,_,_=>dH
 | x :: r,0,_,j,hj=>by
   have:=x.ds_len;simp only [zdu,vbm];rw [vbc ae,vbk,vaz]
 | x :: r,i+1,h,j,hj=>by
   have:=x.ds_len;simp only [zdu,vbu];rw [vbh ae,show (i+1)*7+j - x.ds.length=i*7+j from ae];exact zvu r i bT j hj
def Un.ds (u:Un):List D:=[.str u.name,.list u.uses.length (zak u.uses),.int u.data,.list u.parts.length (zlu u.parts),.list u.main.length (zdu u.main)]
def z30 (l:List Un):List D:=l.flatMap Un.ds
structure NdAt (w:World) (A:Nat->Prop) (b o:Nat) (x:Nd) (a1:OA) (k1:Nat):Prop where
 lt:b<w.heap.size
 c0:w.cell? (qa b o)=some (qi x.op)
 c1:w.cell? ⟨b,o+1,none⟩=some (qi x.n)
 c2:w.cell? ⟨b,o+2,none⟩=some (qi x.m)
 c3:w.cell? ⟨b,o+3,none⟩=some (qi x.at_)
 c4:w.cell? ⟨b,o+4,none⟩=some (.slice a1 x.args.length k1)
 args':DAt w A a1 x.args.length (zdn x.args)
 w0:(Lit.int .i64 x.op).wf=true
 w1:(Lit.int .i64 x.n).wf=true
 w2:(Lit.int .i64 x.m).wf=true
 w3:(Lit.int .i64 x.at_).wf=true
theorem DAt.nd {w:World} {A:Nat->Prop} {a:OA} {l:List Nd} (h:DAt w A a l.length (zdn l)) (i:Nat) (hi:i<l.length):∃ b off a1 k1,a=some (qa b off)/\NdAt w A b (off+i*5) l[i] a1 k1:=by
 obtain ⟨b,off,ha,hb,hc⟩:=h.cell ae;generalize hx:l[i]=x;obtain ⟨op,n,m,at_,args⟩:=x
 have g:∀ j d,j<5->(Nd.mk op n m at_ args).ds[j]? = some d->∃ v,w.cell? ⟨b,off+i*5+j,none⟩=some v/\zdg w A d v:=fun j d hj hd=>by
  rw [vbn];exact hc (i*5+j) d ((zvt l i hi j hj).trans bJ)
 obtain ⟨v0,q0,d0⟩:=g 0 (.int op) ae (by simp [Nd.ds]);obtain ⟨v1,q1,d1⟩:=g 1 (.int n) ae (by simp [Nd.ds]);obtain ⟨v2,q2,d2⟩:=g 2 (.int m) ae (by simp [Nd.ds]);obtain ⟨v3,q3,d3⟩:=g 3 (.int at_) ae (by simp [Nd.ds]);obtain ⟨v4,q4,d4⟩:=g 4 (.list args.length (zdn args)) ae (by simp [Nd.ds]);obtain ⟨rfl,w0⟩:=za4 d0;obtain ⟨rfl,w1⟩:=za4 d1;obtain ⟨rfl,w2⟩:=za4 d2;obtain ⟨rfl,w3⟩:=za4 d3;obtain ⟨a1,k1,rfl,h1⟩:=za1 d4;exact ⟨b,off,a1,k1,ha,hb,q0,q1,q2,q3,q4,h1,w0,w1,w2,w3⟩
structure AcAt (w:World) (A:Nat->Prop) (b o:Nat) (x:Ac) (a1:OA) (k1:Nat) (a2:OA) (k2:Nat) (a3:OA) (k3:Nat):Prop where
 lt:b<w.heap.size
 c0:w.cell? (qa b o)=some (qi x.op)
 c1:w.cell? ⟨b,o+1,none⟩=some (qi x.n)
 c2:w.cell? ⟨b,o+2,none⟩=some (qi x.m)
 c3:w.cell? ⟨b,o+3,none⟩=some (qi x.at_)
 c4:w.cell? ⟨b,o+4,none⟩=some (.slice a1 x.args.length k1)
 c5:w.cell? ⟨b,o+5,none⟩=some (.slice a2 x.body.length k2)
 c6:w.cell? ⟨b,o+6,none⟩=some (.slice a3 x.other.length k3)
 args':DAt w A a1 x.args.length (zdn x.args)
 body':DAt w A a2 x.body.length (zdu x.body)
 other':DAt w A a3 x.other.length (zdu x.other)
 w0:(Lit.int .i64 x.op).wf=true
 w1:(Lit.int .i64 x.n).wf=true
 w2:(Lit.int .i64 x.m).wf=true
 w3:(Lit.int .i64 x.at_).wf=true
theorem DAt.ac {w:World} {A:Nat->Prop} {a:OA} {l:List Ac} (h:DAt w A a l.length (zdu l)) (i:Nat) (hi:i<l.length):∃ b off a1 k1 a2 k2 a3 k3,a=some (qa b off)/\AcAt w A b (off+i*7) l[i] a1 k1 a2 k2 a3 k3:=by
 obtain ⟨b,off,ha,hb,hc⟩:=h.cell ae;generalize hx:l[i]=x;obtain ⟨op,n,m,at_,args,body,other⟩:=x
 have g:∀ j d,j<7->(Ac.mk op n m at_ args body other).ds[j]? = some d->∃ v,w.cell? ⟨b,off+i*7+j,none⟩=some v/\zdg w A d v:=fun j d hj hd=>by
  rw [vbn];exact hc (i*7+j) d ((zvu l i hi j hj).trans bJ)
 obtain ⟨v0,q0,d0⟩:=g 0 (.int op) ae eD;obtain ⟨v1,q1,d1⟩:=g 1 (.int n) ae eD;obtain ⟨v2,q2,d2⟩:=g 2 (.int m) ae eD;obtain ⟨v3,q3,d3⟩:=g 3 (.int at_) ae eD;obtain ⟨v4,q4,d4⟩:=g 4 (.list args.length (zdn args)) ae eD;obtain ⟨v5,q5,d5⟩:=g 5 (.list body.length (zdu body)) ae eD;obtain ⟨v6,q6,d6⟩:=g 6 (.list other.length (zdu other)) ae eD;obtain ⟨rfl,w0⟩:=za4 d0;obtain ⟨rfl,w1⟩:=za4 d1;obtain ⟨rfl,w2⟩:=za4 d2;obtain ⟨rfl,w3⟩:=za4 d3;obtain ⟨a1,k1,rfl,h1⟩:=za1 d4;obtain ⟨a2,k2,rfl,h2⟩:=za1 d5;obtain ⟨a3,k3,rfl,h3⟩:=za1 d6;exact ⟨b,off,a1,k1,a2,k2,a3,k3,ha,hb,q0,q1,q2,q3,q4,q5,q6,h1,h2,h3,w0,w1,w2,w3⟩
structure PtAt (w:World) (A:Nat->Prop) (b o:Nat) (x:Pt) (a1:OA) (k1:Nat):Prop where
 lt:b<w.heap.size
 c0:w.cell? (qa b o)=some (qi x.params)
 c1:w.cell? ⟨b,o+1,none⟩=some (qi x.locals)
 c2:w.cell? ⟨b,o+2,none⟩=some (.slice a1 x.body.length k1)
 body':DAt w A a1 x.body.length (zdu x.body)
 w0:(Lit.int .i64 x.params).wf=true
 w1:(Lit.int .i64 x.locals).wf=true
theorem DAt.pt {w:World} {A:Nat->Prop} {a:OA} {l:List Pt} (h:DAt w A a l.length (zlu l)) (i:Nat) (hi:i<l.length):∃ b off a1 k1,a=some (qa b off)/\PtAt w A b (off+i*3) l[i] a1 k1:=by
 obtain ⟨b,off,ha,hb,hc⟩:=h.cell ae;generalize hx:l[i]=x;obtain ⟨params,locals,body⟩:=x
 have g:∀ j d,j<3->(Pt.mk params locals body).ds[j]? = some d->∃ v,w.cell? ⟨b,off+i*3+j,none⟩=some v/\zdg w A d v:=fun j d hj hd=>by
  rw [vbn];exact hc (i*3+j) d ((zcp Pt.ds 3 (fun _=>rfl) l i hi j hj).trans bJ)
 obtain ⟨v0,q0,d0⟩:=g 0 (.int params) ae (by simp [Pt.ds]);obtain ⟨v1,q1,d1⟩:=g 1 (.int locals) ae (by simp [Pt.ds]);obtain ⟨v2,q2,d2⟩:=g 2 (.list body.length (zdu body)) ae (by simp [Pt.ds]);obtain ⟨rfl,w0⟩:=za4 d0;obtain ⟨rfl,w1⟩:=za4 d1;obtain ⟨a1,k1,rfl,h1⟩:=za1 d2;exact ⟨b,off,a1,k1,ha,hb,q0,q1,q2,h1,w0,w1⟩
structure UnAt (w:World) (A:Nat->Prop) (b o:Nat) (x:Un) (a1:OA) (k1:Nat) (a2:OA) (k2:Nat) (a3:OA) (k3:Nat):Prop where
 lt:b<w.heap.size
 c0:w.cell? (qa b o)=some (.string x.name)
 c1:w.cell? ⟨b,o+1,none⟩=some (.slice a1 x.uses.length k1)
 c2:w.cell? ⟨b,o+2,none⟩=some (qi x.data)
 c3:w.cell? ⟨b,o+3,none⟩=some (.slice a2 x.parts.length k2)
 c4:w.cell? ⟨b,o+4,none⟩=some (.slice a3 x.main.length k3)
 uses':DAt w A a1 x.uses.length (zak x.uses)
 parts':DAt w A a2 x.parts.length (zlu x.parts)
 main':DAt w A a3 x.main.length (zdu x.main)
 w0:x.name.size<=maxLen
 w2:(Lit.int .i64 x.data).wf=true
theorem DAt.un {w:World} {A:Nat->Prop} {a:OA} {l:List Un} (h:DAt w A a l.length (z30 l)) (i:Nat) (hi:i<l.length):∃ b off a1 k1 a2 k2 a3 k3,a=some (qa b off)/\UnAt w A b (off+i*5) l[i] a1 k1 a2 k2 a3 k3:=by
 obtain ⟨b,off,ha,hb,hc⟩:=h.cell ae;generalize hx:l[i]=x;obtain ⟨name,uses,data,parts,main⟩:=x
 have g:∀ j d,j<5->(Un.mk name uses data parts main).ds[j]? = some d->∃ v,w.cell? ⟨b,off+i*5+j,none⟩=some v/\zdg w A d v:=fun j d hj hd=>by
  rw [vbn];exact hc (i*5+j) d ((zcp Un.ds 5 (fun _=>rfl) l i hi j hj).trans bJ)
 obtain ⟨v0,q0,d0⟩:=g 0 (.str name) ae eM;obtain ⟨v1,q1,d1⟩:=g 1 (.list uses.length (zak uses)) ae eM;obtain ⟨v2,q2,d2⟩:=g 2 (.int data) ae eM;obtain ⟨v3,q3,d3⟩:=g 3 (.list parts.length (zlu parts)) ae eM;obtain ⟨v4,q4,d4⟩:=g 4 (.list main.length (zdu main)) ae eM;obtain ⟨rfl,w0⟩:=zdh d0;obtain ⟨a1,k1,rfl,h1⟩:=za1 d1;obtain ⟨rfl,w2⟩:=za4 d2;obtain ⟨a2,k2,rfl,h2⟩:=za1 d3;obtain ⟨a3,k3,rfl,h3⟩:=za1 d4;exact ⟨b,off,a1,k1,a2,k2,a3,k3,ha,hb,q0,q1,q2,q3,q4,h1,h2,h3,w0,w2⟩
structure Ck where
 data:Int
 uses:Nat
 parts:List Pt
 num:Int->Int->Int->Bool
 prt:Int->Int->Int->Bool
 locals:Int
def zvv (c:Ck) (m:Int):Bool:=decide (1<=m/\m<=c.uses)
def z1z (size at_ n:Int):Bool:=decide (0<=at_/\at_+n<=size)
def numB (c:Ck) (m at_ n:Int):Bool:=if m=0 then z1z c.data at_ n else zvv c m&&c.num m at_ n
def zvw (l:List Pt) (at_ k:Int):Bool:=decide (0<=at_)&&(match l[at_.toNat]? with | some p=>decide (p.params=k) | none=>false)
def zkf (c:Ck) (m at_ k:Int):Bool:=if m=0 then zvw c.parts at_ k else zvv c m&&c.prt m at_ k
def z0w (c:Ck) (n m at_:Int):Bool:=decide (1<=n/\n<=32)&&numB c m at_ n
def zx2 (c:Ck) (at_:Int):Bool:=decide (0<=at_/\at_<c.locals)
def argsOf (op:Int):Int:=if op=2 then 0 else if op=6 then 1 else if 7<=op/\op<=15 then 2 else -1
def zay (c:Ck) (x:Nd):Bool:=
 if x.op=3 then decide (x.args.length=0)&&(decide (x.n=0)&&numB c x.m x.at_ 1)
 else if x.op=4 then decide (x.args.length=1)&&z0w c x.n x.m x.at_
 else if x.op=5 then decide (x.n=0)&&zkf c x.m x.at_ x.args.length
 else if x.op=16 then decide (x.args.length=0)&&(decide (x.n=0)&&(decide (x.m=0)&&zx2 c x.at_))
 else if x.op=1 then decide (x.args.length=0)&&(decide (0<=x.n/\x.n<=1099511627775)&&(decide (x.m=0)&&decide (x.at_=0)))
 else decide ((x.args.length:Int)=argsOf x.op)&&(decide (x.n=0)&&(decide (x.m=0)&&decide (x.at_=0)))
def zgy (c:Ck):Nat->List Nd->Bool
 | 0,l=>decide (l.length=0)
 | k+1,l=>l.all fun x=>zay c x&&zgy c k x.args
def zcb (c:Ck) (a:Ac):Bool:=
 if a.op=1 then decide (a.args.length=1)&&(decide (a.n=0)&&(if a.m = -1 then zx2 c a.at_ else numB c a.m a.at_ 1))
 else if a.op=2 then decide (a.args.length=2)&&z0w c a.n a.m a.at_
 else if a.op=3 then decide (a.n=0)&&zkf c a.m a.at_ a.args.length
 else if 4<=a.op/\a.op<=7 then decide (a.args.length=1)&&(decide (a.n=0)&&(decide (a.m=0)&&decide (a.at_=0)))
 else false
def ze1 (c:Ck):Nat->List Ac->Bool
 | 0,_=>false
 | k + 1,l=>decide (l.length<=10)&&l.all fun a=>zcb c a&&(zgy c 6 a.args &&
     (if a.op=4 then ze1 c k a.body&&ze1 c k a.other else if a.op=5 then ze1 c k a.body&&decide (a.other.length=0) else decide (a.body.length=0)&&decide (a.other.length=0)))
def ptB (p:Pt):Bool:=decide (0<=p.params/\p.params<=3)&&decide (0<=p.locals/\p.locals<=4)
def zdx (u:Un):Bool:=decide (chkM ⟨u.name,u.uses,[],[],[]⟩=0)&&(u.parts.all ptB&&(decide (0<=u.data/\u.data<=512)&&decide (u.parts.length<=6)))
def zi8 (u:Un) (num prt:Int->Int->Int->Bool) (locals:Int):Ck:=⟨u.data,u.uses.length,u.parts,num,prt,locals⟩
def zfg (u:Un) (num prt:Int->Int->Int->Bool):Bool:=
 zdx u&&(u.parts.all (fun p=>ze1 (zi8 u num prt (p.params+p.locals)) 6 p.body)&&ze1 (zi8 u num prt 0) 6 u.main)
end Go.Proofs.YtndkhgakfodldaaGreatDoor

namespace Go.Proofs.YtndkhgakfodldaaGreatDoor
set_option maxRecDepth 100000
open Go.RowKit Go.Maps Go.WideMaps
set_option linter.unusedSimpArgs false
set_option linter.unusedVariables false
theorem z99 {n:Int} (h:(Lit.int .i64 n).wf=true) : -9223372036854775808<=n/\n<=9223372036854775807:=by
 simp only [Lit.wf,vac,decide_eq_true_eq] at h;exact h
theorem zl1 (size at_ n:Int) (w:World) (h1:0<=size) (h2:size<=512) (h3:1<=n) (h4:n<=32) (hw:(Lit.int .i64 at_).wf=true) :
 qc 267 #[qi size,qi at_,qi n] w fun e w'=>e = .returned (.bool (z1z size at_ n))/\w'=w:=by
 obtain ⟨g1,g2⟩:=z99 hw;clear hw
 by_cases ha:0<=at_
 . by_cases hb:at_<=size - n
   . have HR:Hid (z1z size at_ n=true):=decide_eq_true ⟨ha,ae⟩
     exact jd
   . have HR:Hid (z1z size at_ n=false):=decide_eq_false ae
     have B6:size - n<at_:=ae
     clear hb;go_enter Tryz.func267,Tryz.ntmps267;go_wp2_with fail;go_ret;exact ⟨ret_bool aJ,rfl⟩
 . have HR:Hid (z1z size at_ n=false):=decide_eq_false ae
   have Cr:at_<0:=ae
   clear ha;exact jd
theorem zxg (op:Int) (w:World) :
 qc 269 #[qi op] w fun e w'=>e = .returned (qi (argsOf op))/\w'=w:=by
 by_cases h2:op=2
 . subst h2
   go_enter Tryz.func269,Tryz.ntmps269;exact iN
 by_cases h6:op=6
 . subst h6
   go_enter Tryz.func269,Tryz.ntmps269;exact iN
 by_cases h7:7<=op
 . by_cases Iy:op<=15
   . have HR:Hid (argsOf op=2):=by show _=_;unfold argsOf;rw [if_neg h2,if_neg h6,if_pos ⟨h7,Iy⟩]
     exact gY
   . have HR:Hid (argsOf op = -1):=by show _=_;unfold argsOf;rw [if_neg h2,if_neg h6,if_neg ae]
     have Sq:15<op:=ae
     clear Iy;exact gY
 . have HR:Hid (argsOf op = -1):=by show _=_;unfold argsOf;rw [if_neg h2,if_neg h6,if_neg ae]
   have Ux:op<7:=ae
   clear h7;exact gY
theorem zhm (c:Ck) (s:ByteArray) (x1:OA) (y1:Nat) (x2:OA) (y2:Nat) (x3:OA) (n3 y3:Nat) (iv:Value) (m:Int) (w:World) :
 qc 209 #[.agg #[.string s,.slice x1 c.uses y1,qi c.data,.slice x2 c.parts.length y2,.slice x3 n3 y3,iv,qi c.locals],qi m] w fun e w'=>e = .returned (.bool (zx2 c m))/\qb w w':=by
 by_cases ha:0<=m
 . by_cases hb:m<c.locals
   . have HR:Hid (zx2 c m=true):=decide_eq_true ⟨ha,hb⟩
     go_enter Tryz.func209,Tryz.ntmps209;exact fN
   . have HR:Hid (zx2 c m=false):=decide_eq_false ae
     have B6:c.locals<=m:=ae
     clear hb;go_enter Tryz.func209,Tryz.ntmps209;go_wp2_with fail;go_ret;exact ⟨ret_bool aJ,al1 _ _⟩
 . have HR:Hid (zx2 c m=false):=decide_eq_false ae
   have Cr:m<0:=ae
   clear ha;go_enter Tryz.func209,Tryz.ntmps209;exact fN
theorem zl2 (c:Ck) (s:ByteArray) (x1:OA) (y1:Nat) (x2:OA) (y2:Nat) (x3:OA) (n3 y3:Nat) (iv:Value) (m:Int) (w:World) :
 qc 268 #[.agg #[.string s,.slice x1 c.uses y1,qi c.data,.slice x2 c.parts.length y2,.slice x3 n3 y3,iv,qi c.locals],qi m] w fun e w'=>e = .returned (.bool (zvv c m))/\qb w w':=by
 by_cases ha:1<=m
 . by_cases hb:m<=c.uses
   . have HR:Hid (zvv c m=true):=decide_eq_true ⟨ha,hb⟩
     go_enter Tryz.func268,Tryz.ntmps268;exact fN
   . have HR:Hid (zvv c m=false):=decide_eq_false ae
     have B6:(c.uses:Int)<m:=ae
     clear hb;go_enter Tryz.func268,Tryz.ntmps268;go_wp2_with fail;go_ret;exact ⟨ret_bool aJ,al1 _ _⟩
 . have HR:Hid (zvv c m=false):=decide_eq_false ae
   have Cr:m<1:=ae
   clear ha;go_enter Tryz.func268,Tryz.ntmps268;exact fN
structure UsAt (w:World) (c:Ck) (nf pf:FuncId) (v:Value):Prop where
 num:∀ W,qb w W->∀ m at_ n:Int,zvv c m=true->(Lit.int .i64 at_).wf=true->1<=n->n<=32->qc nf #[v,qi m,qi at_,qi n] W fun e W'=>e = .returned (.bool (c.num m at_ n))/\qb W W'
 prt:∀ W,qb w W->∀ (m at_:Int) (k:Nat),zvv c m=true->(Lit.int .i64 at_).wf=true->k<=17592186044416->qc pf #[v,qi m,qi at_,qi k] W fun e W'=>e = .returned (.bool (c.prt m at_ k))/\qb W W'
structure CkAt (w:World) (c:Ck) (cv:Value):Prop where
 num:∀ W,qb w W->∀ m at_ n:Int,(Lit.int .i64 m).wf=true->(Lit.int .i64 at_).wf=true->1<=n->n<=32->qc 210 #[cv,qi m,qi at_,qi n] W fun e W'=>e = .returned (.bool (numB c m at_ n))/\qb W W'
 prt:∀ W,qb w W->∀ (m at_:Int) (k:Nat),(Lit.int .i64 m).wf=true->(Lit.int .i64 at_).wf=true->k<=17592186044416->qc 212 #[cv,qi m,qi at_,qi k] W fun e W'=>e = .returned (.bool (zkf c m at_ k))/\qb W W'
theorem CkAt.later {w w':World} {c:Ck} {cv:Value} (h:CkAt w c cv) (hb:qb w w'):CkAt w' c cv:=⟨fun W hW=>h.num W (thenB hb hW),fun W hW=>h.prt W (thenB hb hW)⟩
theorem UsAt.later {w w':World} {c:Ck} {nf pf:FuncId} {v:Value} (h:UsAt w c nf pf v) (hb:qb w w'):UsAt w' c nf pf v:=⟨fun W hW=>h.num W (thenB hb hW),fun W hW=>h.prt W (thenB hb hW)⟩
set_option maxHeartbeats 1600000
theorem zam {w:World} {b:Nat} {x0 x1 x2 x3 x4 x5 x6:Value} {t:TypeId} (h:w.heap[b]? = some (.cells #[x0,x1,x2,x3,x4,x5,x6] t (0,0))) :
 w.cell? (qa b 0)=some x0/\w.cell? (qa b 1)=some x1/\w.cell? (qa b 2)=some x2/\w.cell? (qa b 3)=some x3/\w.cell? (qa b 4)=some x4/\w.cell? (qa b 5)=some x5/\w.cell? (qa b 6)=some x6/\b<w.heap.size:=by
 refine ⟨?_,?_,?_,?_,?_,?_,?_,lt_of_heap h⟩<;>(rw [vep h];rfl)
theorem z82 (w:World) (o p:Obj):((w.alloc o).alloc p).heap[w.heap.size+1]? = some p:=eg
theorem yaa (av:OA) (nv cv:Nat) (w:World):(nilAhead 337 199 (.slice av nv cv) "HasPart").run Tryz.prog w = .ok (some false) w:=ah
theorem yab (av:OA) (nv cv:Nat) (w:World):(method 337 199 (.slice av nv cv) "HasPart").run Tryz.prog w = .ok (330,.slice av nv cv) w:=ah
theorem yb2 (c:Ck) (s:ByteArray) (x1:OA) (y1:Nat) (x2:OA) (y2:Nat) (x3:OA) (n3 y3:Nat) (av:OA) (nv cv:Nat) (m at_:Int) (k:Nat) (w:World) (hP:DAt w Tt x2 c.parts.length (zlu c.parts)) (hu:c.uses<=17592186044416) (hU:UsAt w c 329 330 (.slice av nv cv)) (hm:(Lit.int .i64 m).wf=true) (ha:(Lit.int .i64 at_).wf=true) (hk:k<=17592186044416) :
 qc 212 #[.agg #[.string s,.slice x1 c.uses y1,qi c.data,.slice x2 c.parts.length y2,.slice x3 n3 y3,.iface 199 (.slice av nv cv),qi c.locals],qi m,qi at_,qi k] w fun e w'=>e = .returned (.bool (zkf c m at_ k))/\qb w w':=by
 have HU:=hid hU;have HA:=hid ha;have HP:=hid hP;have FQ:=hP.bound;clear hU ha hm hP;have n1:=yaa av nv cv;have n2:=yab av nv cv
 by_cases h0:m=0
 . subst h0
   have HR:Hid (zkf c 0 at_ k=zvw c.parts at_ k):=if_pos rfl
   by_cases t1:0<=at_
   . obtain ⟨i,rfl⟩:∃ i:Nat,at_=i:=⟨at_.toNat,ae⟩
     by_cases t2:i<c.parts.length
     . obtain ⟨b,off,ab,cb,rfl,hx⟩:=(HP.out.later (al1 w (.cells #[.string s,.slice x1 c.uses y1,qi c.data,.slice x2 c.parts.length y2,.slice x3 n3 y3,.iface 199 (.slice av nv cv),qi c.locals] 206))).pt i t2
       exact fJ
     . have B9:Hid (zkf c 0 i k=false):=by show _=_;rw [HR.out];unfold zvw;rw [vbq,vbv ae];simp
       have E0:c.parts.length<=i:=ae
       clear t2;exact gr
   . have B9:Hid (zkf c 0 at_ k=false):=by show _=_;rw [HR.out];unfold zvw;rw [decide_eq_false t1];rfl
     have Dh:at_<0:=ae
     clear t1;exact gr
 . have HR:Hid (zkf c m at_ k=(zvv c m&&c.prt m at_ k)):=if_neg h0
   have HI:=hid (zl2 c s x1 y1 x2 y2 x3 n3 y3 (.iface 199 (.slice av nv cv)) m (w.alloc (.cells #[.string s,.slice x1 c.uses y1,qi c.data,.slice x2 c.parts.length y2,.slice x3 n3 y3,.iface 199 (.slice av nv cv),qi c.locals] 206)))
   cases hb:zvv c m with
   | false=>
     rw [hb] at HI HR;go_enter Tryz.func212,Tryz.ntmps212;go_wp2_with fail;refine HI.out.mono ?_;rintro e w1 ⟨rfl,A6⟩;have A8:=hid (thenB (al1 w _) A6);clear A6;exact fE
   | true=>
     rw [hb] at HI HR;have Hh:=hid hb;clear hb;go_enter Tryz.func212,Tryz.ntmps212;go_wp2_with fail;refine HI.out.mono ?_;rintro e w1 ⟨rfl,A6⟩;have A8:=hid (thenB (al1 w _) A6);have q1:=(A6.block _ aA).trans (heap_newP w (.cells #[.string s,.slice x1 c.uses y1,qi c.data,.slice x2 c.parts.length y2,.slice x3 n3 y3,.iface 199 (.slice av nv cv),qi c.locals] 206));obtain ⟨c0,c1,c2,c3,c4,c5,c6,cz⟩:=zam q1;clear A6 q1 c0 c1 c2 c3 c4 c6 HI
     go_wp2_with (go_at_call 330;refine (HU.out.prt _ A8.out m at_ k Hh.out HA.out hk).mono ?_;rintro e w2 ⟨rfl,Ab⟩;have Ad:=hid (thenB A8.out Ab);clear Ab)
     exact jR
theorem yac (w:World):(nilAhead 337 133 (.agg #[]) "HasNumbers").run Tryz.prog w = .ok (some false) w:=ah
theorem yad (w:World):(nilAhead 337 133 (.agg #[]) "HasPart").run Tryz.prog w = .ok (some false) w:=ah
theorem yae (w:World):(method 337 133 (.agg #[]) "HasNumbers").run Tryz.prog w = .ok (327,.agg #[]) w:=ah
theorem yaf (w:World):(method 337 133 (.agg #[]) "HasPart").run Tryz.prog w = .ok (328,.agg #[]) w:=ah
theorem z32 (c:Ck) (s:ByteArray) (x1:OA) (y1:Nat) (x2:OA) (y2:Nat) (x3:OA) (n3 y3:Nat) (m at_ n:Int) (w:World) (Gr:0<=c.data) (Cj:c.data<=512) (hu:c.uses<=17592186044416) (hU:UsAt w c 327 328 (.agg #[])) (hm:(Lit.int .i64 m).wf=true) (ha:(Lit.int .i64 at_).wf=true) (h1:1<=n) (h2:n<=32) :
 qc 210 #[.agg #[.string s,.slice x1 c.uses y1,qi c.data,.slice x2 c.parts.length y2,.slice x3 n3 y3,.iface 133 (.agg #[]),qi c.locals],qi m,qi at_,qi n] w fun e w'=>e = .returned (.bool (numB c m at_ n))/\qb w w':=by
 have HU:=hid hU;have HA:=hid ha;clear hU ha hm;have n1:=yac;have n2:=yae
 by_cases h0:m=0
 . subst h0
   have HR:Hid (numB c 0 at_ n=z1z c.data at_ n):=if_pos rfl;go_enter Tryz.func210,Tryz.ntmps210;go_wp2_with fail;refine (zl1 c.data at_ n _ Gr Cj h1 h2 HA.out).mono ?_;rintro e w1 ⟨rfl,rfl⟩;exact fN
 . have HR:Hid (numB c m at_ n=(zvv c m&&c.num m at_ n)):=if_neg h0
   have HI:=hid (zl2 c s x1 y1 x2 y2 x3 n3 y3 (.iface 133 (.agg #[])) m (w.alloc (.cells #[.string s,.slice x1 c.uses y1,qi c.data,.slice x2 c.parts.length y2,.slice x3 n3 y3,.iface 133 (.agg #[]),qi c.locals] 206)))
   cases hb:zvv c m with
   | false=>
     rw [hb] at HI HR;go_enter Tryz.func210,Tryz.ntmps210;go_wp2_with fail;refine HI.out.mono ?_;rintro e w1 ⟨rfl,A6⟩;have A8:=hid (thenB (al1 w _) A6);clear A6;exact fE
   | true=>
     rw [hb] at HI HR;have Hh:=hid hb;clear hb;go_enter Tryz.func210,Tryz.ntmps210;go_wp2_with fail;refine HI.out.mono ?_;rintro e w1 ⟨rfl,A6⟩;have A8:=hid (thenB (al1 w _) A6);have q1:=(A6.block _ aA).trans (heap_newP w (.cells #[.string s,.slice x1 c.uses y1,qi c.data,.slice x2 c.parts.length y2,.slice x3 n3 y3,.iface 133 (.agg #[]),qi c.locals] 206));obtain ⟨c0,c1,c2,c3,c4,c5,c6,cz⟩:=zam q1;clear A6 q1 c0 c1 c2 c3 c4 c6 HI
     go_wp2_with (go_at_call 327;refine (HU.out.num _ A8.out m at_ n Hh.out HA.out h1 h2).mono ?_;rintro e w2 ⟨rfl,Ab⟩;have Ad:=hid (thenB A8.out Ab);clear Ab)
     exact jR
theorem yag (c:Ck) (s:ByteArray) (x1:OA) (y1:Nat) (x2:OA) (y2:Nat) (x3:OA) (n3 y3:Nat) (m at_:Int) (k:Nat) (w:World) (hP:DAt w Tt x2 c.parts.length (zlu c.parts)) (hu:c.uses<=17592186044416) (hU:UsAt w c 327 328 (.agg #[])) (hm:(Lit.int .i64 m).wf=true) (ha:(Lit.int .i64 at_).wf=true) (hk:k<=17592186044416) :
 qc 212 #[.agg #[.string s,.slice x1 c.uses y1,qi c.data,.slice x2 c.parts.length y2,.slice x3 n3 y3,.iface 133 (.agg #[]),qi c.locals],qi m,qi at_,qi k] w fun e w'=>e = .returned (.bool (zkf c m at_ k))/\qb w w':=by
 have HU:=hid hU;have HA:=hid ha;have HP:=hid hP;have FQ:=hP.bound;clear hU ha hm hP;have n1:=yad;have n2:=yaf
 by_cases h0:m=0
 . subst h0
   have HR:Hid (zkf c 0 at_ k=zvw c.parts at_ k):=if_pos rfl
   by_cases t1:0<=at_
   . obtain ⟨i,rfl⟩:∃ i:Nat,at_=i:=⟨at_.toNat,ae⟩
     by_cases t2:i<c.parts.length
     . obtain ⟨b,off,ab,cb,rfl,hx⟩:=(HP.out.later (al1 w (.cells #[.string s,.slice x1 c.uses y1,qi c.data,.slice x2 c.parts.length y2,.slice x3 n3 y3,.iface 133 (.agg #[]),qi c.locals] 206))).pt i t2
       exact fJ
     . have B9:Hid (zkf c 0 i k=false):=by show _=_;rw [HR.out];unfold zvw;rw [vbq,vbv ae];simp
       have E0:c.parts.length<=i:=ae
       clear t2;exact gr
   . have B9:Hid (zkf c 0 at_ k=false):=by show _=_;rw [HR.out];unfold zvw;rw [decide_eq_false t1];rfl
     have Dh:at_<0:=ae
     clear t1;exact gr
 . have HR:Hid (zkf c m at_ k=(zvv c m&&c.prt m at_ k)):=if_neg h0
   have HI:=hid (zl2 c s x1 y1 x2 y2 x3 n3 y3 (.iface 133 (.agg #[])) m (w.alloc (.cells #[.string s,.slice x1 c.uses y1,qi c.data,.slice x2 c.parts.length y2,.slice x3 n3 y3,.iface 133 (.agg #[]),qi c.locals] 206)))
   cases hb:zvv c m with
   | false=>
     rw [hb] at HI HR;go_enter Tryz.func212,Tryz.ntmps212;go_wp2_with fail;refine HI.out.mono ?_;rintro e w1 ⟨rfl,A6⟩;have A8:=hid (thenB (al1 w _) A6);clear A6;exact fE
   | true=>
     rw [hb] at HI HR;have Hh:=hid hb;clear hb;go_enter Tryz.func212,Tryz.ntmps212;go_wp2_with fail;refine HI.out.mono ?_;rintro e w1 ⟨rfl,A6⟩;have A8:=hid (thenB (al1 w _) A6);have q1:=(A6.block _ aA).trans (heap_newP w (.cells #[.string s,.slice x1 c.uses y1,qi c.data,.slice x2 c.parts.length y2,.slice x3 n3 y3,.iface 133 (.agg #[]),qi c.locals] 206));obtain ⟨c0,c1,c2,c3,c4,c5,c6,cz⟩:=zam q1;clear A6 q1 c0 c1 c2 c3 c4 c6 HI
     go_wp2_with (go_at_call 328;refine (HU.out.prt _ A8.out m at_ k Hh.out HA.out hk).mono ?_;rintro e w2 ⟨rfl,Ab⟩;have Ad:=hid (thenB A8.out Ab);clear Ab)
     exact jR
theorem ckS (c:Ck) (s:ByteArray) (x1:OA) (y1:Nat) (x2:OA) (y2:Nat) (x3:OA) (n3 y3:Nat) (w:World) (Gr:0<=c.data) (Cj:c.data<=512) (hu:c.uses<=17592186044416) (hP:DAt w Tt x2 c.parts.length (zlu c.parts)) (hU:UsAt w c 327 328 (.agg #[])):CkAt w c (.agg #[.string s,.slice x1 c.uses y1,qi c.data,.slice x2 c.parts.length y2,.slice x3 n3 y3,.iface 133 (.agg #[]),qi c.locals]):=
 ⟨fun W hW m at_ n h1 h2 h3 h4=>z32 c s x1 y1 x2 y2 x3 n3 y3 m at_ n W Gr Cj hu (hU.later hW) h1 h2 h3 h4,fun W hW m at_ k h1 h2 h3=>yag c s x1 y1 x2 y2 x3 n3 y3 m at_ k W (hP.later hW) hu (hU.later hW) h1 h2 h3⟩
set_option maxHeartbeats 3200000
theorem zhn (c:Ck) (s:ByteArray) (x1:OA) (y1:Nat) (x2:OA) (y2:Nat) (x3:OA) (n3 y3:Nat) (iv:Value) (n m at_:Int) (w:World) (hC:CkAt w c (.agg #[.string s,.slice x1 c.uses y1,qi c.data,.slice x2 c.parts.length y2,.slice x3 n3 y3,iv,qi c.locals])) (hm:(Lit.int .i64 m).wf=true) (ha:(Lit.int .i64 at_).wf=true) :
 qc 211 #[.agg #[.string s,.slice x1 c.uses y1,qi c.data,.slice x2 c.parts.length y2,.slice x3 n3 y3,iv,qi c.locals],qi n,qi m,qi at_] w fun e w'=>e = .returned (.bool (z0w c n m at_))/\qb w w':=by
 have HN:=hid (fun h1 h2=>hC.num (w.alloc (.cells #[.string s,.slice x1 c.uses y1,qi c.data,.slice x2 c.parts.length y2,.slice x3 n3 y3,iv,qi c.locals] 206)) (al1 _ _) m at_ n hm ha h1 h2);clear hC hm ha
 by_cases h1:1<=n
 . by_cases h2:n<=32
   . have HR:Hid (z0w c n m at_=numB c m at_ n):=by show _=_;unfold z0w;rw [decide_eq_true ⟨h1,h2⟩];rfl
     go_enter Tryz.func211,Tryz.ntmps211;go_wp2_with fail;refine (HN.out h1 h2).mono ?_;rintro e w1 ⟨rfl,A6⟩;have A8:=hid (thenB (al1 w _) A6);clear A6;exact fE
   . have HR:Hid (z0w c n m at_=false):=by show _=_;unfold z0w;rw [decide_eq_false ae];rfl
     have Gz:32<n:=ae
     clear h2 HN;go_enter Tryz.func211,Tryz.ntmps211;exact fN
 . have HR:Hid (z0w c n m at_=false):=by show _=_;unfold z0w;rw [decide_eq_false ae];rfl
   have Dn:n<1:=ae
   clear h1 HN;go_enter Tryz.func211,Tryz.ntmps211;exact fN
theorem zpw (c:Ck) (s:ByteArray) (x1:OA) (y1:Nat) (x2:OA) (y2:Nat) (x3:OA) (n3 y3:Nat) (iv:Value) (x:Nd) (aa:OA) (cp:Nat) (w:World) (hC:CkAt w c (.agg #[.string s,.slice x1 c.uses y1,qi c.data,.slice x2 c.parts.length y2,.slice x3 n3 y3,iv,qi c.locals])) (hm:(Lit.int .i64 x.m).wf=true) (ha:(Lit.int .i64 x.at_).wf=true) (hl:x.args.length<=17592186044416) :
 qc 213 #[.agg #[.string s,.slice x1 c.uses y1,qi c.data,.slice x2 c.parts.length y2,.slice x3 n3 y3,iv,qi c.locals],.agg #[qi x.op,qi x.n,qi x.m,qi x.at_,.slice aa x.args.length cp]] w fun e w'=>e = .returned (.bool (zay c x))/\qb w w':=by
 obtain ⟨op,n,m,at_,args⟩:=x;simp only [Nd.op,Nd.n,Nd.m,Nd.at_,Nd.args] at *;have HC:=hid hC;have HM:=hid hm;have HA:=hid ha;clear hC hm ha
 by_cases o3:op=3
 . subst o3
   by_cases t2:args.length=0
   . by_cases t1:n=0
     . have HR:Hid (zay c (.mk 3 n m at_ args)=numB c m at_ 1):=by show _=_;unfold zay;simp only [Nd.op,Nd.n,Nd.m,Nd.at_,Nd.args];simp [*]
       go_enter Tryz.func213,Tryz.ntmps213;go_wp2_with fail;refine (HC.out.num _ (al2 _ _ _) m at_ 1 HM.out HA.out aq aq).mono ?_;rintro e w1 ⟨rfl,A6⟩;have A8:=hid (thenB (al2 w _ _) A6);clear A6;exact fE
     . have HR:Hid (zay c (.mk 3 n m at_ args)=false):=by show _=_;unfold zay;simp only [Nd.op,Nd.n,Nd.m,Nd.at_,Nd.args];simp [*]
       have t':n≠0:=ae
       clear t1;go_enter Tryz.func213,Tryz.ntmps213;exact fz
   . have HR:Hid (zay c (.mk 3 n m at_ args)=false):=by show _=_;unfold zay;simp only [Nd.op,Nd.n,Nd.m,Nd.at_,Nd.args];simp [*]
     have t':args.length≠0:=ae
     clear t2;go_enter Tryz.func213,Tryz.ntmps213;exact fz
 by_cases o4:op=4
 . subst o4
   by_cases t1:args.length=1
   . have HR:Hid (zay c (.mk 4 n m at_ args)=z0w c n m at_):=by show _=_;unfold zay;simp only [Nd.op,Nd.n,Nd.m,Nd.at_,Nd.args];simp [*]
     go_enter Tryz.func213,Tryz.ntmps213;go_wp2_with fail;refine (zhn c s x1 y1 x2 y2 x3 n3 y3 iv n m at_ _ (HC.out.later (al2 _ _ _)) HM.out HA.out).mono ?_;rintro e w1 ⟨rfl,A6⟩;have A8:=hid (thenB (al2 w _ _) A6);clear A6;exact fE
   . have HR:Hid (zay c (.mk 4 n m at_ args)=false):=by show _=_;unfold zay;simp only [Nd.op,Nd.n,Nd.m,Nd.at_,Nd.args];simp [*]
     have t':args.length≠1:=ae
     clear t1;go_enter Tryz.func213,Tryz.ntmps213;exact fz
 by_cases o5:op=5
 . subst o5
   by_cases t1:n=0
   . have HR:Hid (zay c (.mk 5 n m at_ args)=zkf c m at_ args.length):=by show _=_;unfold zay;simp only [Nd.op,Nd.n,Nd.m,Nd.at_,Nd.args];simp [*]
     go_enter Tryz.func213,Tryz.ntmps213;go_wp2_with fail;refine (HC.out.prt _ (al2 _ _ _) m at_ args.length HM.out HA.out hl).mono ?_;rintro e w1 ⟨rfl,A6⟩;have A8:=hid (thenB (al2 w _ _) A6);clear A6;exact fE
   . have HR:Hid (zay c (.mk 5 n m at_ args)=false):=by show _=_;unfold zay;simp only [Nd.op,Nd.n,Nd.m,Nd.at_,Nd.args];simp [*]
     have t':n≠0:=ae
     clear t1;go_enter Tryz.func213,Tryz.ntmps213;exact fz
 by_cases Pd:op=16
 . subst Pd
   by_cases t3:args.length=0
   . by_cases t2:n=0
     . by_cases t1:m=0
       . have HR:Hid (zay c (.mk 16 n m at_ args)=zx2 c at_):=by show _=_;unfold zay;simp only [Nd.op,Nd.n,Nd.m,Nd.at_,Nd.args];simp [*]
         go_enter Tryz.func213,Tryz.ntmps213;go_wp2_with fail;refine (zhm c s x1 y1 x2 y2 x3 n3 y3 iv at_ _).mono ?_;rintro e w1 ⟨rfl,A6⟩;have A8:=hid (thenB (al2 w _ _) A6);clear A6;exact fE
       . have HR:Hid (zay c (.mk 16 n m at_ args)=false):=by show _=_;unfold zay;simp only [Nd.op,Nd.n,Nd.m,Nd.at_,Nd.args];simp [*]
         have t':m≠0:=ae
         clear t1;go_enter Tryz.func213,Tryz.ntmps213;exact fz
     . have HR:Hid (zay c (.mk 16 n m at_ args)=false):=by show _=_;unfold zay;simp only [Nd.op,Nd.n,Nd.m,Nd.at_,Nd.args];simp [*]
       have t':n≠0:=ae
       clear t2;go_enter Tryz.func213,Tryz.ntmps213;exact fz
   . have HR:Hid (zay c (.mk 16 n m at_ args)=false):=by show _=_;unfold zay;simp only [Nd.op,Nd.n,Nd.m,Nd.at_,Nd.args];simp [*]
     have t':args.length≠0:=ae
     clear t3;go_enter Tryz.func213,Tryz.ntmps213;exact fz
 by_cases o1:op=1
 . subst o1
   by_cases t5:args.length=0
   . by_cases t4:0<=n
     . by_cases t3:n<=1099511627775
       . by_cases t2:m=0
         . by_cases t1:at_=0
           . have HR:Hid (zay c (.mk 1 n m at_ args)=true):=by show _=_;unfold zay;simp only [Nd.op,Nd.n,Nd.m,Nd.at_,Nd.args];simp [*]
             go_enter Tryz.func213,Tryz.ntmps213;exact fz
           . have HR:Hid (zay c (.mk 1 n m at_ args)=false):=by show _=_;unfold zay;simp only [Nd.op,Nd.n,Nd.m,Nd.at_,Nd.args];simp [*]
             have t':at_≠0:=ae
             clear t1;go_enter Tryz.func213,Tryz.ntmps213;go_wp2_with fail;go_ret;exact ⟨ret_bool aJ,al2 _ _ _⟩
         . have HR:Hid (zay c (.mk 1 n m at_ args)=false):=by show _=_;unfold zay;simp only [Nd.op,Nd.n,Nd.m,Nd.at_,Nd.args];simp [*]
           have t':m≠0:=ae
           clear t2;go_enter Tryz.func213,Tryz.ntmps213;exact fz
       . have HR:Hid (zay c (.mk 1 n m at_ args)=false):=by show _=_;unfold zay;simp only [Nd.op,Nd.n,Nd.m,Nd.at_,Nd.args];simp [*]
         have t':1099511627775<n:=ae
         clear t3;go_enter Tryz.func213,Tryz.ntmps213;exact fz
     . have HR:Hid (zay c (.mk 1 n m at_ args)=false):=by show _=_;unfold zay;simp only [Nd.op,Nd.n,Nd.m,Nd.at_,Nd.args];simp [*]
       have t':n<0:=ae
       clear t4;go_enter Tryz.func213,Tryz.ntmps213;exact fz
   . have HR:Hid (zay c (.mk 1 n m at_ args)=false):=by show _=_;unfold zay;simp only [Nd.op,Nd.n,Nd.m,Nd.at_,Nd.args];simp [*]
     have t':args.length≠0:=ae
     clear t5;go_enter Tryz.func213,Tryz.ntmps213;exact fz
 have HQ:Hid (zay c (.mk op n m at_ args)=(decide ((args.length:Int)=argsOf op)&&(decide (n=0)&&(decide (m=0)&&decide (at_=0))))):=by
  show _=_;unfold zay;exact (if_neg o3).trans ((if_neg o4).trans ((if_neg o5).trans ((if_neg Pd).trans (if_neg o1))))
 have HG:=hid (zxg op);generalize argsOf op=g at *
 by_cases t4:(args.length:Int)=g
 . by_cases t3:n=0
   . by_cases t2:m=0
     . by_cases t1:at_=0
       . have HR:Hid (zay c (.mk op n m at_ args)=true):=by show _=_;rw [HQ.out];simp [*]
         go_enter Tryz.func213,Tryz.ntmps213;go_wp2_with fail;refine (HG.out _).mono ?_;rintro e w1 ⟨rfl,rfl⟩;exact fz
       . have HR:Hid (zay c (.mk op n m at_ args)=false):=by show _=_;rw [HQ.out];simp [*]
         have t':at_≠0:=ae
         clear t1;go_enter Tryz.func213,Tryz.ntmps213;go_wp2_with fail;refine (HG.out _).mono ?_;rintro e w1 ⟨rfl,rfl⟩;go_wp2_with fail;go_ret;exact ⟨ret_bool aJ,al2 _ _ _⟩
     . have HR:Hid (zay c (.mk op n m at_ args)=false):=by show _=_;rw [HQ.out];simp [*]
       have t':m≠0:=ae
       clear t2;go_enter Tryz.func213,Tryz.ntmps213;go_wp2_with fail;refine (HG.out _).mono ?_;rintro e w1 ⟨rfl,rfl⟩;exact fz
   . have HR:Hid (zay c (.mk op n m at_ args)=false):=by show _=_;rw [HQ.out];simp [*]
     have t':n≠0:=ae
     clear t3;go_enter Tryz.func213,Tryz.ntmps213;go_wp2_with fail;refine (HG.out _).mono ?_;rintro e w1 ⟨rfl,rfl⟩;exact fz
 . have HR:Hid (zay c (.mk op n m at_ args)=false):=by show _=_;rw [HQ.out];simp [*]
   have t':(args.length:Int)≠g:=ae
   clear t4;go_enter Tryz.func213,Tryz.ntmps213;go_wp2_with fail;refine (HG.out _).mono ?_;rintro e w1 ⟨rfl,rfl⟩;exact fz
theorem zru (c:Ck) (s:ByteArray) (x1:OA) (y1:Nat) (x2:OA) (y2:Nat) (x3:OA) (n3 y3:Nat) (iv:Value) (x:Ac) (aa:OA) (cp:Nat) (ab:OA) (cb:Nat) (ao:OA) (co:Nat) (w:World) (hC:CkAt w c (.agg #[.string s,.slice x1 c.uses y1,qi c.data,.slice x2 c.parts.length y2,.slice x3 n3 y3,iv,qi c.locals])) (hm:(Lit.int .i64 x.m).wf=true) (ha:(Lit.int .i64 x.at_).wf=true) (hl:x.args.length<=17592186044416) :
 qc 169 #[.agg #[.string s,.slice x1 c.uses y1,qi c.data,.slice x2 c.parts.length y2,.slice x3 n3 y3,iv,qi c.locals],.agg #[qi x.op,qi x.n,qi x.m,qi x.at_,.slice aa x.args.length cp,.slice ab x.body.length cb,.slice ao x.other.length co]] w fun e w'=>e = .returned (.bool (zcb c x))/\qb w w':=by
 obtain ⟨op,n,m,at_,args,body,other⟩:=x;simp only [Ac.op,Ac.n,Ac.m,Ac.at_,Ac.args,Ac.body,Ac.other] at *;have HC:=hid hC;have HM:=hid hm;have HA:=hid ha;clear hC hm ha
 by_cases o1:op=1
 . subst o1
   by_cases om:m = -1
   . subst om
     by_cases t2:args.length=1
     . by_cases t1:n=0
       . have HR:Hid (zcb c (.mk 1 n (-1) at_ args body other)=zx2 c at_):=by show _=_;unfold zcb;simp only [Ac.op,Ac.n,Ac.m,Ac.at_,Ac.args];simp [*]
         go_enter Tryz.func169,Tryz.ntmps169;go_wp2_with fail;refine (zhm c s x1 y1 x2 y2 x3 n3 y3 iv at_ _).mono ?_;rintro e w1 ⟨rfl,A6⟩;have A8:=hid (thenB (al2 w _ _) A6);clear A6;exact fE
       . have HR:Hid (zcb c (.mk 1 n (-1) at_ args body other)=false):=by show _=_;unfold zcb;simp only [Ac.op,Ac.n,Ac.m,Ac.at_,Ac.args];simp [*]
         have t':n≠0:=ae
         clear t1;go_enter Tryz.func169,Tryz.ntmps169;exact fz
     . have HR:Hid (zcb c (.mk 1 n (-1) at_ args body other)=false):=by show _=_;unfold zcb;simp only [Ac.op,Ac.n,Ac.m,Ac.at_,Ac.args];simp [*]
       have t':args.length≠1:=ae
       clear t2;go_enter Tryz.func169,Tryz.ntmps169;exact fz
   . by_cases t2:args.length=1
     . by_cases t1:n=0
       . have HR:Hid (zcb c (.mk 1 n m at_ args body other)=numB c m at_ 1):=by show _=_;unfold zcb;simp only [Ac.op,Ac.n,Ac.m,Ac.at_,Ac.args];simp [*]
         go_enter Tryz.func169,Tryz.ntmps169;go_wp2_with fail;refine (HC.out.num _ (al2 _ _ _) m at_ 1 HM.out HA.out aq aq).mono ?_;rintro e w1 ⟨rfl,A6⟩;have A8:=hid (thenB (al2 w _ _) A6);clear A6;exact fE
       . have HR:Hid (zcb c (.mk 1 n m at_ args body other)=false):=by show _=_;unfold zcb;simp only [Ac.op,Ac.n,Ac.m,Ac.at_,Ac.args];simp [*]
         have t':n≠0:=ae
         clear t1;go_enter Tryz.func169,Tryz.ntmps169;exact fz
     . have HR:Hid (zcb c (.mk 1 n m at_ args body other)=false):=by show _=_;unfold zcb;simp only [Ac.op,Ac.n,Ac.m,Ac.at_,Ac.args];simp [*]
       have t':args.length≠1:=ae
       clear t2;go_enter Tryz.func169,Tryz.ntmps169;exact fz
 by_cases o2:op=2
 . subst o2
   by_cases t1:args.length=2
   . have HR:Hid (zcb c (.mk 2 n m at_ args body other)=z0w c n m at_):=by show _=_;unfold zcb;simp only [Ac.op,Ac.n,Ac.m,Ac.at_,Ac.args];simp [*]
     go_enter Tryz.func169,Tryz.ntmps169;go_wp2_with fail;refine (zhn c s x1 y1 x2 y2 x3 n3 y3 iv n m at_ _ (HC.out.later (al2 _ _ _)) HM.out HA.out).mono ?_;rintro e w1 ⟨rfl,A6⟩;have A8:=hid (thenB (al2 w _ _) A6);clear A6;exact fE
   . have HR:Hid (zcb c (.mk 2 n m at_ args body other)=false):=by show _=_;unfold zcb;simp only [Ac.op,Ac.n,Ac.m,Ac.at_,Ac.args];simp [*]
     have t':args.length≠2:=ae
     clear t1;go_enter Tryz.func169,Tryz.ntmps169;exact fz
 by_cases o3:op=3
 . subst o3
   by_cases t1:n=0
   . have HR:Hid (zcb c (.mk 3 n m at_ args body other)=zkf c m at_ args.length):=by show _=_;unfold zcb;simp only [Ac.op,Ac.n,Ac.m,Ac.at_,Ac.args];simp [*]
     go_enter Tryz.func169,Tryz.ntmps169;go_wp2_with fail;refine (HC.out.prt _ (al2 _ _ _) m at_ args.length HM.out HA.out hl).mono ?_;rintro e w1 ⟨rfl,A6⟩;have A8:=hid (thenB (al2 w _ _) A6);clear A6;exact fE
   . have HR:Hid (zcb c (.mk 3 n m at_ args body other)=false):=by show _=_;unfold zcb;simp only [Ac.op,Ac.n,Ac.m,Ac.at_,Ac.args];simp [*]
     have t':n≠0:=ae
     clear t1;go_enter Tryz.func169,Tryz.ntmps169;exact fz
 by_cases o4:op=4
 . subst o4
   by_cases t4:args.length=1
   . by_cases t3:n=0
     . by_cases t2:m=0
       . by_cases t1:at_=0
         . have HR:Hid (zcb c (.mk 4 n m at_ args body other)=true):=by show _=_;unfold zcb;simp only [Ac.op,Ac.n,Ac.m,Ac.at_,Ac.args];simp [*]
           go_enter Tryz.func169,Tryz.ntmps169;exact fz
         . have HR:Hid (zcb c (.mk 4 n m at_ args body other)=false):=by show _=_;unfold zcb;simp only [Ac.op,Ac.n,Ac.m,Ac.at_,Ac.args];simp [*]
           exact f7
       . have HR:Hid (zcb c (.mk 4 n m at_ args body other)=false):=by show _=_;unfold zcb;simp only [Ac.op,Ac.n,Ac.m,Ac.at_,Ac.args];simp [*]
         have t':m≠0:=ae
         clear t2;go_enter Tryz.func169,Tryz.ntmps169;exact fz
     . have HR:Hid (zcb c (.mk 4 n m at_ args body other)=false):=by show _=_;unfold zcb;simp only [Ac.op,Ac.n,Ac.m,Ac.at_,Ac.args];simp [*]
       have t':n≠0:=ae
       clear t3;go_enter Tryz.func169,Tryz.ntmps169;exact fz
   . have HR:Hid (zcb c (.mk 4 n m at_ args body other)=false):=by show _=_;unfold zcb;simp only [Ac.op,Ac.n,Ac.m,Ac.at_,Ac.args];simp [*]
     have t':args.length≠1:=ae
     clear t4;go_enter Tryz.func169,Tryz.ntmps169;exact fz
 by_cases o5:op=5
 . subst o5
   by_cases t4:args.length=1
   . by_cases t3:n=0
     . by_cases t2:m=0
       . by_cases t1:at_=0
         . have HR:Hid (zcb c (.mk 5 n m at_ args body other)=true):=by show _=_;unfold zcb;simp only [Ac.op,Ac.n,Ac.m,Ac.at_,Ac.args];simp [*]
           go_enter Tryz.func169,Tryz.ntmps169;exact fz
         . have HR:Hid (zcb c (.mk 5 n m at_ args body other)=false):=by show _=_;unfold zcb;simp only [Ac.op,Ac.n,Ac.m,Ac.at_,Ac.args];simp [*]
           exact f7
       . have HR:Hid (zcb c (.mk 5 n m at_ args body other)=false):=by show _=_;unfold zcb;simp only [Ac.op,Ac.n,Ac.m,Ac.at_,Ac.args];simp [*]
         have t':m≠0:=ae
         clear t2;go_enter Tryz.func169,Tryz.ntmps169;exact fz
     . have HR:Hid (zcb c (.mk 5 n m at_ args body other)=false):=by show _=_;unfold zcb;simp only [Ac.op,Ac.n,Ac.m,Ac.at_,Ac.args];simp [*]
       have t':n≠0:=ae
       clear t3;go_enter Tryz.func169,Tryz.ntmps169;exact fz
   . have HR:Hid (zcb c (.mk 5 n m at_ args body other)=false):=by show _=_;unfold zcb;simp only [Ac.op,Ac.n,Ac.m,Ac.at_,Ac.args];simp [*]
     have t':args.length≠1:=ae
     clear t4;go_enter Tryz.func169,Tryz.ntmps169;exact fz
 by_cases o6:op=6
 . subst o6
   by_cases t4:args.length=1
   . by_cases t3:n=0
     . by_cases t2:m=0
       . by_cases t1:at_=0
         . have HR:Hid (zcb c (.mk 6 n m at_ args body other)=true):=by show _=_;unfold zcb;simp only [Ac.op,Ac.n,Ac.m,Ac.at_,Ac.args];simp [*]
           go_enter Tryz.func169,Tryz.ntmps169;exact fz
         . have HR:Hid (zcb c (.mk 6 n m at_ args body other)=false):=by show _=_;unfold zcb;simp only [Ac.op,Ac.n,Ac.m,Ac.at_,Ac.args];simp [*]
           exact f7
       . have HR:Hid (zcb c (.mk 6 n m at_ args body other)=false):=by show _=_;unfold zcb;simp only [Ac.op,Ac.n,Ac.m,Ac.at_,Ac.args];simp [*]
         have t':m≠0:=ae
         clear t2;go_enter Tryz.func169,Tryz.ntmps169;exact fz
     . have HR:Hid (zcb c (.mk 6 n m at_ args body other)=false):=by show _=_;unfold zcb;simp only [Ac.op,Ac.n,Ac.m,Ac.at_,Ac.args];simp [*]
       have t':n≠0:=ae
       clear t3;go_enter Tryz.func169,Tryz.ntmps169;exact fz
   . have HR:Hid (zcb c (.mk 6 n m at_ args body other)=false):=by show _=_;unfold zcb;simp only [Ac.op,Ac.n,Ac.m,Ac.at_,Ac.args];simp [*]
     have t':args.length≠1:=ae
     clear t4;go_enter Tryz.func169,Tryz.ntmps169;exact fz
 by_cases o7:op=7
 . subst o7
   by_cases t4:args.length=1
   . by_cases t3:n=0
     . by_cases t2:m=0
       . by_cases t1:at_=0
         . have HR:Hid (zcb c (.mk 7 n m at_ args body other)=true):=by show _=_;unfold zcb;simp only [Ac.op,Ac.n,Ac.m,Ac.at_,Ac.args];simp [*]
           go_enter Tryz.func169,Tryz.ntmps169;exact fz
         . have HR:Hid (zcb c (.mk 7 n m at_ args body other)=false):=by show _=_;unfold zcb;simp only [Ac.op,Ac.n,Ac.m,Ac.at_,Ac.args];simp [*]
           exact f7
       . have HR:Hid (zcb c (.mk 7 n m at_ args body other)=false):=by show _=_;unfold zcb;simp only [Ac.op,Ac.n,Ac.m,Ac.at_,Ac.args];simp [*]
         have t':m≠0:=ae
         clear t2;go_enter Tryz.func169,Tryz.ntmps169;exact fz
     . have HR:Hid (zcb c (.mk 7 n m at_ args body other)=false):=by show _=_;unfold zcb;simp only [Ac.op,Ac.n,Ac.m,Ac.at_,Ac.args];simp [*]
       have t':n≠0:=ae
       clear t3;go_enter Tryz.func169,Tryz.ntmps169;exact fz
   . have HR:Hid (zcb c (.mk 7 n m at_ args body other)=false):=by show _=_;unfold zcb;simp only [Ac.op,Ac.n,Ac.m,Ac.at_,Ac.args];simp [*]
     have t':args.length≠1:=ae
     clear t4;go_enter Tryz.func169,Tryz.ntmps169;exact fz
 have HR:Hid (zcb c (.mk op n m at_ args body other)=false):=by
  show _=_;unfold zcb;exact (if_neg o1).trans ((if_neg o2).trans ((if_neg o3).trans (if_neg (by show ¬ (4<=op/\op<=7);omega))))
 go_enter Tryz.func169,Tryz.ntmps169;exact fz
set_option maxHeartbeats 1600000
theorem ziv (c:Ck) (s:ByteArray) (x1:OA) (y1:Nat) (x2:OA) (y2:Nat) (x3:OA) (n3 y3:Nat) (iv:Value) (a:OA) (cap:Nat) (Ae:Int) (w:World) :
 qc 170 #[.agg #[.string s,.slice x1 c.uses y1,qi c.data,.slice x2 c.parts.length y2,.slice x3 n3 y3,iv,qi c.locals],.slice a 0 cap,qi Ae] w fun e w'=>e = .returned (.bool true)/\qb w w':=by
 go_enter Tryz.func170,Tryz.ntmps170;go_wp2_with fail
 go_loopw [18] (fun i wr=>i=qi 0/\qb w wr) (fun _ _=>0)
 case atStart=>exact ⟨rfl,al1 _ _⟩
 case round=>
  obtain ⟨rfl,hb⟩:=hrel;have HB:=hid hb;clear hb;go_wp2_with fail;go_ret;exact ⟨rfl,HB.out⟩
theorem zm6 (c:Ck) (s:ByteArray) (x1:OA) (y1:Nat) (x2:OA) (y2:Nat) (x3:OA) (n3 y3:Nat) (iv:Value) (a:OA) (n cap:Nat) (w:World) (hn:0<n) :
 qc 170 #[.agg #[.string s,.slice x1 c.uses y1,qi c.data,.slice x2 c.parts.length y2,.slice x3 n3 y3,iv,qi c.locals],.slice a n cap,qi 7] w fun e w'=>e = .returned (.bool false)/\qb w w':=by
 go_enter Tryz.func170,Tryz.ntmps170;exact jk
theorem z33 (c:Ck) (k:Nat):zgy c k []=true:=by cases k<;>simp [zgy]
theorem ziw (c:Ck) (s:ByteArray) (x1:OA) (y1:Nat) (x2:OA) (y2:Nat) (x3:OA) (n3 y3:Nat) (iv:Value):∀ (k:Nat),k<=6->∀ (l:List Nd) (A:Nat->Prop) (a:OA) (cap:Nat) (Ae:Int) (w:World),Ae=7 - (k:Int)->DAt w A a l.length (zdn l)->CkAt w c (.agg #[.string s,.slice x1 c.uses y1,qi c.data,.slice x2 c.parts.length y2,.slice x3 n3 y3,iv,qi c.locals])->
 qc 170 #[.agg #[.string s,.slice x1 c.uses y1,qi c.data,.slice x2 c.parts.length y2,.slice x3 n3 y3,iv,qi c.locals],.slice a l.length cap,qi Ae] w fun e w'=>e = .returned (.bool (zgy c k l))/\qb w w'
 | 0,_,l,A,a,cap,Ae,w,hd,_,_=>by
   obtain rfl:Ae=7:=ae
   rcases vde l.length with h0 | h0
   . obtain rfl:=vam h0
     exact ziv c s x1 y1 x2 y2 x3 n3 y3 iv a cap 7 w
   . have:zgy c 0 l=false:=by simp only [zgy];exact decide_eq_false ae
     rw [this];exact zm6 c s x1 y1 x2 y2 x3 n3 y3 iv a l.length cap w h0
 | k + 1, hk,l,A,a,cap,Ae,w,hd,hD,hC=>by
   have HI:=hid (fun (l:List Nd) (A:Nat->Prop) (a:OA) (cap:Nat) (w:World)=>ziw c s x1 y1 x2 y2 x3 n3 y3 iv k ae l A a cap (Ae+1) w ae)
   rcases vde l.length with h0 | h0
   . obtain rfl:=vam h0
     rw [z33];exact ziv c s x1 y1 x2 y2 x3 n3 y3 iv a cap Ae w
   have HR:Hid (zgy c (k+1) l=l.all (fun x=>zay c x&&zgy c k x.args)):=by show _=_;simp [zgy]
   have Bz:=hD.bound
   have Cj:1<=Ae:=ae
   have Ko:Ae<=6:=ae
   have HD:=hid hD;have HC:=hid hC;clear hD hC hd;go_enter Tryz.func170,Tryz.ntmps170;go_wp2_with fail
   go_loopw [18] (fun i wr=>∃ j:Nat,j<=l.length/\i=qi j/\(l.take j).all (fun x=>zay c x&&zgy c k x.args)=true/\qb w wr/\wr.heap[w.heap.size]? = some (.cells #[.string s,.slice x1 c.uses y1,qi c.data,.slice x2 c.parts.length y2,.slice x3 n3 y3,iv,qi c.locals] 206)) (fun i _=>l.length - (intOf i).toNat)
   case atStart=>exact ⟨0,vaf _,rfl,rfl,al1 _ _,heap_newP _ _⟩
   case round=>
    obtain ⟨j,hj,rfl,A7,hb,hB⟩:=hrel;obtain ⟨q0,q1,q2,q3,q4,q5,q6,qz⟩:=zam hB;have HB:=hid hb;have HX:=hid hB;have HL:=hid A7;clear A7 hB hb
    by_cases A0:j<l.length
    . obtain ⟨b,off,aa,cp,rfl,hx⟩:=(HD.out.later HB.out).nd j A0
      have HF:=hid (fun (h:(zay c l[j]&&zgy c k l[j].args)=false)=>all_not l (fun x=>zay c x&&zgy c k x.args) j A0 h);have HT:=hid (fun (h:(zay c l[j]&&zgy c k l[j].args)=true)=>(by rw [all_snoc l _ j A0,HL.out,h];rfl:(l.take (j+1)).all (fun x=>zay c x&&zgy c k x.args)=true));obtain ⟨Av,x0,x1',x2',LD,x4,hargs,_,_,hm,AH⟩:=hx;have HA:=hid hargs;have Ee:=hargs.bound;have HM:=hid hm;have GQ:=hid AH;clear hargs hm AH;generalize l[j]=x at *;go_wp2_with fail;refine (zpw c s x1 y1 x2 y2 x3 n3 y3 iv x aa cp _ (HC.out.later (thenB HB.out (al1 _ _))) HM.out GQ.out Ee).mono ?_
      cases h1:zay c x with
      | false=>
        rintro e w3 ⟨rfl,A9⟩;have Af:=hid (thenB HB.out (thenB (al1 _ _) A9));have Bj:=hid (HF.out (by rw [h1];rfl));clear A9;go_wp2_with fail;go_ret;exact ⟨ret_bool eA,Af.out⟩
      | true=>
        rintro e w3 ⟨rfl,A9⟩;have Af:=hid (thenB (al1 wr _) A9);have p1:=(Af.out.block _ (lt_of_heap HX.out)).trans HX.out;have p2:=(A9.block _ aA).trans (heap_newP wr (kzF x.op x.n x.m x.at_ aa x.args.length cp));have CX:=hid p1;clear q0 q1 q2 q3 q4 q5 q6 qz x0 x1' x2' LD x4 Av;obtain ⟨q0,q1,q2,q3,q4,q5,q6,qz⟩:=zam p1;obtain ⟨z0,z1,z2,z3,z4,_⟩:=zaa p2;have zz:=lt_of_heap p2;clear A9 p1 p2;go_wp2_with fail;refine (HI.out x.args A aa cp _ (HA.out.later Af.out) (HC.out.later (thenB HB.out Af.out))).mono ?_
        cases h2:zgy c k x.args with
        | false=>
          rintro e w4 ⟨rfl,Aj⟩;have Ap:=hid (thenB (thenB HB.out Af.out) Aj);have Bj:=hid (HF.out (by rw [h1,h2];rfl));clear Aj;go_wp2_with fail;go_ret;exact ⟨ret_bool eA,Ap.out⟩
        | true=>
          rintro e w4 ⟨rfl,Aj⟩;have Ap:=hid (thenB (thenB HB.out Af.out) Aj);have Ei:=hid ((Aj.block _ (lt_of_heap CX.out)).trans CX.out);have Bc:=hid (HT.out (by rw [h1,h2];rfl));clear Aj;go_wp2_with fail;go_roundw
          case rel=>exact ⟨j+1,ae,aR,Bc.out,Ap.out,Ei.out⟩
          case measure=>simp [intOf];omega
    . have HT:Hid (l.all (fun x=>zay c x&&zgy c k x.args)=true):=zcx HL.out A0
      go_wp2_with fail;go_ret;exact ⟨ret_bool dE,HB.out⟩
set_option maxHeartbeats 3200000
def z10 (c:Ck) (k:Nat) (a:Ac):Bool:=if a.op=4 then ze1 c k a.body&&ze1 c k a.other else if a.op=5 then ze1 c k a.body&&decide (a.other.length=0) else decide (a.body.length=0)&&decide (a.other.length=0)
def zpx (c:Ck) (cv:Value) (k:Nat):Prop:=∀ (l:List Ac) (A:Nat->Prop) (a:OA) (cap:Nat) (Ae:Int) (w:World),Ae=7 - (k:Int)->DAt w A a l.length (zdu l)->CkAt w c cv->
    qc 128 #[cv,.slice a l.length cap,qi Ae] w fun e w'=>e = .returned (.bool (ze1 c k l))/\qb w w'
theorem zm7 (c:Ck) (s:ByteArray) (x1:OA) (y1:Nat) (x2:OA) (y2:Nat) (x3:OA) (n3 y3:Nat) (iv:Value) (k:Nat) (hk:k<=6) (ih:zpx c (.agg #[.string s,.slice x1 c.uses y1,qi c.data,.slice x2 c.parts.length y2,.slice x3 n3 y3,iv,qi c.locals]) k) (x:Ac) (A:Nat->Prop) (aa:OA) (cp:Nat) (ab:OA) (cb:Nat) (ao:OA) (co:Nat) (Ae:Int) (w:World) (hd:Ae=7 - (k:Int)) (hB:DAt w A ab x.body.length (zdu x.body)) (hO:DAt w A ao x.other.length (zdu x.other)) (hC:CkAt w c (.agg #[.string s,.slice x1 c.uses y1,qi c.data,.slice x2 c.parts.length y2,.slice x3 n3 y3,iv,qi c.locals])) :
 qc 171 #[.agg #[.string s,.slice x1 c.uses y1,qi c.data,.slice x2 c.parts.length y2,.slice x3 n3 y3,iv,qi c.locals],.agg #[qi x.op,qi x.n,qi x.m,qi x.at_,.slice aa x.args.length cp,.slice ab x.body.length cb,.slice ao x.other.length co],qi Ae] w fun e w'=>e = .returned (.bool (z10 c k x))/\qb w w':=by
 have HI:=hid (fun l A a cap w=>ih l A a cap Ae w hd);have Jp:=hB.bound;have Je:=hO.bound;have HB:=hid hB;have HO:=hid hO;have HC:=hid hC;clear ih hB hO hC hd
 by_cases o4:x.op=4
 . have HR:Hid (z10 c k x=(ze1 c k x.body&&ze1 c k x.other)):=if_pos o4
   go_enter Tryz.func171,Tryz.ntmps171;go_wp2_with fail;refine (HI.out x.body A ab cb _ (HB.out.later (al2 _ _ _)) (HC.out.later (al2 _ _ _))).mono ?_
   cases h1:ze1 c k x.body with
   | false=>
     exact iy
   | true=>
     rintro e w3 ⟨rfl,A9⟩;have Af:=hid (thenB (al2 w _ _) A9);have p1:=(A9.block w.heap.size aF).trans (zab (heap_newP w (.cells #[.string s,.slice x1 c.uses y1,qi c.data,.slice x2 c.parts.length y2,.slice x3 n3 y3,iv,qi c.locals] 206)));have p2:=(A9.block (w.heap.size+1) aA).trans (z82 w _ _);obtain ⟨q0,q1,q2,q3,q4,q5,q6,qz⟩:=zam p1;obtain ⟨z0,z1,z2,z3,z4,z5,z6,zz⟩:=zam p2;clear A9 p1 p2;go_wp2_with fail;refine (HI.out x.other A ao co _ (HO.out.later Af.out) (HC.out.later Af.out)).mono ?_;rintro e w4 ⟨rfl,Aj⟩;have Ap:=hid (thenB Af.out Aj);clear Aj;go_wp2_with fail;go_ret;exact ⟨ret_bool (by rw [HR.out,h1];rfl),Ap.out⟩
 by_cases o5:x.op=5
 . have HR:Hid (z10 c k x=(ze1 c k x.body&&decide (x.other.length=0))):=(if_neg o4).trans (if_pos o5)
   go_enter Tryz.func171,Tryz.ntmps171;go_wp2_with fail;refine (HI.out x.body A ab cb _ (HB.out.later (al2 _ _ _)) (HC.out.later (al2 _ _ _))).mono ?_
   cases h1:ze1 c k x.body with
   | false=>
     exact iy
   | true=>
     rintro e w3 ⟨rfl,A9⟩;have Af:=hid (thenB (al2 w _ _) A9);have p2:=(A9.block (w.heap.size+1) aA).trans (z82 w _ _);obtain ⟨z0,z1,z2,z3,z4,z5,z6,zz⟩:=zam p2;clear A9 p2
     by_cases h0:x.other.length=0
     . go_wp2_with fail
       go_ret;exact ⟨ret_bool (by rw [HR.out,h1,decide_eq_true h0];rfl),Af.out⟩
     . have KE:x.other.length≠0:=h0
       have B9:Hid (z10 c k x=false):=by show _=_;rw [HR.out,h1,decide_eq_false h0];rfl
       clear h0;go_wp2_with fail;go_ret;exact ⟨ret_bool bo,Af.out⟩
 . have HR:Hid (z10 c k x=(decide (x.body.length=0)&&decide (x.other.length=0))):=(if_neg o4).trans (if_neg o5)
   by_cases DH:x.body.length=0
   . by_cases h0:x.other.length=0
     . have B9:Hid (z10 c k x=true):=by show _=_;rw [HR.out,decide_eq_true h0,decide_eq_true DH];rfl
       exact iW
     . have KE:x.other.length≠0:=h0
       have B9:Hid (z10 c k x=false):=by show _=_;rw [HR.out,decide_eq_false h0,decide_eq_true DH];rfl
       clear h0;go_enter Tryz.func171,Tryz.ntmps171;go_wp2_with fail;go_ret;exact ⟨ret_bool bo,al2 _ _ _⟩
   . have KE:x.body.length≠0:=DH
     have B9:Hid (z10 c k x=false):=by show _=_;rw [HR.out,decide_eq_false DH];rfl
     clear DH;exact iW
theorem zl3 (c:Ck) (s:ByteArray) (x1:OA) (y1:Nat) (x2:OA) (y2:Nat) (x3:OA) (n3 y3:Nat) (iv:Value) (a:OA) (n cap:Nat) (w:World) :
 qc 128 #[.agg #[.string s,.slice x1 c.uses y1,qi c.data,.slice x2 c.parts.length y2,.slice x3 n3 y3,iv,qi c.locals],.slice a n cap,qi 7] w fun e w'=>e = .returned (.bool false)/\qb w w':=by
 go_enter Tryz.func128,Tryz.ntmps128;exact jk
theorem zl4 (c:Ck) (s:ByteArray) (x1:OA) (y1:Nat) (x2:OA) (y2:Nat) (x3:OA) (n3 y3:Nat) (iv:Value) (a:OA) (n cap:Nat) (Ae:Int) (w:World) (hd:Ae<=6) (hn:10<n) (E4:n<=17592186044416) :
 qc 128 #[.agg #[.string s,.slice x1 c.uses y1,qi c.data,.slice x2 c.parts.length y2,.slice x3 n3 y3,iv,qi c.locals],.slice a n cap,qi Ae] w fun e w'=>e = .returned (.bool false)/\qb w w':=by
 go_enter Tryz.func128,Tryz.ntmps128;exact jk
def zx3 (c:Ck) (k:Nat) (x:Ac):Bool:=zcb c x&&(zgy c 6 x.args&&z10 c k x)
theorem zrv (c:Ck) (k:Nat) (l:List Ac):ze1 c (k+1) l=(decide (l.length<=10)&&l.all (zx3 c k)):=by
 rw [ze1]
 rfl
theorem zxh (c:Ck) (s:ByteArray) (x1:OA) (y1:Nat) (x2:OA) (y2:Nat) (x3:OA) (n3 y3:Nat) (iv:Value) (k:Nat) (hk:k+1<=6) (ih:zpx c (.agg #[.string s,.slice x1 c.uses y1,qi c.data,.slice x2 c.parts.length y2,.slice x3 n3 y3,iv,qi c.locals]) k):zpx c (.agg #[.string s,.slice x1 c.uses y1,qi c.data,.slice x2 c.parts.length y2,.slice x3 n3 y3,iv,qi c.locals]) (k+1):=by
 intro l A a cap Ae w hd hD hC;have Bz:=hD.bound
 by_cases Ef:10<l.length
 . have:ze1 c (k+1) l=false:=by rw [zrv,decide_eq_false ae];rfl
   rw [this];exact zl4 c s x1 y1 x2 y2 x3 n3 y3 iv a l.length cap Ae w ae Ef Bz
 have NZ:l.length<=10:=ae
 have HR:Hid (ze1 c (k+1) l=l.all (zx3 c k)):=by show _=_;rw [zrv,decide_eq_true NZ];rfl
 have Cj:1<=Ae:=ae
 have Ko:Ae<=6:=ae
 have HI:=hid (fun x A aa cp ab cb ao co w=>zm7 c s x1 y1 x2 y2 x3 n3 y3 iv k ae ih x A aa cp ab cb ao co (Ae+1) w ae);have HD:=hid hD;have HC:=hid hC;clear hD hC hd Ef ih;go_enter Tryz.func128,Tryz.ntmps128;go_wp2_with fail
 go_loopw [18] (fun i wr=>∃ j:Nat,j<=l.length/\i=qi j/\(l.take j).all (zx3 c k)=true/\qb w wr/\wr.heap[w.heap.size]? = some (.cells #[.string s,.slice x1 c.uses y1,qi c.data,.slice x2 c.parts.length y2,.slice x3 n3 y3,iv,qi c.locals] 206)) (fun i _=>l.length - (intOf i).toNat)
 case atStart=>exact ⟨0,vaf _,rfl,rfl,al1 _ _,heap_newP _ _⟩
 case round=>
  obtain ⟨j,hj,rfl,A7,hb,hB⟩:=hrel;obtain ⟨q0,q1,q2,q3,q4,q5,q6,qz⟩:=zam hB;have HB:=hid hb;have HX:=hid hB;have HL:=hid A7;clear A7 hB hb
  by_cases A0:j<l.length
  . obtain ⟨b,off,aa,cp,ab,cb,ao,co,rfl,hx⟩:=(HD.out.later HB.out).ac j A0
    have HF:=hid (fun (h:zx3 c k l[j]=false)=>all_not l (zx3 c k) j A0 h);have HT:=hid (fun (h:zx3 c k l[j]=true)=>(by rw [all_snoc l _ j A0,HL.out,h];rfl:(l.take (j+1)).all (zx3 c k)=true));obtain ⟨Av,x0,x1',x2',LD,x4,x5,x6,hargs,hbody,hother,_,_,hm,AH⟩:=hx;have Ee:=hargs.bound;have HA:=hid hargs;have Hu:=hid hbody;have Om:=hid hother;have HM:=hid hm;have GQ:=hid AH;clear hargs hbody hother hm AH;generalize l[j]=x at *;go_wp2_with fail;refine (zru c s x1 y1 x2 y2 x3 n3 y3 iv x aa cp ab cb ao co _ (HC.out.later (thenB HB.out (al1 _ _))) HM.out GQ.out Ee).mono ?_
    cases h1:zcb c x with
    | false=>
      rintro e w3 ⟨rfl,A9⟩;have Af:=hid (thenB HB.out (thenB (al1 _ _) A9));have Bj:=hid (HF.out (by unfold zx3;rw [h1];rfl));clear A9;go_wp2_with fail;go_ret;exact ⟨ret_bool eA,Af.out⟩
    | true=>
      rintro e w3 ⟨rfl,A9⟩;have Af:=hid (thenB (al1 wr _) A9);have p1:=(Af.out.block _ (lt_of_heap HX.out)).trans HX.out;have p2:=(A9.block _ aA).trans (heap_newP wr (kzA x.op x.n x.m x.at_ aa x.args.length cp ab x.body.length cb ao x.other.length co));have CX:=hid p1;have KM:=hid p2;clear q0 q1 q2 q3 q4 q5 q6 qz x0 x1' x2' LD x4 x5 x6 Av;obtain ⟨q0,q1,q2,q3,q4,q5,q6,qz⟩:=zam p1;obtain ⟨z0,z1,z2,z3,z4,z5,z6,zz⟩:=zam p2;clear A9 p1 p2;go_wp2_with fail;refine (ziw c s x1 y1 x2 y2 x3 n3 y3 iv 6 aq x.args A aa cp 1 _ aq (HA.out.later Af.out) (HC.out.later (thenB HB.out Af.out))).mono ?_
      cases h2:zgy c 6 x.args with
      | false=>
        rintro e w4 ⟨rfl,Aj⟩;have Ap:=hid (thenB (thenB HB.out Af.out) Aj);have Bj:=hid (HF.out (by unfold zx3;rw [h1,h2];rfl));clear Aj;go_wp2_with fail;go_ret;exact ⟨ret_bool eA,Ap.out⟩
      | true=>
        rintro e w4 ⟨rfl,Aj⟩;have Ap:=hid (thenB Af.out Aj);have p1:=(Aj.block _ (lt_of_heap CX.out)).trans CX.out;have p2:=(Aj.block _ (lt_of_heap KM.out)).trans KM.out;have Ei:=hid p1;clear q0 q1 q2 q3 q4 q5 q6 qz z0 z1 z2 z3 z4 z5 z6 zz;obtain ⟨q0,q1,q2,q3,q4,q5,q6,qz⟩:=zam p1;obtain ⟨z0,z1,z2,z3,z4,z5,z6,zz⟩:=zam p2;clear Aj p1 p2;go_wp2_with fail;refine (HI.out x A aa cp ab cb ao co _ (Hu.out.later Ap.out) (Om.out.later Ap.out) (HC.out.later (thenB HB.out Ap.out))).mono ?_
        cases h3:z10 c k x with
        | false=>
          rintro e w5 ⟨rfl,As⟩;have At:=hid (thenB (thenB HB.out Ap.out) As);have Bj:=hid (HF.out (by unfold zx3;rw [h1,h2,h3];rfl));clear As;go_wp2_with fail;go_ret;exact ⟨ret_bool eA,At.out⟩
        | true=>
          rintro e w5 ⟨rfl,As⟩;have At:=hid (thenB (thenB HB.out Ap.out) As);have CW:=hid ((As.block _ (lt_of_heap Ei.out)).trans Ei.out);have Bc:=hid (HT.out (by unfold zx3;rw [h1,h2,h3];rfl));clear As;go_wp2_with fail;go_roundw
          case rel=>exact ⟨j+1,ae,aR,Bc.out,At.out,CW.out⟩
          case measure=>simp [intOf];omega
  . have HT:Hid (l.all (zx3 c k)=true):=zcx HL.out A0
    go_wp2_with fail;go_ret;exact ⟨ret_bool dE,HB.out⟩
theorem zfh (c:Ck) (s:ByteArray) (x1:OA) (y1:Nat) (x2:OA) (y2:Nat) (x3:OA) (n3 y3:Nat) (iv:Value):∀ (k:Nat),k<=6->zpx c (.agg #[.string s,.slice x1 c.uses y1,qi c.data,.slice x2 c.parts.length y2,.slice x3 n3 y3,iv,qi c.locals]) k
 | 0,_=>fun l A a cap Ae w hd _ _=>by
   obtain rfl:Ae=7:=ae
   exact zl3 c s x1 y1 x2 y2 x3 n3 y3 iv a l.length cap w
 | k+1,hk=>zxh c s x1 y1 x2 y2 x3 n3 y3 iv k hk (zfh c s x1 y1 x2 y2 x3 n3 y3 iv k ae)
structure UvAt (w:World) (u:Un) (x1:OA) (y1:Nat) (x2:OA) (y2:Nat) (x3:OA) (y3:Nat):Prop where
 wn:u.name.size<=maxLen
 uses:DAt w Tt x1 u.uses.length (zak u.uses)
 wd:(Lit.int .i64 u.data).wf=true
 parts:DAt w Tt x2 u.parts.length (zlu u.parts)
 main:DAt w Tt x3 u.main.length (zdu u.main)
theorem UvAt.later {w w':World} {u:Un} {x1:OA} {y1:Nat} {x2:OA} {y2:Nat} {x3:OA} {y3:Nat} (h:UvAt w u x1 y1 x2 y2 x3 y3) (hb:qb w w'):UvAt w' u x1 y1 x2 y2 x3 y3:=⟨h.wn,h.uses.later hb,h.wd,h.parts.later hb,h.main.later hb⟩
theorem UvAt.mo {w:World} {u:Un} {x1:OA} {y1:Nat} {x2:OA} {y2:Nat} {x3:OA} {y3:Nat} (h:UvAt w u x1 y1 x2 y2 x3 y3):MoAt w Tt ⟨u.name,u.uses,[],[],[]⟩ (.agg #[.string u.name,.slice x1 u.uses.length y1,qs,qs,qs]) x1 y1 none 0 none 0 none 0:=
 ⟨rfl,h.wn,h.uses,⟨vaa _,vaf _,Or.inl rfl⟩,⟨vaa _,vaf _,Or.inl rfl⟩,⟨vaa _,vaf _,Or.inl rfl⟩⟩
theorem zpy (u:Un) (x1:OA) (y1:Nat) (x2:OA) (y2:Nat) (x3:OA) (y3:Nat) (w:World) (hU:UvAt w u x1 y1 x2 y2 x3 y3) :
 qc 127 #[.agg #[.string u.name,.slice x1 u.uses.length y1,qi u.data,.slice x2 u.parts.length y2,.slice x3 u.main.length y3]] w fun e w'=>e = .returned (.bool (zdx u))/\qb w w':=by
 have HC:=hid (z3z _ _ _ _ _ _ _ _ _ _ (w.alloc (kzC u.name x1 u.uses.length y1 u.data x2 u.parts.length y2 x3 u.main.length y3)) (hU.later (al1 _ _)).mo);have FQ:=hU.parts.bound;have HU:=hid hU;clear hU;have HQ:Hid (zdx u=(decide (chkM ⟨u.name,u.uses,[],[],[]⟩=0)&&(u.parts.all ptB&&(decide (0<=u.data/\u.data<=512)&&decide (u.parts.length<=6))))):=rfl
 go_enter Tryz.func127,Tryz.ntmps127;go_wp2_with fail;refine HC.out.mono ?_;rintro e w1 ⟨Am,A6⟩;have A8:=hid (thenB (al1 w _) A6);have AF:=hid ((A6.block _ aA).trans (heap_newP w (kzC u.name x1 u.uses.length y1 u.data x2 u.parts.length y2 x3 u.main.length y3)));have Ao:=lt_of_heap AF.out;unfold ztw at Am;clear A6 HC
 rcases Am with ⟨hc,rfl⟩ | ⟨hc,af,cf,rfl,_⟩
 . have HF:Hid (zdx u=false):=by show _=_;rw [HQ.out,decide_eq_false hc];rfl
   generalize chkM ⟨u.name,u.uses,[],[],[]⟩=z at *;go_wp2_with fail;go_ret;exact ⟨ret_bool (by first | exact HF.out.symm | (rw [HF.out];first | (simp;omega) | (simp [*];done))),thenB A8.out (al1 _ _)⟩
 . have KZ : Hid (zdx u=(u.parts.all ptB&&(decide (0<=u.data/\u.data<=512)&&decide (u.parts.length<=6)))):=by show _=_;rw [HQ.out,decide_eq_true hc];rfl
   generalize shownIts ⟨u.name,u.uses,[],[],[]⟩=sh at *;obtain ⟨q0,q1,q2,q3,q4,_⟩:=zaa AF.out;clear hc HQ;go_wp2_with fail
   go_loopw [21] (fun i wr=>∃ j:Nat,j<=u.parts.length/\i=qi j/\(u.parts.take j).all ptB=true/\qb w wr/\wr.heap[w.heap.size]? = some (kzC u.name x1 u.uses.length y1 u.data x2 u.parts.length y2 x3 u.main.length y3)) (fun i _=>u.parts.length - (intOf i).toNat)
   case atStart=>exact ⟨0,vaf _,rfl,rfl,thenB A8.out (al1 _ _),zab AF.out⟩
   case round=>
    clear q0 q1 q2 q3 q4;obtain ⟨j,hj,rfl,A7,hb,hB⟩:=hrel;obtain ⟨q0,q1,q2,q3,q4,_⟩:=zaa hB;have qz:=lt_of_heap hB;have HB:=hid hb;have HX:=hid hB;have HL:=hid A7;clear A7 hB hb
    by_cases A0:j<u.parts.length
    . obtain ⟨b,off,ab,cb,rfl,hx⟩:=((HU.out.later HB.out).parts).pt j A0
      have HF:=hid (fun (h:ptB u.parts[j]=false)=>(by rw [KZ.out,all_not u.parts ptB j A0 h];rfl:zdx u=false));have HT:=hid (fun (h:ptB u.parts[j]=true)=>(by rw [all_snoc u.parts _ j A0,HL.out,h];rfl:(u.parts.take (j+1)).all ptB=true));obtain ⟨Av,p0,p1,p2,_,_,_⟩:=hx;generalize u.parts[j]=p at *
      by_cases t1:p.params<0
      . have Bj:=hid (HF.out (by unfold ptB;rw [decide_eq_false ae];rfl))
        exact gQ
      have Dh:0<=p.params:=ae
      by_cases t2:3<p.params
      . have Bj:=hid (HF.out (by unfold ptB;rw [decide_eq_false ae];rfl))
        clear t1;exact gQ
      have E0:p.params<=3:=ae
      by_cases t3:p.locals<0
      . have Bj:=hid (HF.out cP)
        clear t1 t2;exact gQ
      have LE:0<=p.locals:=ae
      by_cases t4:4<p.locals
      . have Bj:=hid (HF.out cP)
        clear t1 t2 t3;exact gQ
      have QU:p.locals<=4:=ae
      have Bc:=hid (HT.out (by unfold ptB;rw [decide_eq_true ⟨Dh,E0⟩,decide_eq_true ⟨LE,QU⟩];rfl));clear t1 t2 t3 t4;exact iw
    . have HP:Hid (zdx u=(decide (0<=u.data/\u.data<=512)&&decide (u.parts.length<=6))):=by show _=_;rw [KZ.out,zcx HL.out A0];rfl
      by_cases t1:0<=u.data
      . by_cases t2:u.data<=512
        . by_cases t3:u.parts.length<=6
          . have HR:Hid (zdx u=true):=by show _=_;rw [HP.out,decide_eq_true ⟨t1,t2⟩,decide_eq_true t3];rfl
            go_wp2_with fail;go_ret;exact ⟨ret_bool aJ,HB.out⟩
          . have HR:Hid (zdx u=false):=by show _=_;rw [HP.out,decide_eq_true ⟨t1,t2⟩,decide_eq_false t3];rfl
            have LE:6<u.parts.length:=ae
            clear t3;go_wp2_with fail;go_ret;exact ⟨ret_bool aJ,HB.out⟩
        . have HR:Hid (zdx u=false):=by show _=_;rw [HP.out,decide_eq_false ae];rfl
          have E0:512<u.data:=ae
          clear t2;exact gI
      . have HR:Hid (zdx u=false):=by show _=_;rw [HP.out,decide_eq_false ae];rfl
        have Dh:u.data<0:=ae
        clear t1;exact gI
theorem zjk {u:Un} (h:zdx u=true):0<=u.data/\u.data<=512:=by
 unfold zdx at h;simp only [vac,decide_eq_true_eq] at h;exact h.2.2.1
theorem ztx {u:Un} (h:zdx u=true) (j:Nat) (hj:j<u.parts.length):(0<=u.parts[j].params/\u.parts[j].params<=3)/\0<=u.parts[j].locals/\u.parts[j].locals<=4:=by
 unfold zdx at h;simp only [vac,decide_eq_true_eq,vas] at h;have:=h.2.1 u.parts[j] (vah hj);unfold ptB at this;simpa only [vac,decide_eq_true_eq] using this
theorem z34 (u:Un) (num prt:Int->Int->Int->Bool) (x1:OA) (y1:Nat) (x2:OA) (y2:Nat) (x3:OA) (y3:Nat) (tI:TypeId) (vI:Value) (w:World) (hU:UvAt w u x1 y1 x2 y2 x3 y3)
 (hC:zdx u=true->∀ (lc:Int) (W:World),qb w W->CkAt W (zi8 u num prt lc) (.agg #[.string u.name,.slice x1 u.uses.length y1,qi u.data,.slice x2 u.parts.length y2,.slice x3 u.main.length y3,.iface tI vI,qi lc])) :
 qc 77 #[.agg #[.string u.name,.slice x1 u.uses.length y1,qi u.data,.slice x2 u.parts.length y2,.slice x3 u.main.length y3],.iface tI vI] w fun e w'=>e = .returned (.bool (zfg u num prt))/\qb w w':=by
 have HH:=hid (zpy u x1 y1 x2 y2 x3 y3 (w.alloc (kzC u.name x1 u.uses.length y1 u.data x2 u.parts.length y2 x3 u.main.length y3)) (hU.later (al1 _ _)));have FQ:=hU.parts.bound;have HU:=hid hU;have HC:=hid hC;have HQ:Hid (zfg u num prt=(zdx u&&(u.parts.all (fun p=>ze1 (zi8 u num prt (p.params+p.locals)) 6 p.body)&&ze1 (zi8 u num prt 0) 6 u.main))):=rfl;clear hU hC;go_enter Tryz.func77,Tryz.ntmps77;go_wp2_with fail;refine HH.out.mono ?_
 cases hh:zdx u with
 | false=>
   rintro e w1 ⟨rfl,A6⟩;have A8:=hid (thenB (al1 w _) A6)
   have HR:Hid (zfg u num prt=false):=by show _=_;rw [HQ.out,hh];rfl
   clear A6;exact fE
 | true =>
   rintro e w1 ⟨rfl,A6⟩;have A8:=hid (thenB (al1 w _) A6);have AF:=hid ((A6.block _ aA).trans (heap_newP w (kzC u.name x1 u.uses.length y1 u.data x2 u.parts.length y2 x3 u.main.length y3)));have Ly:=hid (HC.out hh);have Tl:=hid hh
   have KZ:Hid (zfg u num prt=(u.parts.all (fun p=>ze1 (zi8 u num prt (p.params+p.locals)) 6 p.body)&&ze1 (zi8 u num prt 0) 6 u.main)):=by show _=_;rw [HQ.out,hh];rfl
   obtain ⟨q0,q1,q2,q3,q4,_⟩:=zaa AF.out;have qz:=lt_of_heap AF.out;clear A6 HC HQ HH hh;go_wp2_with fail
   go_loopw [14] (fun i wr=>∃ j:Nat,j<=u.parts.length/\i=qi j/\(u.parts.take j).all (fun p=>ze1 (zi8 u num prt (p.params+p.locals)) 6 p.body)=true/\qb w wr/\wr.heap[w.heap.size]? = some (kzC u.name x1 u.uses.length y1 u.data x2 u.parts.length y2 x3 u.main.length y3)) (fun i _=>u.parts.length - (intOf i).toNat)
   case atStart=>exact ⟨0,vaf _,rfl,rfl,A8.out,AF.out⟩
   case round=>
    clear q0 q1 q2 q3 q4 qz;obtain ⟨j,hj,rfl,A7,hb,hB⟩:=hrel;obtain ⟨q0,q1,q2,q3,q4,_⟩:=zaa hB;have qz:=lt_of_heap hB;have HB:=hid hb;have HX:=hid hB;have HL:=hid A7;clear A7 hB hb
    by_cases A0:j<u.parts.length
    . obtain ⟨b,off,ab,cb,rfl,hx⟩:=((HU.out.later HB.out).parts).pt j A0
      have HF:=hid (fun (h:ze1 (zi8 u num prt (u.parts[j].params+u.parts[j].locals)) 6 u.parts[j].body=false)=>(by rw [KZ.out,all_not u.parts (fun p=>ze1 (zi8 u num prt (p.params+p.locals)) 6 p.body) j A0 h];rfl:zfg u num prt=false));have HT:=hid (fun (h:ze1 (zi8 u num prt (u.parts[j].params+u.parts[j].locals)) 6 u.parts[j].body=true)=>(by rw [all_snoc u.parts _ j A0,HL.out,h];rfl:(u.parts.take (j+1)).all (fun p=>ze1 (zi8 u num prt (p.params+p.locals)) 6 p.body)=true));obtain ⟨⟨g1,g2⟩,g3,g4⟩:=ztx Tl.out j A0;obtain ⟨Av,p0,p1,p2,Ct,_,_⟩:=hx;have Hu:=hid Ct;clear Ct;generalize u.parts[j]=p at *;go_wp2_with fail;refine (zfh (zi8 u num prt (p.params+p.locals)) u.name x1 y1 _ y2 x3 u.main.length y3 (.iface tI vI) 6 aq p.body Tt ab cb 1 _ aq (Hu.out.later (al2 _ _ _)) (Ly.out (p.params+p.locals) _ (thenB HB.out (al2 _ _ _)))).mono ?_
      cases h1:ze1 (zi8 u num prt (p.params+p.locals)) 6 p.body with
      | false=>
        rintro e w3 ⟨rfl,A9⟩;have Af:=hid (thenB HB.out (thenB (al2 _ _ _) A9));have Bj:=hid (HF.out h1);clear A9;go_wp2_with fail;go_ret;exact ⟨ret_bool aW,Af.out⟩
      | true=>
        rintro e w3 ⟨rfl,A9⟩;have Af:=hid (thenB (al2 wr _ _) A9);have CX:=hid ((Af.out.block _ (lt_of_heap HX.out)).trans HX.out);have Bc:=hid (HT.out h1);clear A9;go_wp2_with fail;go_roundw
        case rel=>exact ⟨j+1,ae,aR,Bc.out,thenB HB.out Af.out,CX.out⟩
        case measure=>simp [intOf];omega
    . have HR:Hid (zfg u num prt=ze1 (zi8 u num prt 0) 6 u.main):=by show _=_;rw [KZ.out,zcx HL.out A0];rfl
      go_wp2_with fail;refine (zfh (zi8 u num prt 0) u.name x1 y1 x2 y2 x3 u.main.length y3 (.iface tI vI) 6 aq u.main Tt x3 y3 1 _ aq (HU.out.later HB.out).main (Ly.out 0 _ HB.out)).mono ?_;rintro e w3 ⟨rfl,A9⟩;have Af:=hid (thenB HB.out A9);clear A9;exact jT
set_option maxHeartbeats 1600000
theorem z35:laidOutB Tryz.prog=true:=ah
theorem z36:Tryz.prog.keyType 244=true:=ah
theorem zpz:Keyed Tryz.prog 244:=Keyed.of_law (deep_law_laid z35 (m:=3) aq (of_decide_eq_true ah) ah ah)
def zj1 (mod name:ByteArray):Lit:=.string (keyBytes [.string mod.data.toList,.string name.data.toList])
theorem zix (mod name:ByteArray) (h1:mod.size<=maxLen) (h2:name.size<=maxLen):keyOf Tryz.prog 244 (.agg #[.string mod,.string name])=some (zj1 mod name):=by
 have hf:(Value.agg #[.string mod,.string name]).formed Tryz.prog 244=true:=ah
 have hl:Tryz.prog.keyLits (Tryz.prog.types.size+1) 244 (Value.agg #[.string mod,.string name]).cells.toList=some [.string mod.data.toList,.string name.data.toList]:=by
  have h0:0<Tryz.prog.types.size:=of_decide_eq_true ah
  obtain ⟨k,hk⟩:∃ k,Tryz.prog.types.size=k+1:=⟨Tryz.prog.types.size - 1,ae⟩
  rw [hk]
  have hs:∀ s:ByteArray,s.size<=maxLen->Tryz.prog.keyLits (k+1) 9 [.string s]=some [.string s.data.toList]:=fun s h=>by
   unfold Program.keyLits;rw [Tryz.underlying9];exact if_pos h
  have e:(Value.agg #[.string mod,.string name]).cells.toList=[.string mod,.string name]:=rfl
  have c2:Tryz.prog.cellsOf 244=2:=ah
  have c9:Tryz.prog.cellsOf 9=1:=ah
  rw [e];unfold Program.keyLits;rw [Tryz.underlying244];simp [c2,c9,hs mod h1,hs name h2]
 unfold keyOf;rw [Tryz.underlying244];simp only [z36,hf,hl]
 rfl
theorem z0x {a b c d:ByteArray} (h1:a.size<=maxLen) (h2:b.size<=maxLen) (h3:c.size<=maxLen) (h4:d.size<=maxLen) (h:¬ (a=c/\b=d)):zj1 a b≠zj1 c d:=fun e=>by
 have k1:=zix a b h1 h2;have k2:=zix c d h3 h4;rw [← e] at k2;have:=zpz.inj k1 k2
 injection this with this
 have:=congrArg Array.toList this;simp at this;exact h this
def z6x (K:Kn) (mod name:ByteArray) (x:Mg):Kn:=fun a b=>if a=mod/\b=name then some x else K a b
def z9l (D:DataW Value) (K:Kn):Prop:=∀ a b:ByteArray,a.size<=maxLen->b.size<=maxLen->has D (zj1 a b)=(K a b).isSome/\D.atKey (zj1 a b) (.held mg0.val) = .held ((K a b).getD mg0).val
theorem z9l.put {D:DataW Value} {K:Kn} (h:z9l D K) (hD:IsMap D) (mod name:ByteArray) (h1:mod.size<=maxLen) (h2:name.size<=maxLen) (x:Mg):z9l (D.put (zj1 mod name) (.held x.val)) (z6x K mod name x):=by
 intro a b ha hb
 by_cases e:a=mod/\b=name
 . obtain ⟨rfl,rfl⟩:=e
   simp only [z6x,and_self,if_true];exact ⟨has_put_same (k:=zj1 a b) hD trivial _,atKey_put_same (k:=zj1 a b) hD trivial _ _⟩
 . have Ai:=z0x ha hb h1 h2 e
   simp only [z6x,if_neg e];rw [has_put_other Ai,atKey_put_other Ai];exact h a b ha hb
def zmr (w:World) (b n:Nat) (K:Kn):Prop:=∃ D,w.ownsMap Tryz.prog 244 zrh b n D/\z9l D K
theorem zmr.lt {w:World} {b n:Nat} {K:Kn} (h:zmr w b n K):b<w.heap.size:=eL
theorem zmr.block {w w':World} {b n:Nat} {K:Kn} (h:zmr w b n K) (hb:w'.heap[b]? = w.heap[b]?):zmr w' b n K:=by
 obtain ⟨D,h1,h2⟩:=h;obtain ⟨es,clock,B6,r⟩:=h1;exact ⟨D,⟨es,clock,hb.trans B6,r⟩,h2⟩
theorem zmr.later {w w':World} {b n:Nat} {K:Kn} (h:zmr w b n K) (hb:qb w w'):zmr w' b n K:=h.block (hb.block b h.lt)
theorem zmr.made (w:World):zmr (w.alloc (.map #[] 0)) w.heap.size 0 (fun _ _=>none):=⟨.map [],vev w _ _ _,fun _ _ _ _=>⟨rfl,rfl⟩⟩
theorem z83 (w:World):(zeroValue 242).run Tryz.prog w = .ok mg0.val w:=ah
theorem zmr.known {w:World} {b n:Nat} {K:Kn} (h:zmr w b n K):zm5 w (.map (some b)) K:=by
 intro w' hb mod name h1 h2;obtain ⟨D,k1,k2⟩:=h.later hb;obtain ⟨v,ps,hrun,hv⟩:=k1.look_ok zpz Tryz.underlying187 (z83 w') (zd:=.held mg0.val) (zp:=[]) rfl (zix mod name h1 h2);rw [(k2 mod name h1 h2).2] at hv;simp only [zrh,vbf,vdd,vdb] at hv;rw [hrun,hv.1,(k2 mod name h1 h2).1]
theorem zmr.put {w:World} {b n:Nat} {K:Kn} (h:zmr w b n K) (hn:n<maxLen) (mod name:ByteArray) (h1:mod.size<=maxLen) (h2:name.size<=maxLen) (x:Mg) :
 ∃ w',(Instr.mapUpdate 187 (.map (some b)) (.agg #[.string mod,.string name]) x.val).run Tryz.prog w = .ok () w'/\zmr w' b (n+1) (z6x K mod name x)/\w.grownBy w' (some b):=by
 obtain ⟨D,k1,k2⟩:=h;obtain ⟨w',r1,r2,r3⟩:=k1.update zpz Tryz.underlying187 hn (zix mod name h1 h2) (val:=x.val) (d:=.held x.val) (ps:=[]) rfl;exact ⟨w',r1,⟨_,r2,k2.put k1.isMap mod name h1 h2 x⟩,r3⟩
theorem Keeps.grown {R:Nat} {w w1 w2:World} (h:Keeps R w w1) (hg:w1.grownBy w2 (some R)):Keeps R w w2:=
 h.trans ⟨hg.os,hg.tape,hg.output,hg.size,fun k h1 h2=>hg.block k h1 (fun e=>h2 (vab e))⟩
def z84 (m:Int) (i:It):Mg:=⟨i.kind,i.n,m,i.at_⟩
def zjl (K:Kn) (mod:ByteArray) (m:Int) (l:List It):Kn:=l.foldl (fun K i=>z6x K mod i.name (z84 m i)) K
theorem zxi (K:Kn) (mod:ByteArray) (m:Int) (l:List It) (i:It):zjl K mod m (l++[i])=z6x (zjl K mod m l) mod i.name (z84 m i):=by
 unfold zjl;rw [vbo];rfl
theorem zl5 (K:Kn) (b n:Nat) (mod:ByteArray) (mm:Int) (l:List It) (a:OA) (cap:Nat) (w:World) (hK:zmr w b n K) (hm:mod.size<=maxLen) (hI:Fx.zcy w a l) (hF:Fx.AllFit l) (hl:l.length<=1000) (hn:n<=1000) (ED:∀ b' off,l≠[]->a=some (qa b' off)->b'≠b) :
 qc 119 #[.agg #[.map (some b)],.string mod,qi mm,.slice a l.length cap] w fun e w'=>e = .returned (.tuple #[])/\zmr w' b (n+l.length) (zjl K mod mm l)/\Keeps b w w':=by
 have HI:=hid hI;have HF:=hid hF;have HK:=hid hK;have TF:=hid ED;have Ez:=hK.lt;clear hI hF hK ED;go_enter Tryz.func119,Tryz.ntmps119;go_wp2_with fail
 go_loopw [9,12] (fun _ i wr=>∃ j:Nat,j<=l.length/\i=qi j/\zmr wr b (n+j) (zjl K mod mm (l.take j))/\wr.heap[w.heap.size]? = some (.cells #[.map (some b)] 189)/\Keeps b w wr) (fun _ i _=>l.length - (intOf i).toNat)
 case atStart=>exact ⟨0,vaf _,rfl,HK.out.later (al1 _ _),heap_newP _ _,(Keeps.refl _ _).alloc _⟩
 case round=>
  obtain ⟨j,hj,rfl,hk,hbx,Be⟩:=hrel;have Qx:=hid hk;have HX:=hid hbx;have HE:=hid Be;have C1:=Be.size;have Cv:=lt_of_heap hbx;clear hk Be
  by_cases A0:j<l.length
  . obtain ⟨b2,off,rfl,Av,c0,c1,c2,c3⟩:=HI.out.place A0
    have Ai:=TF.out b2 off (fun h=>by rw [h] at A0;simp at A0) rfl;have d0:=(HE.out.cell (off:=off+j*4) Av Ai).trans c0;have d1:=(HE.out.cell (off:=off+j*4+1) Av Ai).trans c1;have d2:=(HE.out.cell (off:=off+j*4+2) Av Ai).trans c2;have d3:=(HE.out.cell (off:=off+j*4+3) Av Ai).trans c3;have DG:b2<wr.heap.size:=vai Av C1;have B4:=HF.out l[j] (vah _)
    have C3:Hid (z6x (zjl K mod mm (l.take j)) mod l[j].name (z84 mm l[j])=zjl K mod mm (l.take (j+1))):=by
     show _=zjl K mod mm (l.take (j+1));rw [vag A0,zxi]
    generalize l[j]=x at *;obtain ⟨w2,hrun,Kz,Eb⟩:=(Qx.out.later (al1 _ (kzI x.kind x.n x.at_ x.name))).put aP mod x.name hm B4 (z84 mm x);simp only [Mg.val,z84] at hrun;rw [C3.out] at Kz;have AN:=hid Kz;have BE:=hid ((HE.out.alloc _).grown Eb);have Do:Hid (w2.heap[w.heap.size]? = some (.cells #[.map (some b)] 189)):=(Eb.block _ aF (fun e=>by have:=vab e;omega)).trans (zab HX.out)
    have k0:wr.cell? (qa w.heap.size 0)=some (.map (some b)):=by rw [vep HX.out];rfl
    clear c0 c1 c2 c3 Kz Eb hbx B4;go_wp2_with fail;go_roundw
    case rel=>exact ⟨j+1,ae,aR,by rw [← vbn];exact AN.out,Do.out,BE.out⟩
    case measure=>simp [intOf];omega
  . obtain rfl:j=l.length:=by omega
    have Tf:Hid (zmr wr b (n+l.length) (zjl K mod mm l)):=by have:=Qx.out;rw [vau] at this;exact this
    clear hbx;go_wp2_with fail;go_end0;exact ⟨rfl,Tf.out,HE.out⟩
end Go.Proofs.YtndkhgakfodldaaGreatDoor
