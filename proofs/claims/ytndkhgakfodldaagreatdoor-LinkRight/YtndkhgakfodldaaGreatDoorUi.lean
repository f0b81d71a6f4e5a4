import Derived.Test.YtndkhgakfodldaaGreatDoorUc
import Derived.Test.YtndkhgakfodldaaGreatDoorXc
import Derived.Test.YtndkhgakfodldaaGreatDoorLex
namespace Go.Proofs.YtndkhgakfodldaaGreatDoor
set_option maxRecDepth 100000
set_option maxHeartbeats 3200000
open Go.RowKit Go.Maps Go.WideMaps
set_option linter.unusedSimpArgs false
abbrev pU (p:Pr) (a:OA) (b:Nat) (c:OA) (e:Nat) (f:OA) (g:Nat):Obj:=kzK p.name p.pub a p.params.length b c p.locals.length e f p.body.length g
abbrev It:=Fx.It
def itD (i:It):List D:=[.int i.kind,.int i.n,.int i.at_,.str i.name]
def zgm (l:List It):List D:=l.flatMap itD
def layIt (at_:Int) (d:De):It:=⟨d.kind,d.n,if d.kind=2\/d.kind=3 then at_ else 0,d.name⟩
def zez (at_:Int) (d:De):Int:=if d.kind=2 then at_+1 else if d.kind=3 then at_+d.n else at_
def zns:Int->List De->List It × Int
 | a,[]=>([],a)
 | a,d :: r=>(layIt a d :: (zns (zez a d) r).1,(zns (zez a d) r).2)
def z4a (i:Nat) (p:Pr):It:=⟨4,p.params.length,i,p.name⟩
def zpb:Nat->List Pr->List It
 | _,[]=>[]
 | i,p :: r=>z4a i p :: zpb (i+1) r
def za6 (m:Mo):List It:=(zns 0 m.decls).1++zpb 0 m.procs
def zb3 (m:Mo):Int:=(zns 0 m.decls).2
theorem zq7:∀ (l:List De) (a:Int) (d:De),zns a (l++[d])=((zns a l).1++[layIt (zns a l).2 d],zez (zns a l).2 d)
 | [],a,d=>rfl
 | x :: r,a,d=>by
   show (layIt a x :: (zns (zez a x) (r++[d])).1,(zns (zez a x) (r++[d])).2)=_
   rw [zq7 r];rfl
theorem zu7:∀ (l:List De) (a:Int),(zns a l).1.length=l.length
 | [],_=>rfl
 | x :: r,a=>by show (_ :: _).length=_;rw [vav,zu7 r,vav]
theorem znt:∀ (l:List Pr) (i:Nat) (p:Pr),zpb i (l++[p])=zpb i l++[z4a (i+l.length) p]
 | [],i,p=>rfl
 | x :: r,i,p=>by
   show z4a i x :: zpb (i+1) (r++[p])=_
   rw [znt r,show i+1+r.length=i+(x :: r).length from by simp;omega];rfl
theorem zq8:∀ (l:List Pr) (i:Nat),(zpb i l).length=l.length
 | [],_=>rfl
 | x :: r,i=>by show (_ :: _).length=_;rw [vav,zq8 r,vav]
theorem zgd (m:Mo):(za6 m).length=m.decls.length+m.procs.length:=by unfold za6;rw [vam,zu7,zq8]
structure LayOk (m:Mo):Prop where
 decls:m.decls.length<=10
 procs:m.procs.length<=6
 kinds:∀ d ∈ m.decls,1<=d.kind/\d.kind<=3/\(d.kind=3->1<=d.n/\d.n<=32)
theorem zfb {m:Mo} (h:m.err=0):m.uses.length<=3/\m.decls.length<=10/\m.procs.length<=6/\(∀ p ∈ m.procs,p.params.length<=3/\p.locals.length<=4/\zaf 6 p.body=false)/\zaf 6 m.main=false:=by
 obtain ⟨_,hm,_⟩:=zue h;unfold Mo.many at hm;simp only [vat] at hm;obtain ⟨h1,h2,h3,h4,h5⟩:=hm;have h1:=of_decide_eq_false h1;have h2:=of_decide_eq_false h2;have h3:=of_decide_eq_false h3;rw [vbw] at h4 h5;refine ⟨by omega,by omega,by omega,fun p hp=>?_,by simpa using h5 m.main (by unfold Mo.bodies;simp)⟩;have:=h4 p hp;simp only [vcs,vat] at this;have k1:=of_decide_eq_false this.1;have k2:=of_decide_eq_false this.2;exact ⟨by omega,by omega,by simpa using h5 p.body (by unfold Mo.bodies;simp;exact Or.inl ⟨p,hp,rfl⟩)⟩
theorem zz0 {m:Mo} (h:m.err=0):LayOk m:=by
 have hp:=zfb h;refine ⟨hp.2.1,hp.2.2.1,fun d hd=>?_⟩;obtain ⟨_,hs,h1,h2⟩:=(z8t h).decls d hd;refine ⟨h1,h2,fun h3=>?_⟩;unfold zd8 at hs;rw [h3,if_neg (by decide),if_pos rfl] at hs;simpa using hs
theorem znu:∀ (l:List De) (a:Int),(∀ d ∈ l,1<=d.kind/\d.kind<=3/\(d.kind=3->1<=d.n/\d.n<=32))->a<=(zns a l).2/\(zns a l).2<=a+32*l.length
 | [],a,_=>⟨Int.le_refl _,by simp [zns]⟩
 | x :: r,a,h=>by
   have hx:=h x (by simp);have ih:=znu r (zez a x) (fun d hd=>h d (by simp [hd]));show a<=(zns (zez a x) r).2/\(zns (zez a x) r).2<=a+32*((x :: r).length:Nat);rw [vav]
   have hn:a<=zez a x/\zez a x<=a+32:=by
    unfold zez;split
    . omega
    . split
      . rename_i h3;have:=hx.2.2 h3;omega
      . omega
   omega
theorem Tryz.infoItem:(Tryz.prog.info? 98).map (fun i=>(i.zero,i.size,i.bytes))=some (some (.agg #[qi 0,qi 0,qi 0,.string ⟨#[]⟩]),4,40):=by kernel_rfl
theorem zgn {A:Nat->Prop} {w:World} {k n a:Int} {s:ByteArray} (h:s.size<=maxLen):zau w A (itD ⟨k,n,a,s⟩) [qi k,qi n,qi a,.string s]:=.cons zpw (.cons zpw (.cons zpw (.cons (zw9 h) .nil)))
theorem zfc (l:List It) (x:It):zgm (l++[x])=zgm l++itD x:=by simp [zgm]
theorem zpc {w:World} {A:Nat->Prop} {a:OA} {l:List It} (h:EAt w A a l.length (zgm l)):Fx.zcr w a l/\Fx.AllFit l:=by
 rcases h with h | ⟨b,off,cs,ha,_,hb,hc,hx⟩
 . have:l=[]:=vak h
   subst this;exact ⟨Or.inl rfl,fun i hi=>by cases hi⟩
 . have g:∀ i (hi:i<l.length) j d,j<4->(itD l[i])[j]? = some d->∃ v,w.cell? ⟨b,off+i*4+j,none⟩=some v/\zgl w A d v:=fun i hi j d hj hd=>by
    obtain ⟨v,hv,EU⟩:=hx.get (i*4+j) d ((zck itD 4 (fun _=>rfl) l i hi j hj).trans hd);exact ⟨v,by rw [vbj];exact hc _ v hv,EU⟩
   refine ⟨Or.inr ⟨b,off,ha,hb,fun i hi=>?_,fun i hi=>?_,fun i hi=>?_,fun i hi=>?_⟩,fun x Bx=>?_⟩
   . obtain ⟨v,hv,hd⟩:=g i hi 0 (.int l[i].kind) (by omega) rfl
     rw [zo0 hd] at hv;exact hv
   . obtain ⟨v,hv,hd⟩:=g i hi 1 (.int l[i].n) (by omega) rfl
     rw [zo0 hd] at hv;exact hv
   . obtain ⟨v,hv,hd⟩:=g i hi 2 (.int l[i].at_) (by omega) rfl
     rw [zo0 hd] at hv;exact hv
   . obtain ⟨v,hv,hd⟩:=g i hi 3 (.str l[i].name) (by omega) rfl
     rw [(zzm hd).1] at hv;exact hv
   . obtain ⟨i,hi,rfl⟩:=vbl Bx
     obtain ⟨v,hv,hd⟩:=g i hi 3 (.str l[i].name) (by omega) rfl;exact (zzm hd).2
theorem ziu (m:Mo) (v:Value) (a1:OA) (c1:Nat) (a2:OA) (c2:Nat) (a3:OA) (c3:Nat) (a4:OA) (c4:Nat) (w:World) (hM:MoAt w Tt m v a1 c1 a2 c2 a3 c3 a4 c4) (Cr:LayOk m) :
 qc 49 #[v] w fun e w'=>(∃ a cap,e = .returned (.tuple #[.slice a (za6 m).length cap,qi (zb3 m)])/\EAt w' (w.heap.size<=·) a (za6 m).length (zgm (za6 m)))/\qb w w':=by
 obtain rfl:=hM.val;have Nk:=hid hM.decls;have MX:=hid hM.procs;have Gt:=hid Cr;have Jm:=Cr.decls;have O3:=Cr.procs;clear hM Cr;go_enter Tryz.func49,Tryz.ntmps49;go_wp2_with fail
 go_loopw [4,5,7,8,14] (fun v dv _ _ i wr=>∃ (j:Nat) (A5:List It) (dt:Int),j<=m.decls.length/\i=qi j/\dv=qi dt/\A5.length=j/\zns 0 (m.decls.take j)=(A5,dt)/\Row (w.heap.size+1) 98 4 wr v A5.length (zgm A5)/\wr.heap[w.heap.size]? = some (kzG m.name a1 m.uses.length c1 a2 m.decls.length c2 a3 m.procs.length c3 a4 m.main.length c4)/\qb w wr) (fun _ _ _ _ i _=>m.decls.length - (intOf i).toNat)
 case atStart=>exact ⟨0,[],0,vag _,rfl,rfl,rfl,rfl,Row.nil _ _ _ _,heap_newP _ _,al1 _ _⟩
 case round=>
  obtain ⟨j,A5,dt,hj,rfl,rfl,hacc,Ch,Aa,hbx,hb⟩:=hrel;have HO:=hid Aa;have CB:=hid hbx;have HB:=hid hb;have L5:=hid Ch;have C9:=hb.size;have Cd:=lt_of_heap hbx;clear Aa hb Ch
  by_cases A4:j<m.decls.length
  . obtain ⟨b,off,rfl,hx⟩:=(Nk.out.later HB.out).de j A4
    obtain ⟨Au,x0,x1,x2,x3,_,_,B5⟩:=hx
    have BP:Hid (zns 0 (m.decls.take (j+1))=(A5++[layIt dt m.decls[j]],zez dt m.decls[j])):=by
     show zns 0 (m.decls.take (j+1))=_;rw [vaf A4,zq7,L5.out]
    have KC:=Gt.out.kinds m.decls[j] (vaj _)
    have BH:0<=dt/\dt<=320:=by
     have:=znu (m.decls.take j) 0 (fun d hd=>Gt.out.kinds d (List.mem_of_mem_take hd));rw [L5.out] at this;simp only [vcc] at this;omega
    generalize m.decls[j]=d at *;have Cs:=KC.1;have Ft:=KC.2.1;have KO:=KC.2.2;clear KC hbx
    by_cases DP:d.kind=2
    . have IW:IntKind.i64.wrap (dt+1)=dt+1:=by simp only [IntKind.wrap,IntKind.bits,IntKind.signed];simp;omega
      have HX:Hid (layIt dt d=⟨d.kind,d.n,dt,d.name⟩):=by show layIt dt d=_;unfold layIt;rw [if_pos (Or.inl DP)]
      have HN:Hid (zez dt d=dt+1):=by show zez dt d=_;unfold zez;rw [if_pos DP]
      have Bi:Hid (Row (w.heap.size+1) 98 4 ((wr.alloc (kzH d.kind d.name d.pub d.n)).alloc (kzI d.kind d.n dt d.name)) u4 A5.length (zgm A5)):=(HO.out.alloc _).alloc _;have BM:Hid (zau ((wr.alloc (kzH d.kind d.name d.pub d.n)).alloc (kzI d.kind d.n dt d.name)) (fun _=>False) (itD ⟨d.kind,d.n,dt,d.name⟩) [qi d.kind,qi d.n,qi dt,.string d.name]):=zgn B5;have C0:Hid (qb w ((wr.alloc (kzH d.kind d.name d.pub d.n)).alloc (kzI d.kind d.n dt d.name))):=thenB HB.out (bl2 _ _ _);have AG:Hid (((wr.alloc (kzH d.kind d.name d.pub d.n)).alloc (kzI d.kind d.n dt d.name)).heap[w.heap.size]? = some (kzG m.name a1 m.uses.length c1 (some (qa b off)) m.decls.length c2 a3 m.procs.length c3 a4 m.main.length c4)):=zab (zab CB.out)
      have b2:(d.kind == 2)=true:=by rw [DP];rfl
      clear B5 Cs Ft KO DP
      go_wp2_with (at_builtin;refine zbs rfl (.tmp 41) (.tmp 43) 28 rfl (w.heap.size+1) 98 _ 4 40 Tryz.underlying28 Tryz.infoItem rfl (by decide) ((wr.alloc (kzH d.kind d.name d.pub d.n)).alloc (kzI d.kind d.n dt d.name)) u4 A5.length (zgm A5) (itD ⟨d.kind,d.n,dt,d.name⟩) rfl Bi.out #[qi d.kind,qi d.n,qi dt,.string d.name] _ (by simp) rfl rfl (fun _=>False) BM.out (fun b _ h=>h.elim) (by omega) (by decide) (by simp;omega) ?_)
      intro g5 c5 w5 Bo Av C2;have B4:=hid Bo;have AU:=hid Av;clear Bo Av Bi BM;go_wp2_with fail;go_roundw
      case rel=>exact ⟨j+1,A5++[_],_,by omega,by go_num,rfl,by simp [hacc],BP.out.trans (by rw [HX.out,HN.out]),by rw [zfc,vam,hacc];exact B4.out,(AU.out.block _ (by omega)).trans AG.out,C0.out.trans (AU.out.mono (by omega))⟩
      case measure=>simp [intOf];omega
    by_cases CQ:d.kind=3
    . have QG:=KO CQ
      have IW:IntKind.i64.wrap (dt+d.n)=dt+d.n:=by simp only [IntKind.wrap,IntKind.bits,IntKind.signed];simp;omega
      have HX:Hid (layIt dt d=⟨d.kind,d.n,dt,d.name⟩):=by show layIt dt d=_;unfold layIt;rw [if_pos (Or.inr CQ)]
      have HN:Hid (zez dt d=dt+d.n):=by show zez dt d=_;unfold zez;rw [if_neg DP,if_pos CQ]
      have Bi:Hid (Row (w.heap.size+1) 98 4 ((wr.alloc (kzH d.kind d.name d.pub d.n)).alloc (kzI d.kind d.n dt d.name)) u4 A5.length (zgm A5)):=(HO.out.alloc _).alloc _;have BM:Hid (zau ((wr.alloc (kzH d.kind d.name d.pub d.n)).alloc (kzI d.kind d.n dt d.name)) (fun _=>False) (itD ⟨d.kind,d.n,dt,d.name⟩) [qi d.kind,qi d.n,qi dt,.string d.name]):=zgn B5;have C0:Hid (qb w ((wr.alloc (kzH d.kind d.name d.pub d.n)).alloc (kzI d.kind d.n dt d.name))):=thenB HB.out (bl2 _ _ _);have AG:Hid (((wr.alloc (kzH d.kind d.name d.pub d.n)).alloc (kzI d.kind d.n dt d.name)).heap[w.heap.size]? = some (kzG m.name a1 m.uses.length c1 (some (qa b off)) m.decls.length c2 a3 m.procs.length c3 a4 m.main.length c4)):=zab (zab CB.out)
      have b2:(d.kind == 2)=false:=by rw [CQ];rfl
      have b3:(d.kind == 3)=true:=by rw [CQ];rfl
      clear B5 Cs Ft KO DP CQ QG
      go_wp2_with (at_builtin;refine zbs rfl (.tmp 41) (.tmp 43) 28 rfl (w.heap.size+1) 98 _ 4 40 Tryz.underlying28 Tryz.infoItem rfl (by decide) ((wr.alloc (kzH d.kind d.name d.pub d.n)).alloc (kzI d.kind d.n dt d.name)) u4 A5.length (zgm A5) (itD ⟨d.kind,d.n,dt,d.name⟩) rfl Bi.out #[qi d.kind,qi d.n,qi dt,.string d.name] _ (by simp) rfl rfl (fun _=>False) BM.out (fun b _ h=>h.elim) (by omega) (by decide) (by simp;omega) ?_)
      intro g5 c5 w5 Bo Av C2;have B4:=hid Bo;have AU:=hid Av;clear Bo Av Bi BM;go_wp2_with fail;go_roundw
      case rel=>exact ⟨j+1,A5++[_],_,by omega,by go_num,rfl,by simp [hacc],BP.out.trans (by rw [HX.out,HN.out]),by rw [zfc,vam,hacc];exact B4.out,(AU.out.block _ (by omega)).trans AG.out,C0.out.trans (AU.out.mono (by omega))⟩
      case measure=>simp [intOf];omega
    have HX:Hid (layIt dt d=⟨d.kind,d.n,0,d.name⟩):=by show layIt dt d=_;unfold layIt;rw [if_neg (by omega)]
    have HN:Hid (zez dt d=dt):=by show zez dt d=_;unfold zez;rw [if_neg DP,if_neg CQ]
    have Bi:Hid (Row (w.heap.size+1) 98 4 ((wr.alloc (kzH d.kind d.name d.pub d.n)).alloc (kzI d.kind d.n 0 d.name)) u4 A5.length (zgm A5)):=(HO.out.alloc _).alloc _;have BM:Hid (zau ((wr.alloc (kzH d.kind d.name d.pub d.n)).alloc (kzI d.kind d.n 0 d.name)) (fun _=>False) (itD ⟨d.kind,d.n,0,d.name⟩) [qi d.kind,qi d.n,qi 0,.string d.name]):=zgn B5;have C0:Hid (qb w ((wr.alloc (kzH d.kind d.name d.pub d.n)).alloc (kzI d.kind d.n 0 d.name))):=thenB HB.out (bl2 _ _ _);have AG:Hid (((wr.alloc (kzH d.kind d.name d.pub d.n)).alloc (kzI d.kind d.n 0 d.name)).heap[w.heap.size]? = some (kzG m.name a1 m.uses.length c1 (some (qa b off)) m.decls.length c2 a3 m.procs.length c3 a4 m.main.length c4)):=zab (zab CB.out);have b2:(d.kind == 2)=false:=beq_eq_false_iff_ne.2 DP;have b3:(d.kind == 3)=false:=beq_eq_false_iff_ne.2 CQ;clear B5 Cs Ft KO DP CQ
    go_wp2_with (at_builtin;refine zbs rfl (.tmp 41) (.tmp 43) 28 rfl (w.heap.size+1) 98 _ 4 40 Tryz.underlying28 Tryz.infoItem rfl (by decide) ((wr.alloc (kzH d.kind d.name d.pub d.n)).alloc (kzI d.kind d.n 0 d.name)) u4 A5.length (zgm A5) (itD ⟨d.kind,d.n,0,d.name⟩) rfl Bi.out #[qi d.kind,qi d.n,qi 0,.string d.name] _ (by simp) rfl rfl (fun _=>False) BM.out (fun b _ h=>h.elim) (by omega) (by decide) (by simp;omega) ?_)
    intro g5 c5 w5 Bo Av C2;have B4:=hid Bo;have AU:=hid Av;clear Bo Av Bi BM;go_wp2_with fail;go_roundw
    case rel=>exact ⟨j+1,A5++[_],_,by omega,by go_num,rfl,by simp [hacc],BP.out.trans (by rw [HX.out,HN.out]),by rw [zfc,vam,hacc];exact B4.out,(AU.out.block _ (by omega)).trans AG.out,C0.out.trans (AU.out.mono (by omega))⟩
    case measure=>simp [intOf];omega
  . obtain rfl:j=m.decls.length:=by omega
    have Pf:Hid (zns 0 m.decls=(A5,dt)):=by have:=L5.out;rw [vau] at this;exact this
    have P6:Hid (Row (w.heap.size+1) 98 4 wr u4 m.decls.length (zgm A5)):=hacc ▸ HO.out;obtain ⟨k0,k1,k2,k3,k4,kf⟩:=zaa CB.out;clear L5 hbx HO;go_wp2_with fail;clear k0 k1 k2 k3 k4 kf
    go_loopw [4,9,10,49] (fun v _ _ i wr=>∃ (j:Nat) (DX:List It),j<=m.procs.length/\i=qi j/\DX.length=m.decls.length+j/\DX=A5++zpb 0 (m.procs.take j)/\Row (w.heap.size+1) 98 4 wr v DX.length (zgm DX)/\wr.heap[w.heap.size]? = some (kzG m.name a1 m.uses.length c1 a2 m.decls.length c2 a3 m.procs.length c3 a4 m.main.length c4)/\qb w wr) (fun _ _ _ i _=>m.procs.length - (intOf i).toNat)
    case atStart=>exact ⟨0,A5,vag _,rfl,by rw [hacc,vbp],by simp [zpb],hacc ▸ P6.out,CB.out,HB.out⟩
    case round=>
     clear P6 CB HB C9 Cd;obtain ⟨j,DX,hj2,rfl,hac2,hdef,Aa,hbx,hb⟩:=hrel;have HO:=hid Aa;have CB:=hid hbx;have HB:=hid hb;have G6:=hid hdef;have C9:=hb.size;have Cd:=lt_of_heap hbx;clear Aa hb hdef
     by_cases A4:j<m.procs.length
     . obtain ⟨b,off,q1,d1,q2,d2,q3,d3,rfl,hx⟩:=(MX.out.later HB.out).pr j A4
       obtain ⟨Au,x0,x1,x2,x3,x4,_,_,_,B5⟩:=hx
       have BP:Hid (DX++[z4a j m.procs[j]]=A5++zpb 0 (m.procs.take (j+1))):=by
        show DX++[z4a j m.procs[j]]=_;rw [vaf A4,znt,G6.out,vdc,vcc,vdl (by omega),vba]
       generalize m.procs[j]=p at *;have Bi:Hid (Row (w.heap.size+1) 98 4 (wr.alloc (pU p q1 d1 q2 d2 q3 d3)) u4 DX.length (zgm DX)):=HO.out.alloc _;have BM:Hid (zau (wr.alloc (pU p q1 d1 q2 d2 q3 d3)) (fun _=>False) (itD (z4a j p)) [qi 4,qi p.params.length,qi j,.string p.name]):=zgn B5;have C0:Hid (qb w (wr.alloc (pU p q1 d1 q2 d2 q3 d3))):=thenB HB.out (al1 _ _);have AG:Hid ((wr.alloc (pU p q1 d1 q2 d2 q3 d3)).heap[w.heap.size]? = some (kzG m.name a1 m.uses.length c1 a2 m.decls.length c2 (some (qa b off)) m.procs.length c3 a4 m.main.length c4)):=zab CB.out;clear B5 hbx
       go_wp2_with (at_builtin;refine zbs rfl (.tmp 54) (.tmp 62) 28 rfl (w.heap.size+1) 98 _ 4 40 Tryz.underlying28 Tryz.infoItem rfl (by decide) (wr.alloc (pU p q1 d1 q2 d2 q3 d3)) u4 DX.length (zgm DX) (itD (z4a j p)) rfl Bi.out #[qi 4,qi p.params.length,qi j,.string p.name] _ (by simp) rfl rfl (fun _=>False) BM.out (fun b _ h=>h.elim) (by omega) (by decide) (by simp;omega) ?_)
       intro g5 c5 w5 Bo Av C2;have B4:=hid Bo;have AU:=hid Av;clear Bo Av Bi BM;go_wp2_with fail;go_roundw
       case rel=>exact ⟨j+1,DX++[z4a j p],by omega,by go_num,by simp [hac2];omega,BP.out,by rw [zfc,vam,hac2];exact B4.out,(AU.out.block _ (by omega)).trans AG.out,C0.out.trans (AU.out.mono (by omega))⟩
       case measure=>simp [intOf];omega
     . obtain rfl:j=m.procs.length:=by omega
       have HI:Hid (za6 m=DX):=by
        show za6 m=DX;rw [G6.out,vau];unfold za6;rw [Pf.out]
       have RV:Hid (zb3 m=dt):=by show zb3 m=dt;unfold zb3;rw [Pf.out]
       obtain ⟨a5,c5,rfl,hea⟩:=HO.out.slice;have I6:=hid hea;clear hea hbx;go_wp2_with fail;go_ret2;refine ⟨⟨a5,c5,?_,?_⟩,HB.out⟩
       . rw [HI.out,RV.out,hac2];rfl
       . rw [HI.out]
         exact I6.out.moves ⟨vaa _,fun b _ h=>⟨by have:w.heap.size+1<=b:=h;show w.heap.size<=b;omega,rfl⟩⟩
set_option maxHeartbeats 1600000
def chkM (m:Mo):Int:=if m.err≠0 then m.err else if Fx.zpu (Fx.ze3 m.uses)||Fx.zpu (Fx.zek (za6 m)) then 6 else 0
theorem zel {w:World} {A:Nat->Prop} {a:OA} {l:List ByteArray} (h:DAt w A a l.length (zaj l)):Fx.zfe w a l/\∀ s ∈ l,s.size<=maxLen:=by
 refine ⟨?_,fun s hs=>?_⟩
 . rcases h.2.2 with h0 | ⟨b,off,cs,ha,_,hb,hc,hx⟩
   . exact Or.inl (vak h0)
   . refine Or.inr ⟨b,off,ha,hb,fun i hi=>?_⟩
     obtain ⟨v,hv,hd⟩:=hx.get i (.str l[i]) (by simp [zaj,hi]);rw [(zc8 hd).1] at hv;exact hc i _ hv
 . obtain ⟨i,hi,rfl⟩:=vbl hs
   obtain ⟨b,off,_,_,_,h4⟩:=h.str i hi;exact h4
theorem zq9 {m:Mo} {v:Value} {a1 a2 a3 a4:OA} {c1 c2 c3 c4:Nat} {w:World} (hM:MoAt w Tt m v a1 c1 a2 c2 a3 c3 a4 c4) (h3:m.uses.length<=3) :
 qc 59 #[.slice a1 m.uses.length c1] w fun e w'=>e = .returned (.bool (Fx.zpu (Fx.ze3 m.uses)))/\qb w w':=
 Fx.zfq a1 c1 m.uses w (zel hM.uses).1 (by omega) (zel hM.uses).2
theorem zs8 {w:World} {B:Nat} {v:Value} {l:List It} (h:w.ownsRow B 9 1 v l.length (Fx.zw1 l)) (hl:l.length<=1000000) (hf:Fx.AllFit l) :
 qc 59 #[v] w fun e w'=>e = .returned (.bool (Fx.zpu (Fx.zek l)))/\qb w w':=by
 obtain ⟨a,c,rfl,hS⟩:=Fx.zvk h;rw [← Fx.zlr]
 exact Fx.zfq a c _ w hS (by rw [vcp];omega) (fun s h=>by
  obtain ⟨i,hi,rfl⟩:=vch.1 h
  exact hf i hi)
theorem zge (m:Mo) (v:Value) (a1:OA) (c1:Nat) (a2:OA) (c2:Nat) (a3:OA) (c3:Nat) (a4:OA) (c4:Nat) (w:World) (hM:MoAt w Tt m v a1 c1 a2 c2 a3 c3 a4 c4) :
 qc 48 #[v] w fun e w'=>e = .returned (qi (chkM m))/\qb w w':=by
 obtain rfl:=hM.val;have HM:=hid hM;have HC:=hid (zmn m _ a1 c1 a2 c2 a3 c3 a4 c4 (w.alloc (kzG m.name a1 m.uses.length c1 a2 m.decls.length c2 a3 m.procs.length c3 a4 m.main.length c4)) (hM.later (al1 _ _)));clear hM
 obtain ⟨r,hr⟩:∃ r,r=chkM m:=⟨_,rfl⟩
 rw [← hr];have HR:=hid hr;clear hr;go_enter Tryz.func48,Tryz.ntmps48;go_wp2_with fail;refine HC.out.mono ?_;rintro e w1 ⟨rfl,A6⟩;have A7:=hid (thenB (al1 w _) A6);have An:=A6.size;simp at An;have q1:=(A6.block _ (by simp)).trans (heap_newP w _);have JQ:=hid q1;obtain ⟨x0,x1,x2,x3,x4,xf⟩:=zaa q1;have CF:=lt_of_heap q1;clear A6 q1 HC
 by_cases he:m.err=0
 . have Ch:=zz0 he
   have Ku:=(zfb he).1;have Bn:=hid (ziu m _ a1 c1 a2 c2 a3 c3 a4 c4 w1 (HM.out.later A7.out) Ch);have Ao:Hid (r=if Fx.zpu (Fx.ze3 m.uses)||Fx.zpu (Fx.zek (za6 m)) then 6 else 0):=HR.out.trans (if_neg (by simp [he]))
   have K4:Hid ((za6 m).length<=16):=by have h1:=Ch.decls;have h2:=Ch.procs;show (za6 m).length<=16;rw [zgd];omega
   clear Ch HR;go_wp2_with fail;refine Bn.out.mono ?_;rintro e w2 ⟨⟨ai,ci,rfl,hit⟩,Ab⟩;have Af:=hid (thenB A7.out Ab);have AA:=Ab.size;have KX:=hid ((Ab.block _ CF).trans JQ.out);obtain ⟨HI,HF⟩:=zpc hit;have Kc:=hid HI;have Kh:=hid HF;clear Ab Bn hit HI HF x0 x1 x2 x3 x4 xf;obtain ⟨x0,x1,x2,x3,x4,xf⟩:=zaa KX.out;have Cb:=lt_of_heap KX.out;have BI:=hid (zq9 (HM.out.later Af.out) Ku)
   cases C6:Fx.zpu (Fx.ze3 m.uses) with
   | true=>
     rw [C6] at BI Ao;have Aq:Hid (r=6):=Ao.out;clear C6 Ao;go_wp2_with fail;refine BI.out.mono ?_;rintro e w3 ⟨rfl,A9⟩;have Ae:=hid (thenB Af.out A9);clear A9;go_wp2_with fail;go_ret;exact ⟨ret_int Aq.out.symm,Ae.out⟩
   | false=>
     rw [C6] at BI Ao;clear C6;go_wp2_with fail;refine BI.out.mono ?_;rintro e w3 ⟨rfl,A9⟩;have Ae:=hid (thenB Af.out A9);have D1:=hid (Fx.zh9 ai ci (za6 m) w3 (Kc.out.later A9) (by have:=K4.out;omega));clear A9;go_wp2_with fail;refine D1.out.mono ?_;rintro e w4 ⟨v4,rfl,ho4,Aj⟩;have Ar:=hid (thenB Ae.out Aj);have BR:=hid (zs8 ho4 (by have:=K4.out;omega) Kh.out);clear Aj ho4;go_wp2_with fail;refine BR.out.mono ?_;rintro e w5 ⟨rfl,As⟩;have Av:=hid (thenB Ar.out As);clear As
     cases Do:Fx.zpu (Fx.zek (za6 m)) with
     | true=>
       have Aq:Hid (r=6):=Ao.out.trans (by rw [Do];rfl);clear Do Ao;go_wp2_with fail;go_ret;exact ⟨ret_int Aq.out.symm,Av.out⟩
     | false=>
       have Aq:Hid (r=0):=Ao.out.trans (by rw [Do];rfl);clear Do Ao;go_wp2_with fail;go_ret;exact ⟨ret_int Aq.out.symm,Av.out⟩
 . have Ao:Hid (r=m.err):=HR.out.trans (if_pos he)
   go_wp2_with fail;go_ret;exact ⟨ret_int Ao.out.symm,A7.out⟩
set_option maxHeartbeats 3200000
def pick (bs:List Bool) (l:List It):List It:=(bs.zip l).filterMap fun p=>if p.1 then some p.2 else none
def zj3 (m:Mo):List Bool:=m.decls.map De.pub++m.procs.map Pr.pub
def shownIts (m:Mo):List It:=pick (zj3 m) (za6 m)
theorem zh3 (m:Mo):(zj3 m).length=m.decls.length+m.procs.length:=by simp [zj3]
theorem zz1 (m:Mo) (j:Nat) (h:j<m.decls.length):(zj3 m)[j]'(by rw [zh3];omega)=m.decls[j].pub:=by
 unfold zj3;rw [vcf (by simpa using h)];simp
theorem zz2 (m:Mo) (j:Nat) (h:j<m.procs.length):(zj3 m)[m.decls.length+j]'(by rw [zh3];omega)=m.procs[j].pub:=by
 unfold zj3;rw [List.getElem_append_right (by simp)];simp
theorem zra (bs:List Bool) (l:List It) (k:Nat) (hb:k<bs.length) (hl:k<l.length):pick (bs.take (k+1)) (l.take (k+1))=pick (bs.take k) (l.take k)++if bs[k] then [l[k]] else []:=by
 unfold pick;rw [vaf hb,vaf hl,List.zip_append (by simp;omega),List.filterMap_append]
 congr 1
 cases bs[k]<;>rfl
theorem zz3 (m:Mo) (v:Value) (a1:OA) (c1:Nat) (a2:OA) (c2:Nat) (a3:OA) (c3:Nat) (a4:OA) (c4:Nat) (items:List It) (ai:OA) (ci:Nat) (w:World) (hM:MoAt w Tt m v a1 c1 a2 c2 a3 c3 a4 c4) (Cr:LayOk m) (Ah:items.length=m.decls.length+m.procs.length) (hI:Fx.zcr w ai items) (hF:Fx.AllFit items) :
 qc 50 #[v,.slice ai items.length ci] w fun e w'=>(∃ a cap,e = .returned (.slice a (pick (zj3 m) items).length cap)/\EAt w' (w.heap.size<=·) a (pick (zj3 m) items).length (zgm (pick (zj3 m) items)))/\qb w w':=by
 obtain rfl:=hM.val;have Nk:=hid hM.decls;have MX:=hid hM.procs;have Kc:=hid hI;have Kh:=hid hF;have Ev:=hid Ah;have Jm:=Cr.decls;have O3:=Cr.procs;clear hM Cr hI hF Ah;go_enter Tryz.func50,Tryz.ntmps50;go_wp2_with fail
 go_loopw [5,6,7,13] (fun v _ _ i wr=>∃ (j:Nat) (A5:List It),j<=m.decls.length/\i=qi j/\A5.length<=j/\A5=pick ((zj3 m).take j) (items.take j)/\Row (w.heap.size+1) 98 4 wr v A5.length (zgm A5)/\wr.heap[w.heap.size]? = some (kzG m.name a1 m.uses.length c1 a2 m.decls.length c2 a3 m.procs.length c3 a4 m.main.length c4)/\qb w wr) (fun _ _ _ i _=>m.decls.length - (intOf i).toNat)
 case atStart=>exact ⟨0,[],vag _,rfl,vaa _,by simp [pick],Row.nil _ _ _ _,heap_newP _ _,al1 _ _⟩
 case round=>
  obtain ⟨j,A5,hj,rfl,hacc,hdef,Aa,hbx,hb⟩:=hrel;have HO:=hid Aa;have CB:=hid hbx;have HB:=hid hb;have G6:=hid hdef;have C9:=hb.size;have Cd:=lt_of_heap hbx;clear Aa hb hdef
  by_cases A4:j<m.decls.length
  . have Iv:j<items.length:=by have:=Ev.out;omega
    have BP:Hid (pick ((zj3 m).take (j+1)) (items.take (j+1))=A5++if m.decls[j].pub then [items[j]] else []):=by
     show pick ((zj3 m).take (j+1)) (items.take (j+1))=_;rw [zra _ _ j (by rw [zh3];omega) Iv,zz1 m j A4,← G6.out]
    have GM:=Kh.out items[j] (vaj _);have DC:=hid ((Kc.out.later HB.out).place Iv);obtain ⟨b,off,rfl,hx⟩:=(Nk.out.later HB.out).de j A4;obtain ⟨Au,x0,x1,xp,x3,_,_,B5⟩:=hx;obtain ⟨b2,off2,rfl,hbl2,i0,i1,i2,i3⟩:=DC.out
    have Qt:(j:Int)<items.length:=by omega
    clear DC;generalize m.decls[j]=d at *;generalize items[j]=x at *
    cases Bu:d.pub with
    | true=>
      have Bi:Hid (Row (w.heap.size+1) 98 4 (wr.alloc (kzH d.kind d.name d.pub d.n)) u5 A5.length (zgm A5)):=HO.out.alloc _;have BM:Hid (zau (wr.alloc (kzH d.kind d.name d.pub d.n)) (fun _=>False) (itD x) [qi x.kind,qi x.n,qi x.at_,.string x.name]):=zgn GM;have AG:Hid ((wr.alloc (kzH d.kind d.name d.pub d.n)).heap[w.heap.size]? = some (kzG m.name a1 m.uses.length c1 (some (qa b off)) m.decls.length c2 a3 m.procs.length c3 a4 m.main.length c4)):=zab CB.out;have C0:Hid (qb w (wr.alloc (kzH d.kind d.name d.pub d.n))):=thenB HB.out (al1 _ _);have EZ:Hid (pick ((zj3 m).take (j+1)) (items.take (j+1))=A5++[x]):=BP.out.trans (by rw [Bu];rfl);rw [Bu] at Bi BM AG C0;clear GM hbx BP;rw [Bu] at xp
      go_wp2_with (at_builtin;refine zbs rfl (.tmp 20) (.tmp 25) 28 rfl (w.heap.size+1) 98 _ 4 40 Tryz.underlying28 Tryz.infoItem rfl (by decide) (wr.alloc (kzH d.kind d.name true d.n)) u5 A5.length (zgm A5) (itD x) rfl Bi.out #[qi x.kind,qi x.n,qi x.at_,.string x.name] _ (by simp) rfl rfl (fun _=>False) BM.out (fun b _ h=>h.elim) (by omega) (by decide) (by simp;omega) ?_)
      intro g5 c5 w5 Bo Av C2;have B4:=hid Bo;have AU:=hid Av;clear Bo Av Bi BM;go_wp2_with fail;go_roundw
      case rel=>exact ⟨j+1,A5++[x],by omega,by go_num,by rw [vam];simp;omega,EZ.out.symm,by rw [zfc,vam];exact B4.out,(AU.out.block _ (by omega)).trans AG.out,C0.out.trans (AU.out.mono (by omega))⟩
      case measure=>simp [intOf];omega
    | false=>
      have Bi:Hid (Row (w.heap.size+1) 98 4 (wr.alloc (kzH d.kind d.name d.pub d.n)) u5 A5.length (zgm A5)):=HO.out.alloc _;have AG:Hid ((wr.alloc (kzH d.kind d.name d.pub d.n)).heap[w.heap.size]? = some (kzG m.name a1 m.uses.length c1 (some (qa b off)) m.decls.length c2 a3 m.procs.length c3 a4 m.main.length c4)):=zab CB.out;have C0:Hid (qb w (wr.alloc (kzH d.kind d.name d.pub d.n))):=thenB HB.out (al1 _ _);have EZ:Hid (pick ((zj3 m).take (j+1)) (items.take (j+1))=A5):=BP.out.trans (by rw [Bu];simp);rw [Bu] at Bi AG C0;clear GM hbx BP;rw [Bu] at xp;go_wp2_with fail;go_roundw
      case rel=>exact ⟨j+1,A5,by omega,by go_num,by omega,EZ.out.symm,Bi.out,AG.out,C0.out⟩
      case measure=>simp [intOf];omega
  . obtain rfl:j=m.decls.length:=by omega
    have PA:Hid (A5=pick ((zj3 m).take m.decls.length) (items.take m.decls.length)):=G6.out;obtain ⟨k0,k1,k2,k3,k4,kf⟩:=zaa CB.out;clear G6 hbx;go_wp2_with fail;clear k0 k1 k2 k3 k4 kf
    go_loopw [5,8,9,31] (fun v _ _ i wr=>∃ (j:Nat) (A5:List It),j<=m.procs.length/\i=qi j/\A5.length<=m.decls.length+j/\A5=pick ((zj3 m).take (m.decls.length+j)) (items.take (m.decls.length+j))/\Row (w.heap.size+1) 98 4 wr v A5.length (zgm A5)/\wr.heap[w.heap.size]? = some (kzG m.name a1 m.uses.length c1 a2 m.decls.length c2 a3 m.procs.length c3 a4 m.main.length c4)/\qb w wr) (fun _ _ _ i _=>m.procs.length - (intOf i).toNat)
    case atStart=>exact ⟨0,A5,vag _,rfl,hacc,PA.out,HO.out,CB.out,HB.out⟩
    case round=>
     clear HO CB HB C9 Cd PA hacc;obtain ⟨j,A5,hj2,rfl,hacc,hdef,Aa,hbx,hb⟩:=hrel;have HO:=hid Aa;have CB:=hid hbx;have HB:=hid hb;have G6:=hid hdef;have C9:=hb.size;have Cd:=lt_of_heap hbx;clear Aa hb hdef
     by_cases A4:j<m.procs.length
     . have Iv:m.decls.length+j<items.length:=by have:=Ev.out;omega
       have BP:Hid (pick ((zj3 m).take (m.decls.length+(j+1))) (items.take (m.decls.length+(j+1)))=A5++if m.procs[j].pub then [items[m.decls.length+j]] else []):=by
        show pick ((zj3 m).take (m.decls.length+j+1)) (items.take (m.decls.length+j+1))=_;rw [zra _ _ (m.decls.length+j) (by rw [zh3];omega) Iv,zz2 m j A4,← G6.out]
       have GM:=Kh.out items[m.decls.length+j] (vaj _);have DC:=hid ((Kc.out.later HB.out).place Iv);obtain ⟨b,off,q1,d1,q2,d2,q3,d3,rfl,hx⟩:=(MX.out.later HB.out).pr j A4;obtain ⟨Au,x0,xp,x2,x3,x4,_,_,_,B5⟩:=hx;obtain ⟨b2,off2,rfl,hbl2,i0,i1,i2,i3⟩:=DC.out
       have Ml:((m.decls.length:Int)+(j:Int))=((m.decls.length+j:Nat):Int):=by omega
       have IW:IntKind.i64.wrap ((m.decls.length:Int)+(j:Int))=((m.decls.length+j:Nat):Int):=by simp only [IntKind.wrap,IntKind.bits,IntKind.signed];simp;omega
       have Qt:((m.decls.length+j:Nat):Int)<items.length:=by omega
       have SD:(0:Int)<=((m.decls.length+j:Nat):Int):=by omega
       obtain ⟨k0,k1,k2,k3,k4,kf⟩:=zaa CB.out;clear DC Ml;generalize m.procs[j]=p at *;generalize items[m.decls.length+j]=x at *
       cases Bu:p.pub with
       | true=>
         have Bi:Hid (Row (w.heap.size+1) 98 4 (wr.alloc (kzK p.name p.pub q1 p.params.length d1 q2 p.locals.length d2 q3 p.body.length d3)) u5 A5.length (zgm A5)):=HO.out.alloc _;have BM:Hid (zau (wr.alloc (kzK p.name p.pub q1 p.params.length d1 q2 p.locals.length d2 q3 p.body.length d3)) (fun _=>False) (itD x) [qi x.kind,qi x.n,qi x.at_,.string x.name]):=zgn GM;have AG:Hid ((wr.alloc (kzK p.name p.pub q1 p.params.length d1 q2 p.locals.length d2 q3 p.body.length d3)).heap[w.heap.size]? = some (kzG m.name a1 m.uses.length c1 a2 m.decls.length c2 (some (qa b off)) m.procs.length c3 a4 m.main.length c4)):=zab CB.out;have C0:Hid (qb w (wr.alloc (kzK p.name p.pub q1 p.params.length d1 q2 p.locals.length d2 q3 p.body.length d3))):=thenB HB.out (al1 _ _);have EZ:Hid (pick ((zj3 m).take (m.decls.length+(j+1))) (items.take (m.decls.length+(j+1)))=A5++[x]):=BP.out.trans (by rw [Bu];rfl)
         rw [Bu] at Bi BM AG C0;clear GM hbx BP;rw [Bu] at xp
         go_wp2_with (at_builtin;refine zbs rfl (.tmp 38) (.tmp 47) 28 rfl (w.heap.size+1) 98 _ 4 40 Tryz.underlying28 Tryz.infoItem rfl (by decide) (wr.alloc (kzK p.name true q1 p.params.length d1 q2 p.locals.length d2 q3 p.body.length d3)) u5 A5.length (zgm A5) (itD x) rfl Bi.out #[qi x.kind,qi x.n,qi x.at_,.string x.name] _ (by simp) rfl rfl (fun _=>False) BM.out (fun b _ h=>h.elim) (by omega) (by decide) (by simp;omega) ?_)
         intro g5 c5 w5 Bo Av C2;have B4:=hid Bo;have AU:=hid Av;clear Bo Av Bi BM;go_wp2_with fail;go_roundw
         case rel=>exact ⟨j+1,A5++[x],by omega,by go_num,by rw [vam];simp;omega,EZ.out.symm,by rw [zfc,vam];exact B4.out,(AU.out.block _ (by omega)).trans AG.out,C0.out.trans (AU.out.mono (by omega))⟩
         case measure=>simp [intOf];omega
       | false=>
         have Bi:Hid (Row (w.heap.size+1) 98 4 (wr.alloc (kzK p.name p.pub q1 p.params.length d1 q2 p.locals.length d2 q3 p.body.length d3)) u5 A5.length (zgm A5)):=HO.out.alloc _;have AG:Hid ((wr.alloc (kzK p.name p.pub q1 p.params.length d1 q2 p.locals.length d2 q3 p.body.length d3)).heap[w.heap.size]? = some (kzG m.name a1 m.uses.length c1 a2 m.decls.length c2 (some (qa b off)) m.procs.length c3 a4 m.main.length c4)):=zab CB.out;have C0:Hid (qb w (wr.alloc (kzK p.name p.pub q1 p.params.length d1 q2 p.locals.length d2 q3 p.body.length d3))):=thenB HB.out (al1 _ _);have EZ:Hid (pick ((zj3 m).take (m.decls.length+(j+1))) (items.take (m.decls.length+(j+1)))=A5):=BP.out.trans (by rw [Bu];simp);rw [Bu] at Bi AG C0;clear GM hbx BP;rw [Bu] at xp;go_wp2_with fail;go_roundw
         case rel=>exact ⟨j+1,A5,by omega,by go_num,by omega,EZ.out.symm,Bi.out,AG.out,C0.out⟩
         case measure=>simp [intOf];omega
     . obtain rfl:j=m.procs.length:=by omega
       have HR:Hid (pick (zj3 m) items=A5):=by
        show pick (zj3 m) items=A5;rw [G6.out,vaw (by rw [zh3];omega),vaw (by rw [Ev.out];omega)]
       obtain ⟨a5,c5,rfl,hea⟩:=HO.out.slice;have I6:=hid hea;clear hea hbx;go_wp2_with fail;go_ret;refine ⟨⟨a5,c5,?_,?_⟩,HB.out⟩
       . rw [HR.out];rfl
       . rw [HR.out]
         exact I6.out.moves ⟨vaa _,fun b _ h=>⟨by have:w.heap.size+1<=b:=h;show w.heap.size<=b;omega,rfl⟩⟩
end Go.Proofs.YtndkhgakfodldaaGreatDoor

namespace Go.Proofs.YtndkhgakfodldaaGreatDoor
set_option maxRecDepth 100000
set_option maxHeartbeats 3200000
open Go.RowKit Go.Maps Go.WideMaps Go.Shelf
set_option linter.unusedSimpArgs false
def zs9 (lo:Nat) (m:Mo) (e:Ending) (w:World):Prop:=
 (chkM m≠0/\e = .returned (.tuple #[.agg #[.string ⟨#[]⟩,qs],qi (chkM m)]))\/
 (chkM m=0/\∃ a cap,e = .returned (.tuple #[.agg #[.string m.name,.slice a (shownIts m).length cap],qi 0])/\EAt w (lo<=·) a (shownIts m).length (zgm (shownIts m)))
theorem zpd {m:Mo} (h:chkM m=0):m.err=0:=by
 unfold chkM at h
 by_cases he:m.err=0
 . exact he
 . rw [if_pos he] at h;exact h
theorem yaz {w:World} {b:Nat} {x0 x1 x2 x3 x4:Value} {t:TypeId} (h:w.heap[b]? = some (.cells #[x0,x1,x2,x3,x4] t (0,0))):w.cell? (qa b 0)=some x0/\w.cell? (qa b 1)=some x1/\w.cell? (qa b 2)=some x2/\w.cell? (qa b 3)=some x3/\w.cell? (qa b 4)=some x4:=by
 obtain ⟨h0,h1,h2,h3,h4,_⟩:=zaa h;exact ⟨h0,h1,h2,h3,h4⟩
theorem z2y {W:World} {b c:Nat} (hn:b≠c) {x0 x1 x2 x3 x4:Value} (h:W.cell? (qa b 0)=some x0/\W.cell? (qa b 1)=some x1/\W.cell? (qa b 2)=some x2/\W.cell? (qa b 3)=some x3/\W.cell? (qa b 4)=some x4) (u v:Value) :
 ((W.setCell (qa c 0) u).setCell (qa c 1) v).cell? (qa b 0)=some x0/\((W.setCell (qa c 0) u).setCell (qa c 1) v).cell? (qa b 1)=some x1/\((W.setCell (qa c 0) u).setCell (qa c 1) v).cell? (qa b 2)=some x2/\((W.setCell (qa c 0) u).setCell (qa c 1) v).cell? (qa b 3)=some x3/\((W.setCell (qa c 0) u).setCell (qa c 1) v).cell? (qa b 4)=some x4:=by
 have e:((W.setCell (qa c 0) u).setCell (qa c 1) v).heap[b]? = W.heap[b]?:=(heap_set_ne hn _).trans (heap_set_ne hn _)
 have g:∀ o,((W.setCell (qa c 0) u).setCell (qa c 1) v).cell? (qa b o)=W.cell? (qa b o):=fun o=>vei (w:=W) (a:=(qa b o)) e
 exact ⟨(g 0).trans h.1,(g 1).trans h.2.1,(g 2).trans h.2.2.1,(g 3).trans h.2.2.2.1,(g 4).trans h.2.2.2.2⟩
theorem z2z (m:Mo) (v:Value) (a1:OA) (c1:Nat) (a2:OA) (c2:Nat) (a3:OA) (c3:Nat) (a4:OA) (c4:Nat) (w:World) (hM:MoAt w Tt m v a1 c1 a2 c2 a3 c3 a4 c4) :
 qc 15 #[v] w fun e w'=>zs9 w.heap.size m e w'/\qb w w':=by
 obtain rfl:=hM.val;have HM:=hid hM;have HC:=hid (zge m _ a1 c1 a2 c2 a3 c3 a4 c4 ((w.alloc (kzG m.name a1 m.uses.length c1 a2 m.decls.length c2 a3 m.procs.length c3 a4 m.main.length c4)).alloc (.cells #[.string ⟨#[]⟩,qs] 30)) (hM.later (bl2 _ _ _)));clear hM;go_enter Tryz.func15,Tryz.ntmps15;go_wp2_with fail;refine HC.out.mono ?_;rintro e w1 ⟨rfl,A6⟩;have A7:=hid (thenB (bl2 w _ _) A6);have An:=A6.size;simp at An;have q1:=(A6.block w.heap.size (by simp;omega)).trans (zab (heap_newP w _));have q2:w1.heap[w.heap.size+1]? = some (.cells #[.string ⟨#[]⟩,qs] 30):=(A6.block (w.heap.size+1) (by simp)).trans (by simpa using heap_newP (w.alloc _) _);have JQ:=hid q1;have KX:=hid q2;obtain ⟨x0,x1,x2,x3,x4,xf⟩:=zaa q1;obtain ⟨y0,y1,yf⟩:=zcl q2;have CF:=lt_of_heap q1;have Cb:=lt_of_heap q2;clear A6 q1 q2 HC
 by_cases hc:chkM m=0
 . have Ch:=zz0 (zpd hc)
   have Gx:=hid Ch;have Bn:=hid (ziu m _ a1 c1 a2 c2 a3 c3 a4 c4 w1 (HM.out.later A7.out) Ch);have HZ:=hid hc;clear Ch;rw [hc];clear hc;go_wp2_with fail;refine Bn.out.mono ?_;rintro e w2 ⟨⟨ai,ci,rfl,hit⟩,Ab⟩;have Af:=hid (thenB A7.out Ab);have AA:=Ab.size;have Bb:=hid ((Ab.block _ CF).trans JQ.out);have BE:=hid ((Ab.block _ Cb).trans KX.out);obtain ⟨HI,HF⟩:=zpc hit;have BI:=hid (fun W (hW:qb w2 W)=>zz3 m _ a1 c1 a2 c2 a3 c3 a4 c4 (za6 m) ai ci W (HM.out.later (thenB Af.out hW)) Gx.out (zgd m) (HI.later hW) HF);clear Ab Bn hit HI HF x0 x1 x2 x3 x4 xf y0 y1 yf;obtain ⟨x0,x1,x2,x3,x4,xf⟩:=zaa Bb.out;obtain ⟨y0,y1,yf⟩:=zcl BE.out;have LW:=lt_of_heap Bb.out;have Jf:=lt_of_heap BE.out;have HS:=hid (fun W (hW:qb w2 W)=>yaz ((hW.block _ LW).trans Bb.out))
   have FF:=hid (HS.out _ (Below.refl _ w2).drew);have Rj:=hid (fun W (hW:qb w2 W)=>zcl ((hW.block _ Jf).trans BE.out));go_wp2_with fail;clear x0 x1 x2 x3 x4 xf y0 y1 yf
   go_region_held (fun W=>W.cell? (qa w.heap.size 0)=some (.string m.name)/\W.cell? (qa w.heap.size 1)=some (.slice a1 m.uses.length c1)/\W.cell? (qa w.heap.size 2)=some (.slice a2 m.decls.length c2)/\W.cell? (qa w.heap.size 3)=some (.slice a3 m.procs.length c3)/\W.cell? (qa w.heap.size 4)=some (.slice a4 m.main.length c4)) (first | exact FF.out | exact z2y (by omega) FF.out _ _)
    (first | (go_at_call 50;refine (BI.out _ (Below.refl _ w2).drew).mono ?_;rintro e w3 ⟨⟨a5,c5,rfl,he5⟩,A9⟩;have Ae:=hid (thenB (Below.refl _ w2).drew A9);have Nj:=hid he5;clear he5 A9;have FF:=hid (HS.out _ Ae.out);obtain ⟨y0,y1,yf⟩:=Rj.out _ Ae.out;have Ci:w.heap.size+1<w3.heap.size:=vah Jf Ae.out.size))
   all_goals
    go_wp2_with fail;refine bodyPost_ret (v:=.tuple #[.agg #[.string m.name,.slice a5 (pick (zj3 m) (za6 m)).length c5],qi 0]) (by simp [results,Tryz.results15,go_sem,y0,y1,Ci]) rfl ⟨Or.inr ⟨HZ.out,a5,c5,rfl,?_⟩,?_⟩
    . exact (Nj.out.moves (((zad.refl w3 _).set (p:=⟨w.heap.size+1,0,none⟩) (by intro b _ hb;have:w2.heap.size<=b:=hb;show b≠w.heap.size+1;omega) _).set (p:=⟨w.heap.size+1,1,none⟩) (by intro b _ hb;have:w2.heap.size<=b:=hb;show b≠w.heap.size+1;omega) _)).moves ⟨vaa _,fun b _ h=>⟨by have:w2.heap.size<=b:=h;show w.heap.size<=b;omega,rfl⟩⟩
    . exact ((thenB Af.out Ae.out).setCell (p:=⟨w.heap.size+1,0,none⟩) (by show w.heap.size<=w.heap.size+1;omega) _).setCell (p:=⟨w.heap.size+1,1,none⟩) (by show w.heap.size<=w.heap.size+1;omega) _
 . have HF:Hid (zs9 w.heap.size m (.returned (.tuple #[.agg #[.string ⟨#[]⟩,qs],qi (chkM m)])) ((w1.setCell ⟨w.heap.size+1,0,none⟩ (.string ⟨#[]⟩)).setCell ⟨w.heap.size+1,1,none⟩ (qs))):=Or.inl ⟨hc,rfl⟩
   go_wp2_with fail;refine bodyPost_ret (v:=.tuple #[.agg #[.string ⟨#[]⟩,qs],qi (chkM m)]) (by simp [results,Tryz.results15,go_sem,y0,y1,Cb]) rfl ⟨HF.out,?_⟩;exact (A7.out.setCell (p:=⟨w.heap.size+1,0,none⟩) (by show w.heap.size<=w.heap.size+1;omega) _).setCell (p:=⟨w.heap.size+1,1,none⟩) (by show w.heap.size<=w.heap.size+1;omega) _
end Go.Proofs.YtndkhgakfodldaaGreatDoor

namespace Go.Proofs.YtndkhgakfodldaaGreatDoor
open Go.RowKit
set_option linter.unusedSimpArgs false
theorem zu8:∀ (l:List Nd) (i:Nat) (h:i<l.length) (j:Nat),j<5->(zdg l)[i*5+j]? = (l[i].ds)[j]?
 | [],i,h,_,_=>by simp at h
 | x :: r,0,_,j,hj=>by
   have:=x.ds_len;simp only [zdg,vbh];rw [vbb (by omega),vbi,vba]
 | x :: r,i+1,h,j,hj=>by
   have:=x.ds_len;simp only [zdg,vbn];rw [vbd (by omega),show (i+1)*5+j - x.ds.length=i*5+j from by omega];exact zu8 r i (by simpa using h) j hj
theorem zu9:∀ (l:List Ac) (i:Nat) (h:i<l.length) (j:Nat),j<7->(zdm l)[i*7+j]? = (l[i].ds)[j]?
 | [],i,h,_,_=>by simp at h
 | x :: r,0,_,j,hj=>by
   have:=x.ds_len;simp only [zdm,vbh];rw [vbb (by omega),vbi,vba]
 | x :: r,i+1,h,j,hj=>by
   have:=x.ds_len;simp only [zdm,vbn];rw [vbd (by omega),show (i+1)*7+j - x.ds.length=i*7+j from by omega];exact zu9 r i (by simpa using h) j hj
def Un.ds (u:Un):List D:=[.str u.name,.list u.uses.length (zaj u.uses),.int u.data,.list u.parts.length (zk7 u.parts),.list u.main.length (zdm u.main)]
def z20 (l:List Un):List D:=l.flatMap Un.ds
structure NdAt (w:World) (A:Nat->Prop) (b o:Nat) (x:Nd) (a1:OA) (k1:Nat):Prop where
 lt:b<w.heap.size
 c0:w.cell? (qa b o)=some (qi x.op)
 c1:w.cell? ⟨b,o+1,none⟩=some (qi x.n)
 c2:w.cell? ⟨b,o+2,none⟩=some (qi x.m)
 c3:w.cell? ⟨b,o+3,none⟩=some (qi x.at_)
 c4:w.cell? ⟨b,o+4,none⟩=some (.slice a1 x.args.length k1)
 args':DAt w A a1 x.args.length (zdg x.args)
 w0:(Lit.int .i64 x.op).wf=true
 w1:(Lit.int .i64 x.n).wf=true
 w2:(Lit.int .i64 x.m).wf=true
 w3:(Lit.int .i64 x.at_).wf=true
theorem DAt.nd {w:World} {A:Nat->Prop} {a:OA} {l:List Nd} (h:DAt w A a l.length (zdg l)) (i:Nat) (hi:i<l.length):∃ b off a1 k1,a=some (qa b off)/\NdAt w A b (off+i*5) l[i] a1 k1:=by
 obtain ⟨b,off,ha,hb,hc⟩:=h.cell (by omega);generalize hx:l[i]=x;obtain ⟨op,n,m,at_,args⟩:=x
 have g:∀ j d,j<5->(Nd.mk op n m at_ args).ds[j]? = some d->∃ v,w.cell? ⟨b,off+i*5+j,none⟩=some v/\zc7 w A d v:=fun j d hj hd=>by
  rw [vbj];exact hc (i*5+j) d ((zu8 l i hi j hj).trans (by rw [hx];exact hd))
 obtain ⟨v0,q0,d0⟩:=g 0 (.int op) (by omega) (by simp [Nd.ds]);obtain ⟨v1,q1,d1⟩:=g 1 (.int n) (by omega) (by simp [Nd.ds]);obtain ⟨v2,q2,d2⟩:=g 2 (.int m) (by omega) (by simp [Nd.ds]);obtain ⟨v3,q3,d3⟩:=g 3 (.int at_) (by omega) (by simp [Nd.ds]);obtain ⟨v4,q4,d4⟩:=g 4 (.list args.length (zdg args)) (by omega) (by simp [Nd.ds]);obtain ⟨rfl,w0⟩:=za3 d0;obtain ⟨rfl,w1⟩:=za3 d1;obtain ⟨rfl,w2⟩:=za3 d2;obtain ⟨rfl,w3⟩:=za3 d3;obtain ⟨a1,k1,rfl,h1⟩:=za0 d4;exact ⟨b,off,a1,k1,ha,hb,q0,q1,q2,q3,q4,h1,w0,w1,w2,w3⟩
structure AcAt (w:World) (A:Nat->Prop) (b o:Nat) (x:Ac) (a1:OA) (k1:Nat) (a2:OA) (k2:Nat) (a3:OA) (k3:Nat):Prop where
 lt:b<w.heap.size
 c0:w.cell? (qa b o)=some (qi x.op)
 c1:w.cell? ⟨b,o+1,none⟩=some (qi x.n)
 c2:w.cell? ⟨b,o+2,none⟩=some (qi x.m)
 c3:w.cell? ⟨b,o+3,none⟩=some (qi x.at_)
 c4:w.cell? ⟨b,o+4,none⟩=some (.slice a1 x.args.length k1)
 c5:w.cell? ⟨b,o+5,none⟩=some (.slice a2 x.body.length k2)
 c6:w.cell? ⟨b,o+6,none⟩=some (.slice a3 x.other.length k3)
 args':DAt w A a1 x.args.length (zdg x.args)
 body':DAt w A a2 x.body.length (zdm x.body)
 other':DAt w A a3 x.other.length (zdm x.other)
 w0:(Lit.int .i64 x.op).wf=true
 w1:(Lit.int .i64 x.n).wf=true
 w2:(Lit.int .i64 x.m).wf=true
 w3:(Lit.int .i64 x.at_).wf=true
theorem DAt.ac {w:World} {A:Nat->Prop} {a:OA} {l:List Ac} (h:DAt w A a l.length (zdm l)) (i:Nat) (hi:i<l.length):∃ b off a1 k1 a2 k2 a3 k3,a=some (qa b off)/\AcAt w A b (off+i*7) l[i] a1 k1 a2 k2 a3 k3:=by
 obtain ⟨b,off,ha,hb,hc⟩:=h.cell (by omega);generalize hx:l[i]=x;obtain ⟨op,n,m,at_,args,body,other⟩:=x
 have g:∀ j d,j<7->(Ac.mk op n m at_ args body other).ds[j]? = some d->∃ v,w.cell? ⟨b,off+i*7+j,none⟩=some v/\zc7 w A d v:=fun j d hj hd=>by
  rw [vbj];exact hc (i*7+j) d ((zu9 l i hi j hj).trans (by rw [hx];exact hd))
 obtain ⟨v0,q0,d0⟩:=g 0 (.int op) (by omega) (by simp [Ac.ds]);obtain ⟨v1,q1,d1⟩:=g 1 (.int n) (by omega) (by simp [Ac.ds]);obtain ⟨v2,q2,d2⟩:=g 2 (.int m) (by omega) (by simp [Ac.ds]);obtain ⟨v3,q3,d3⟩:=g 3 (.int at_) (by omega) (by simp [Ac.ds]);obtain ⟨v4,q4,d4⟩:=g 4 (.list args.length (zdg args)) (by omega) (by simp [Ac.ds]);obtain ⟨v5,q5,d5⟩:=g 5 (.list body.length (zdm body)) (by omega) (by simp [Ac.ds]);obtain ⟨v6,q6,d6⟩:=g 6 (.list other.length (zdm other)) (by omega) (by simp [Ac.ds]);obtain ⟨rfl,w0⟩:=za3 d0;obtain ⟨rfl,w1⟩:=za3 d1;obtain ⟨rfl,w2⟩:=za3 d2;obtain ⟨rfl,w3⟩:=za3 d3;obtain ⟨a1,k1,rfl,h1⟩:=za0 d4;obtain ⟨a2,k2,rfl,h2⟩:=za0 d5;obtain ⟨a3,k3,rfl,h3⟩:=za0 d6;exact ⟨b,off,a1,k1,a2,k2,a3,k3,ha,hb,q0,q1,q2,q3,q4,q5,q6,h1,h2,h3,w0,w1,w2,w3⟩
structure PtAt (w:World) (A:Nat->Prop) (b o:Nat) (x:Pt) (a1:OA) (k1:Nat):Prop where
 lt:b<w.heap.size
 c0:w.cell? (qa b o)=some (qi x.params)
 c1:w.cell? ⟨b,o+1,none⟩=some (qi x.locals)
 c2:w.cell? ⟨b,o+2,none⟩=some (.slice a1 x.body.length k1)
 body':DAt w A a1 x.body.length (zdm x.body)
 w0:(Lit.int .i64 x.params).wf=true
 w1:(Lit.int .i64 x.locals).wf=true
theorem DAt.pt {w:World} {A:Nat->Prop} {a:OA} {l:List Pt} (h:DAt w A a l.length (zk7 l)) (i:Nat) (hi:i<l.length):∃ b off a1 k1,a=some (qa b off)/\PtAt w A b (off+i*3) l[i] a1 k1:=by
 obtain ⟨b,off,ha,hb,hc⟩:=h.cell (by omega);generalize hx:l[i]=x;obtain ⟨params,locals,body⟩:=x
 have g:∀ j d,j<3->(Pt.mk params locals body).ds[j]? = some d->∃ v,w.cell? ⟨b,off+i*3+j,none⟩=some v/\zc7 w A d v:=fun j d hj hd=>by
  rw [vbj];exact hc (i*3+j) d ((zck Pt.ds 3 (fun _=>rfl) l i hi j hj).trans (by rw [hx];exact hd))
 obtain ⟨v0,q0,d0⟩:=g 0 (.int params) (by omega) (by simp [Pt.ds]);obtain ⟨v1,q1,d1⟩:=g 1 (.int locals) (by omega) (by simp [Pt.ds]);obtain ⟨v2,q2,d2⟩:=g 2 (.list body.length (zdm body)) (by omega) (by simp [Pt.ds]);obtain ⟨rfl,w0⟩:=za3 d0;obtain ⟨rfl,w1⟩:=za3 d1;obtain ⟨a1,k1,rfl,h1⟩:=za0 d2;exact ⟨b,off,a1,k1,ha,hb,q0,q1,q2,h1,w0,w1⟩
structure UnAt (w:World) (A:Nat->Prop) (b o:Nat) (x:Un) (a1:OA) (k1:Nat) (a2:OA) (k2:Nat) (a3:OA) (k3:Nat):Prop where
 lt:b<w.heap.size
 c0:w.cell? (qa b o)=some (.string x.name)
 c1:w.cell? ⟨b,o+1,none⟩=some (.slice a1 x.uses.length k1)
 c2:w.cell? ⟨b,o+2,none⟩=some (qi x.data)
 c3:w.cell? ⟨b,o+3,none⟩=some (.slice a2 x.parts.length k2)
 c4:w.cell? ⟨b,o+4,none⟩=some (.slice a3 x.main.length k3)
 uses':DAt w A a1 x.uses.length (zaj x.uses)
 parts':DAt w A a2 x.parts.length (zk7 x.parts)
 main':DAt w A a3 x.main.length (zdm x.main)
 w0:x.name.size<=maxLen
 w2:(Lit.int .i64 x.data).wf=true
theorem DAt.un {w:World} {A:Nat->Prop} {a:OA} {l:List Un} (h:DAt w A a l.length (z20 l)) (i:Nat) (hi:i<l.length):∃ b off a1 k1 a2 k2 a3 k3,a=some (qa b off)/\UnAt w A b (off+i*5) l[i] a1 k1 a2 k2 a3 k3:=by
 obtain ⟨b,off,ha,hb,hc⟩:=h.cell (by omega);generalize hx:l[i]=x;obtain ⟨name,uses,data,parts,main⟩:=x
 have g:∀ j d,j<5->(Un.mk name uses data parts main).ds[j]? = some d->∃ v,w.cell? ⟨b,off+i*5+j,none⟩=some v/\zc7 w A d v:=fun j d hj hd=>by
  rw [vbj];exact hc (i*5+j) d ((zck Un.ds 5 (fun _=>rfl) l i hi j hj).trans (by rw [hx];exact hd))
 obtain ⟨v0,q0,d0⟩:=g 0 (.str name) (by omega) (by simp [Un.ds,zk7]);obtain ⟨v1,q1,d1⟩:=g 1 (.list uses.length (zaj uses)) (by omega) (by simp [Un.ds,zk7]);obtain ⟨v2,q2,d2⟩:=g 2 (.int data) (by omega) (by simp [Un.ds,zk7]);obtain ⟨v3,q3,d3⟩:=g 3 (.list parts.length (zk7 parts)) (by omega) (by simp [Un.ds,zk7]);obtain ⟨v4,q4,d4⟩:=g 4 (.list main.length (zdm main)) (by omega) (by simp [Un.ds,zk7]);obtain ⟨rfl,w0⟩:=zc8 d0;obtain ⟨a1,k1,rfl,h1⟩:=za0 d1;obtain ⟨rfl,w2⟩:=za3 d2;obtain ⟨a2,k2,rfl,h2⟩:=za0 d3;obtain ⟨a3,k3,rfl,h3⟩:=za0 d4;exact ⟨b,off,a1,k1,a2,k2,a3,k3,ha,hb,q0,q1,q2,q3,q4,h1,h2,h3,w0,w2⟩
structure Ck where
 data:Int
 uses:Nat
 parts:List Pt
 num:Int->Int->Int->Bool
 prt:Int->Int->Int->Bool
 locals:Int
def zva (c:Ck) (m:Int):Bool:=decide (1<=m/\m<=c.uses)
def z00 (size at_ n:Int):Bool:=decide (0<=at_/\at_+n<=size)
def numB (c:Ck) (m at_ n:Int):Bool:=if m=0 then z00 c.data at_ n else zva c m&&c.num m at_ n
def zvb (l:List Pt) (at_ k:Int):Bool:=decide (0<=at_)&&(match l[at_.toNat]? with | some p=>decide (p.params=k) | none=>false)
def zjn (c:Ck) (m at_ k:Int):Bool:=if m=0 then zvb c.parts at_ k else zva c m&&c.prt m at_ k
def zz4 (c:Ck) (n m at_:Int):Bool:=decide (1<=n/\n<=32)&&numB c m at_ n
def zxa (c:Ck) (at_:Int):Bool:=decide (0<=at_/\at_<c.locals)
def argsOf (op:Int):Int:=if op=2 then 0 else if op=6 then 1 else if 7<=op/\op<=15 then 2 else -1
def zax (c:Ck) (x:Nd):Bool:=
 if x.op=3 then decide (x.args.length=0)&&(decide (x.n=0)&&numB c x.m x.at_ 1)
 else if x.op=4 then decide (x.args.length=1)&&zz4 c x.n x.m x.at_
 else if x.op=5 then decide (x.n=0)&&zjn c x.m x.at_ x.args.length
 else if x.op=16 then decide (x.args.length=0)&&(decide (x.n=0)&&(decide (x.m=0)&&zxa c x.at_))
 else if x.op=1 then decide (x.args.length=0)&&(decide (0<=x.n/\x.n<=1099511627775)&&(decide (x.m=0)&&decide (x.at_=0)))
 else decide ((x.args.length:Int)=argsOf x.op)&&(decide (x.n=0)&&(decide (x.m=0)&&decide (x.at_=0)))
def zgf (c:Ck):Nat->List Nd->Bool
 | 0,l=>decide (l.length=0)
 | k+1,l=>l.all fun x=>zax c x&&zgf c k x.args
def zb7 (c:Ck) (a:Ac):Bool:=
 if a.op=1 then decide (a.args.length=1)&&(decide (a.n=0)&&(if a.m = -1 then zxa c a.at_ else numB c a.m a.at_ 1))
 else if a.op=2 then decide (a.args.length=2)&&zz4 c a.n a.m a.at_
 else if a.op=3 then decide (a.n=0)&&zjn c a.m a.at_ a.args.length
 else if 4<=a.op/\a.op<=7 then decide (a.args.length=1)&&(decide (a.n=0)&&(decide (a.m=0)&&decide (a.at_=0)))
 else false
def zeo (c:Ck):Nat->List Ac->Bool
 | 0,_=>false
 | k + 1,l=>decide (l.length<=10)&&l.all fun a=>zb7 c a&&(zgf c 6 a.args &&
     (if a.op=4 then zeo c k a.body&&zeo c k a.other else if a.op=5 then zeo c k a.body&&decide (a.other.length=0) else decide (a.body.length=0)&&decide (a.other.length=0)))
def ptB (p:Pt):Bool:=decide (0<=p.params/\p.params<=3)&&decide (0<=p.locals/\p.locals<=4)
def zdo (u:Un):Bool:=decide (chkM ⟨u.name,u.uses,[],[],[]⟩=0)&&(u.parts.all ptB&&(decide (0<=u.data/\u.data<=512)&&decide (u.parts.length<=6)))
def zif (u:Un) (num prt:Int->Int->Int->Bool) (locals:Int):Ck:=⟨u.data,u.uses.length,u.parts,num,prt,locals⟩
def ze0 (u:Un) (num prt:Int->Int->Int->Bool):Bool:=
 zdo u&&(u.parts.all (fun p=>zeo (zif u num prt (p.params+p.locals)) 6 p.body)&&zeo (zif u num prt 0) 6 u.main)
end Go.Proofs.YtndkhgakfodldaaGreatDoor

namespace Go.Proofs.YtndkhgakfodldaaGreatDoor
set_option maxRecDepth 100000
open Go.RowKit Go.Maps Go.WideMaps
set_option linter.unusedSimpArgs false
set_option linter.unusedVariables false
theorem z9a {n:Int} (h:(Lit.int .i64 n).wf=true) : -9223372036854775808<=n/\n<=9223372036854775807:=by
 simp only [Lit.wf,vac,decide_eq_true_eq] at h;exact h
theorem zld (size at_ n:Int) (w:World) (h1:0<=size) (h2:size<=512) (h3:1<=n) (h4:n<=32) (hw:(Lit.int .i64 at_).wf=true) :
 qc 267 #[qi size,qi at_,qi n] w fun e w'=>e = .returned (.bool (z00 size at_ n))/\w'=w:=by
 obtain ⟨g1,g2⟩:=z9a hw;clear hw
 by_cases ha:0<=at_
 . by_cases hb:at_<=size - n
   . have HR:Hid (z00 size at_ n=true):=decide_eq_true ⟨ha,by omega⟩
     go_enter Tryz.func267,Tryz.ntmps267;go_wp2_with fail;go_ret;exact ⟨ret_bool HR.out.symm,rfl⟩
   . have HR:Hid (z00 size at_ n=false):=decide_eq_false (by omega)
     have AY:size - n<at_:=by omega
     clear hb;go_enter Tryz.func267,Tryz.ntmps267;go_wp2_with fail;go_ret;exact ⟨ret_bool (by first | exact HR.out.symm | (rw [HR.out];first | (simp;omega) | (simp [*];done))),rfl⟩
 . have HR:Hid (z00 size at_ n=false):=decide_eq_false (by omega)
   have CZ:at_<0:=by omega
   clear ha;go_enter Tryz.func267,Tryz.ntmps267;go_wp2_with fail;go_ret;exact ⟨ret_bool HR.out.symm,rfl⟩
theorem zwr (op:Int) (w:World) :
 qc 269 #[qi op] w fun e w'=>e = .returned (qi (argsOf op))/\w'=w:=by
 by_cases h2:op=2
 . subst h2
   go_enter Tryz.func269,Tryz.ntmps269;go_wp2_with fail;go_ret;exact ⟨rfl,rfl⟩
 by_cases h6:op=6
 . subst h6
   go_enter Tryz.func269,Tryz.ntmps269;go_wp2_with fail;go_ret;exact ⟨rfl,rfl⟩
 by_cases h7:7<=op
 . by_cases Hl:op<=15
   . have HR:Hid (argsOf op=2):=by show _=_;unfold argsOf;rw [if_neg h2,if_neg h6,if_pos ⟨h7,Hl⟩]
     go_enter Tryz.func269,Tryz.ntmps269;go_wp2_with fail;go_ret;exact ⟨ret_int HR.out.symm,rfl⟩
   . have HR:Hid (argsOf op = -1):=by show _=_;unfold argsOf;rw [if_neg h2,if_neg h6,if_neg (by omega)]
     have R4:15<op:=by omega
     clear Hl;go_enter Tryz.func269,Tryz.ntmps269;go_wp2_with fail;go_ret;exact ⟨ret_int HR.out.symm,rfl⟩
 . have HR:Hid (argsOf op = -1):=by show _=_;unfold argsOf;rw [if_neg h2,if_neg h6,if_neg (by omega)]
   have SY:op<7:=by omega
   clear h7;go_enter Tryz.func269,Tryz.ntmps269;go_wp2_with fail;go_ret;exact ⟨ret_int HR.out.symm,rfl⟩
theorem zg0 (c:Ck) (s:ByteArray) (x1:OA) (y1:Nat) (x2:OA) (y2:Nat) (x3:OA) (n3 y3:Nat) (iv:Value) (m:Int) (w:World) :
 qc 209 #[.agg #[.string s,.slice x1 c.uses y1,qi c.data,.slice x2 c.parts.length y2,.slice x3 n3 y3,iv,qi c.locals],qi m] w fun e w'=>e = .returned (.bool (zxa c m))/\qb w w':=by
 by_cases ha:0<=m
 . by_cases hb:m<c.locals
   . have HR:Hid (zxa c m=true):=decide_eq_true ⟨ha,hb⟩
     go_enter Tryz.func209,Tryz.ntmps209;go_wp2_with fail;go_ret;exact ⟨ret_bool HR.out.symm,al1 _ _⟩
   . have HR:Hid (zxa c m=false):=decide_eq_false (by omega)
     have AY:c.locals<=m:=by omega
     clear hb;go_enter Tryz.func209,Tryz.ntmps209;go_wp2_with fail;go_ret;exact ⟨ret_bool (by first | exact HR.out.symm | (rw [HR.out];first | (simp;omega) | (simp [*];done))),al1 _ _⟩
 . have HR:Hid (zxa c m=false):=decide_eq_false (by omega)
   have CZ:m<0:=by omega
   clear ha;go_enter Tryz.func209,Tryz.ntmps209;go_wp2_with fail;go_ret;exact ⟨ret_bool HR.out.symm,al1 _ _⟩
theorem zle (c:Ck) (s:ByteArray) (x1:OA) (y1:Nat) (x2:OA) (y2:Nat) (x3:OA) (n3 y3:Nat) (iv:Value) (m:Int) (w:World) :
 qc 268 #[.agg #[.string s,.slice x1 c.uses y1,qi c.data,.slice x2 c.parts.length y2,.slice x3 n3 y3,iv,qi c.locals],qi m] w fun e w'=>e = .returned (.bool (zva c m))/\qb w w':=by
 by_cases ha:1<=m
 . by_cases hb:m<=c.uses
   . have HR:Hid (zva c m=true):=decide_eq_true ⟨ha,hb⟩
     go_enter Tryz.func268,Tryz.ntmps268;go_wp2_with fail;go_ret;exact ⟨ret_bool HR.out.symm,al1 _ _⟩
   . have HR:Hid (zva c m=false):=decide_eq_false (by omega)
     have AY:(c.uses:Int)<m:=by omega
     clear hb;go_enter Tryz.func268,Tryz.ntmps268;go_wp2_with fail;go_ret;exact ⟨ret_bool (by first | exact HR.out.symm | (rw [HR.out];first | (simp;omega) | (simp [*];done))),al1 _ _⟩
 . have HR:Hid (zva c m=false):=decide_eq_false (by omega)
   have CZ:m<1:=by omega
   clear ha;go_enter Tryz.func268,Tryz.ntmps268;go_wp2_with fail;go_ret;exact ⟨ret_bool HR.out.symm,al1 _ _⟩
structure UsAt (w:World) (c:Ck) (nf pf:FuncId) (v:Value):Prop where
 num:∀ W,qb w W->∀ m at_ n:Int,zva c m=true->(Lit.int .i64 at_).wf=true->1<=n->n<=32->qc nf #[v,qi m,qi at_,qi n] W fun e W'=>e = .returned (.bool (c.num m at_ n))/\qb W W'
 prt:∀ W,qb w W->∀ (m at_:Int) (k:Nat),zva c m=true->(Lit.int .i64 at_).wf=true->k<=17592186044416->qc pf #[v,qi m,qi at_,qi k] W fun e W'=>e = .returned (.bool (c.prt m at_ k))/\qb W W'
structure CkAt (w:World) (c:Ck) (cv:Value):Prop where
 num:∀ W,qb w W->∀ m at_ n:Int,(Lit.int .i64 m).wf=true->(Lit.int .i64 at_).wf=true->1<=n->n<=32->qc 210 #[cv,qi m,qi at_,qi n] W fun e W'=>e = .returned (.bool (numB c m at_ n))/\qb W W'
 prt:∀ W,qb w W->∀ (m at_:Int) (k:Nat),(Lit.int .i64 m).wf=true->(Lit.int .i64 at_).wf=true->k<=17592186044416->qc 212 #[cv,qi m,qi at_,qi k] W fun e W'=>e = .returned (.bool (zjn c m at_ k))/\qb W W'
theorem CkAt.later {w w':World} {c:Ck} {cv:Value} (h:CkAt w c cv) (hb:qb w w'):CkAt w' c cv:=⟨fun W hW=>h.num W (thenB hb hW),fun W hW=>h.prt W (thenB hb hW)⟩
theorem UsAt.later {w w':World} {c:Ck} {nf pf:FuncId} {v:Value} (h:UsAt w c nf pf v) (hb:qb w w'):UsAt w' c nf pf v:=⟨fun W hW=>h.num W (thenB hb hW),fun W hW=>h.prt W (thenB hb hW)⟩
set_option maxHeartbeats 1600000
theorem zao {w:World} {b:Nat} {x0 x1 x2 x3 x4 x5 x6:Value} {t:TypeId} (h:w.heap[b]? = some (.cells #[x0,x1,x2,x3,x4,x5,x6] t (0,0))) :
 w.cell? (qa b 0)=some x0/\w.cell? (qa b 1)=some x1/\w.cell? (qa b 2)=some x2/\w.cell? (qa b 3)=some x3/\w.cell? (qa b 4)=some x4/\w.cell? (qa b 5)=some x5/\w.cell? (qa b 6)=some x6/\b<w.heap.size:=by
 refine ⟨?_,?_,?_,?_,?_,?_,?_,lt_of_heap h⟩<;>(rw [vef h];rfl)
theorem z71 (w:World) (o p:Obj):((w.alloc o).alloc p).heap[w.heap.size+1]? = some p:=by simpa using heap_newP (w.alloc o) p
theorem z9b (av:OA) (nv cv:Nat) (w:World):(nilAhead 337 199 (.slice av nv cv) "HasPart").run Tryz.prog w = .ok (some false) w:=by kernel_rfl
theorem z9c (av:OA) (nv cv:Nat) (w:World):(method 337 199 (.slice av nv cv) "HasPart").run Tryz.prog w = .ok (330,.slice av nv cv) w:=by kernel_rfl
theorem ya0 (c:Ck) (s:ByteArray) (x1:OA) (y1:Nat) (x2:OA) (y2:Nat) (x3:OA) (n3 y3:Nat) (av:OA) (nv cv:Nat) (m at_:Int) (k:Nat) (w:World) (hP:DAt w Tt x2 c.parts.length (zk7 c.parts)) (hu:c.uses<=17592186044416) (hU:UsAt w c 329 330 (.slice av nv cv)) (hm:(Lit.int .i64 m).wf=true) (ha:(Lit.int .i64 at_).wf=true) (hk:k<=17592186044416) :
 qc 212 #[.agg #[.string s,.slice x1 c.uses y1,qi c.data,.slice x2 c.parts.length y2,.slice x3 n3 y3,.iface 199 (.slice av nv cv),qi c.locals],qi m,qi at_,qi k] w fun e w'=>e = .returned (.bool (zjn c m at_ k))/\qb w w':=by
 have HU:=hid hU;have HA:=hid ha;have HP:=hid hP;have Fo:=hP.bound;clear hU ha hm hP;have n1:=z9b av nv cv;have n2:=z9c av nv cv
 by_cases h0:m=0
 . subst h0
   have HR:Hid (zjn c 0 at_ k=zvb c.parts at_ k):=if_pos rfl
   by_cases t1:0<=at_
   . obtain ⟨i,rfl⟩:∃ i:Nat,at_=i:=⟨at_.toNat,by omega⟩
     by_cases t2:i<c.parts.length
     . obtain ⟨b,off,ab,cb,rfl,hx⟩:=(HP.out.later (al1 w (.cells #[.string s,.slice x1 c.uses y1,qi c.data,.slice x2 c.parts.length y2,.slice x3 n3 y3,.iface 199 (.slice av nv cv),qi c.locals] 206))).pt i t2
       have HQ:Hid (zvb c.parts i k=decide (c.parts[i].params=k)):=by show _=_;unfold zvb;rw [decide_eq_true t1,vbx,vae t2];rfl
       obtain ⟨Au,p0,_,_,_,_,_⟩:=hx
       have Em:(i:Int)<c.parts.length:=by omega
       have pz:b<w.heap.size+1:=by simpa using Au
       generalize c.parts[i].params=pp at *
       by_cases t3:pp=k
       . have Ba:Hid (zjn c 0 i k=true):=by show _=_;rw [HR.out,HQ.out,decide_eq_true t3]
         subst t3;go_enter Tryz.func212,Tryz.ntmps212;go_wp2_with fail;go_ret;exact ⟨ret_bool Ba.out.symm,al1 _ _⟩
       . have Ba:Hid (zjn c 0 i k=false):=by show _=_;rw [HR.out,HQ.out,decide_eq_false t3]
         go_enter Tryz.func212,Tryz.ntmps212;go_wp2_with fail;go_ret;exact ⟨ret_bool (by first | exact Ba.out.symm | (rw [Ba.out];first | (simp;omega) | (simp [*];done))),al1 _ _⟩
     . have Ba:Hid (zjn c 0 i k=false):=by show _=_;rw [HR.out];unfold zvb;rw [vbx,vbq (by omega)];simp
       have Em:c.parts.length<=i:=by omega
       clear t2;go_enter Tryz.func212,Tryz.ntmps212;go_wp2_with fail;go_ret;exact ⟨ret_bool Ba.out.symm,al1 _ _⟩
   . have Ba:Hid (zjn c 0 at_ k=false):=by show _=_;rw [HR.out];unfold zvb;rw [decide_eq_false t1];rfl
     have DJ:at_<0:=by omega
     clear t1;go_enter Tryz.func212,Tryz.ntmps212;go_wp2_with fail;go_ret;exact ⟨ret_bool Ba.out.symm,al1 _ _⟩
 . have HR:Hid (zjn c m at_ k=(zva c m&&c.prt m at_ k)):=if_neg h0
   have HI:=hid (zle c s x1 y1 x2 y2 x3 n3 y3 (.iface 199 (.slice av nv cv)) m (w.alloc (.cells #[.string s,.slice x1 c.uses y1,qi c.data,.slice x2 c.parts.length y2,.slice x3 n3 y3,.iface 199 (.slice av nv cv),qi c.locals] 206)))
   cases hb:zva c m with
   | false=>
     rw [hb] at HI HR;go_enter Tryz.func212,Tryz.ntmps212;go_wp2_with fail;refine HI.out.mono ?_;rintro e w1 ⟨rfl,A6⟩;have A7:=hid (thenB (al1 w _) A6);clear A6;go_wp2_with fail;go_ret;exact ⟨ret_bool HR.out.symm,A7.out⟩
   | true=>
     rw [hb] at HI HR;have Gq:=hid hb;clear hb;go_enter Tryz.func212,Tryz.ntmps212;go_wp2_with fail;refine HI.out.mono ?_;rintro e w1 ⟨rfl,A6⟩;have A7:=hid (thenB (al1 w _) A6);have q1:=(A6.block _ (by simp)).trans (heap_newP w (.cells #[.string s,.slice x1 c.uses y1,qi c.data,.slice x2 c.parts.length y2,.slice x3 n3 y3,.iface 199 (.slice av nv cv),qi c.locals] 206));obtain ⟨c0,c1,c2,c3,c4,c5,c6,cz⟩:=zao q1;clear A6 q1 c0 c1 c2 c3 c4 c6 HI
     go_wp2_with (go_at_call 330;refine (HU.out.prt _ A7.out m at_ k Gq.out HA.out hk).mono ?_;rintro e w2 ⟨rfl,Ab⟩;have Af:=hid (thenB A7.out Ab);clear Ab)
     go_ret;exact ⟨ret_bool (by rw [HR.out];rfl),Af.out⟩
theorem z9d (w:World):(nilAhead 337 133 (.agg #[]) "HasNumbers").run Tryz.prog w = .ok (some false) w:=by kernel_rfl
theorem z9e (w:World):(nilAhead 337 133 (.agg #[]) "HasPart").run Tryz.prog w = .ok (some false) w:=by kernel_rfl
theorem z9f (w:World):(method 337 133 (.agg #[]) "HasNumbers").run Tryz.prog w = .ok (327,.agg #[]) w:=by kernel_rfl
theorem z9g (w:World):(method 337 133 (.agg #[]) "HasPart").run Tryz.prog w = .ok (328,.agg #[]) w:=by kernel_rfl
theorem z22 (c:Ck) (s:ByteArray) (x1:OA) (y1:Nat) (x2:OA) (y2:Nat) (x3:OA) (n3 y3:Nat) (m at_ n:Int) (w:World) (FQ:0<=c.data) (C6:c.data<=512) (hu:c.uses<=17592186044416) (hU:UsAt w c 327 328 (.agg #[])) (hm:(Lit.int .i64 m).wf=true) (ha:(Lit.int .i64 at_).wf=true) (h1:1<=n) (h2:n<=32) :
 qc 210 #[.agg #[.string s,.slice x1 c.uses y1,qi c.data,.slice x2 c.parts.length y2,.slice x3 n3 y3,.iface 133 (.agg #[]),qi c.locals],qi m,qi at_,qi n] w fun e w'=>e = .returned (.bool (numB c m at_ n))/\qb w w':=by
 have HU:=hid hU;have HA:=hid ha;clear hU ha hm;have n1:=z9d;have n2:=z9f
 by_cases h0:m=0
 . subst h0
   have HR:Hid (numB c 0 at_ n=z00 c.data at_ n):=if_pos rfl;go_enter Tryz.func210,Tryz.ntmps210;go_wp2_with fail;refine (zld c.data at_ n _ FQ C6 h1 h2 HA.out).mono ?_;rintro e w1 ⟨rfl,rfl⟩;go_wp2_with fail;go_ret;exact ⟨ret_bool HR.out.symm,al1 _ _⟩
 . have HR:Hid (numB c m at_ n=(zva c m&&c.num m at_ n)):=if_neg h0
   have HI:=hid (zle c s x1 y1 x2 y2 x3 n3 y3 (.iface 133 (.agg #[])) m (w.alloc (.cells #[.string s,.slice x1 c.uses y1,qi c.data,.slice x2 c.parts.length y2,.slice x3 n3 y3,.iface 133 (.agg #[]),qi c.locals] 206)))
   cases hb:zva c m with
   | false=>
     rw [hb] at HI HR;go_enter Tryz.func210,Tryz.ntmps210;go_wp2_with fail;refine HI.out.mono ?_;rintro e w1 ⟨rfl,A6⟩;have A7:=hid (thenB (al1 w _) A6);clear A6;go_wp2_with fail;go_ret;exact ⟨ret_bool HR.out.symm,A7.out⟩
   | true=>
     rw [hb] at HI HR;have Gq:=hid hb;clear hb;go_enter Tryz.func210,Tryz.ntmps210;go_wp2_with fail;refine HI.out.mono ?_;rintro e w1 ⟨rfl,A6⟩;have A7:=hid (thenB (al1 w _) A6);have q1:=(A6.block _ (by simp)).trans (heap_newP w (.cells #[.string s,.slice x1 c.uses y1,qi c.data,.slice x2 c.parts.length y2,.slice x3 n3 y3,.iface 133 (.agg #[]),qi c.locals] 206));obtain ⟨c0,c1,c2,c3,c4,c5,c6,cz⟩:=zao q1;clear A6 q1 c0 c1 c2 c3 c4 c6 HI
     go_wp2_with (go_at_call 327;refine (HU.out.num _ A7.out m at_ n Gq.out HA.out h1 h2).mono ?_;rintro e w2 ⟨rfl,Ab⟩;have Af:=hid (thenB A7.out Ab);clear Ab)
     go_ret;exact ⟨ret_bool (by rw [HR.out];rfl),Af.out⟩
theorem z9h (c:Ck) (s:ByteArray) (x1:OA) (y1:Nat) (x2:OA) (y2:Nat) (x3:OA) (n3 y3:Nat) (m at_:Int) (k:Nat) (w:World) (hP:DAt w Tt x2 c.parts.length (zk7 c.parts)) (hu:c.uses<=17592186044416) (hU:UsAt w c 327 328 (.agg #[])) (hm:(Lit.int .i64 m).wf=true) (ha:(Lit.int .i64 at_).wf=true) (hk:k<=17592186044416) :
 qc 212 #[.agg #[.string s,.slice x1 c.uses y1,qi c.data,.slice x2 c.parts.length y2,.slice x3 n3 y3,.iface 133 (.agg #[]),qi c.locals],qi m,qi at_,qi k] w fun e w'=>e = .returned (.bool (zjn c m at_ k))/\qb w w':=by
 have HU:=hid hU;have HA:=hid ha;have HP:=hid hP;have Fo:=hP.bound;clear hU ha hm hP;have n1:=z9e;have n2:=z9g
 by_cases h0:m=0
 . subst h0
   have HR:Hid (zjn c 0 at_ k=zvb c.parts at_ k):=if_pos rfl
   by_cases t1:0<=at_
   . obtain ⟨i,rfl⟩:∃ i:Nat,at_=i:=⟨at_.toNat,by omega⟩
     by_cases t2:i<c.parts.length
     . obtain ⟨b,off,ab,cb,rfl,hx⟩:=(HP.out.later (al1 w (.cells #[.string s,.slice x1 c.uses y1,qi c.data,.slice x2 c.parts.length y2,.slice x3 n3 y3,.iface 133 (.agg #[]),qi c.locals] 206))).pt i t2
       have HQ:Hid (zvb c.parts i k=decide (c.parts[i].params=k)):=by show _=_;unfold zvb;rw [decide_eq_true t1,vbx,vae t2];rfl
       obtain ⟨Au,p0,_,_,_,_,_⟩:=hx
       have Em:(i:Int)<c.parts.length:=by omega
       have pz:b<w.heap.size+1:=by simpa using Au
       generalize c.parts[i].params=pp at *
       by_cases t3:pp=k
       . have Ba:Hid (zjn c 0 i k=true):=by show _=_;rw [HR.out,HQ.out,decide_eq_true t3]
         subst t3;go_enter Tryz.func212,Tryz.ntmps212;go_wp2_with fail;go_ret;exact ⟨ret_bool Ba.out.symm,al1 _ _⟩
       . have Ba:Hid (zjn c 0 i k=false):=by show _=_;rw [HR.out,HQ.out,decide_eq_false t3]
         go_enter Tryz.func212,Tryz.ntmps212;go_wp2_with fail;go_ret;exact ⟨ret_bool (by first | exact Ba.out.symm | (rw [Ba.out];first | (simp;omega) | (simp [*];done))),al1 _ _⟩
     . have Ba:Hid (zjn c 0 i k=false):=by show _=_;rw [HR.out];unfold zvb;rw [vbx,vbq (by omega)];simp
       have Em:c.parts.length<=i:=by omega
       clear t2;go_enter Tryz.func212,Tryz.ntmps212;go_wp2_with fail;go_ret;exact ⟨ret_bool Ba.out.symm,al1 _ _⟩
   . have Ba:Hid (zjn c 0 at_ k=false):=by show _=_;rw [HR.out];unfold zvb;rw [decide_eq_false t1];rfl
     have DJ:at_<0:=by omega
     clear t1;go_enter Tryz.func212,Tryz.ntmps212;go_wp2_with fail;go_ret;exact ⟨ret_bool Ba.out.symm,al1 _ _⟩
 . have HR:Hid (zjn c m at_ k=(zva c m&&c.prt m at_ k)):=if_neg h0
   have HI:=hid (zle c s x1 y1 x2 y2 x3 n3 y3 (.iface 133 (.agg #[])) m (w.alloc (.cells #[.string s,.slice x1 c.uses y1,qi c.data,.slice x2 c.parts.length y2,.slice x3 n3 y3,.iface 133 (.agg #[]),qi c.locals] 206)))
   cases hb:zva c m with
   | false=>
     rw [hb] at HI HR;go_enter Tryz.func212,Tryz.ntmps212;go_wp2_with fail;refine HI.out.mono ?_;rintro e w1 ⟨rfl,A6⟩;have A7:=hid (thenB (al1 w _) A6);clear A6;go_wp2_with fail;go_ret;exact ⟨ret_bool HR.out.symm,A7.out⟩
   | true=>
     rw [hb] at HI HR;have Gq:=hid hb;clear hb;go_enter Tryz.func212,Tryz.ntmps212;go_wp2_with fail;refine HI.out.mono ?_;rintro e w1 ⟨rfl,A6⟩;have A7:=hid (thenB (al1 w _) A6);have q1:=(A6.block _ (by simp)).trans (heap_newP w (.cells #[.string s,.slice x1 c.uses y1,qi c.data,.slice x2 c.parts.length y2,.slice x3 n3 y3,.iface 133 (.agg #[]),qi c.locals] 206));obtain ⟨c0,c1,c2,c3,c4,c5,c6,cz⟩:=zao q1;clear A6 q1 c0 c1 c2 c3 c4 c6 HI
     go_wp2_with (go_at_call 328;refine (HU.out.prt _ A7.out m at_ k Gq.out HA.out hk).mono ?_;rintro e w2 ⟨rfl,Ab⟩;have Af:=hid (thenB A7.out Ab);clear Ab)
     go_ret;exact ⟨ret_bool (by rw [HR.out];rfl),Af.out⟩
theorem ckS (c:Ck) (s:ByteArray) (x1:OA) (y1:Nat) (x2:OA) (y2:Nat) (x3:OA) (n3 y3:Nat) (w:World) (FQ:0<=c.data) (C6:c.data<=512) (hu:c.uses<=17592186044416) (hP:DAt w Tt x2 c.parts.length (zk7 c.parts)) (hU:UsAt w c 327 328 (.agg #[])):CkAt w c (.agg #[.string s,.slice x1 c.uses y1,qi c.data,.slice x2 c.parts.length y2,.slice x3 n3 y3,.iface 133 (.agg #[]),qi c.locals]):=
 ⟨fun W hW m at_ n h1 h2 h3 h4=>z22 c s x1 y1 x2 y2 x3 n3 y3 m at_ n W FQ C6 hu (hU.later hW) h1 h2 h3 h4,fun W hW m at_ k h1 h2 h3=>z9h c s x1 y1 x2 y2 x3 n3 y3 m at_ k W (hP.later hW) hu (hU.later hW) h1 h2 h3⟩
set_option maxHeartbeats 3200000
theorem zg1 (c:Ck) (s:ByteArray) (x1:OA) (y1:Nat) (x2:OA) (y2:Nat) (x3:OA) (n3 y3:Nat) (iv:Value) (n m at_:Int) (w:World) (hC:CkAt w c (.agg #[.string s,.slice x1 c.uses y1,qi c.data,.slice x2 c.parts.length y2,.slice x3 n3 y3,iv,qi c.locals])) (hm:(Lit.int .i64 m).wf=true) (ha:(Lit.int .i64 at_).wf=true) :
 qc 211 #[.agg #[.string s,.slice x1 c.uses y1,qi c.data,.slice x2 c.parts.length y2,.slice x3 n3 y3,iv,qi c.locals],qi n,qi m,qi at_] w fun e w'=>e = .returned (.bool (zz4 c n m at_))/\qb w w':=by
 have HN:=hid (fun h1 h2=>hC.num (w.alloc (.cells #[.string s,.slice x1 c.uses y1,qi c.data,.slice x2 c.parts.length y2,.slice x3 n3 y3,iv,qi c.locals] 206)) (al1 _ _) m at_ n hm ha h1 h2);clear hC hm ha
 by_cases h1:1<=n
 . by_cases h2:n<=32
   . have HR:Hid (zz4 c n m at_=numB c m at_ n):=by show _=_;unfold zz4;rw [decide_eq_true ⟨h1,h2⟩];rfl
     go_enter Tryz.func211,Tryz.ntmps211;go_wp2_with fail;refine (HN.out h1 h2).mono ?_;rintro e w1 ⟨rfl,A6⟩;have A7:=hid (thenB (al1 w _) A6);clear A6;go_wp2_with fail;go_ret;exact ⟨ret_bool HR.out.symm,A7.out⟩
   . have HR:Hid (zz4 c n m at_=false):=by show _=_;unfold zz4;rw [decide_eq_false (by omega)];rfl
     have FU:32<n:=by omega
     clear h2 HN;go_enter Tryz.func211,Tryz.ntmps211;go_wp2_with fail;go_ret;exact ⟨ret_bool HR.out.symm,al1 _ _⟩
 . have HR:Hid (zz4 c n m at_=false):=by show _=_;unfold zz4;rw [decide_eq_false (by omega)];rfl
   have D6:n<1:=by omega
   clear h1 HN;go_enter Tryz.func211,Tryz.ntmps211;go_wp2_with fail;go_ret;exact ⟨ret_bool HR.out.symm,al1 _ _⟩
theorem zpe (c:Ck) (s:ByteArray) (x1:OA) (y1:Nat) (x2:OA) (y2:Nat) (x3:OA) (n3 y3:Nat) (iv:Value) (x:Nd) (aa:OA) (cp:Nat) (w:World) (hC:CkAt w c (.agg #[.string s,.slice x1 c.uses y1,qi c.data,.slice x2 c.parts.length y2,.slice x3 n3 y3,iv,qi c.locals])) (hm:(Lit.int .i64 x.m).wf=true) (ha:(Lit.int .i64 x.at_).wf=true) (hl:x.args.length<=17592186044416) :
 qc 213 #[.agg #[.string s,.slice x1 c.uses y1,qi c.data,.slice x2 c.parts.length y2,.slice x3 n3 y3,iv,qi c.locals],.agg #[qi x.op,qi x.n,qi x.m,qi x.at_,.slice aa x.args.length cp]] w fun e w'=>e = .returned (.bool (zax c x))/\qb w w':=by
 obtain ⟨op,n,m,at_,args⟩:=x;simp only [Nd.op,Nd.n,Nd.m,Nd.at_,Nd.args] at *;have HC:=hid hC;have HM:=hid hm;have HA:=hid ha;clear hC hm ha
 by_cases o3:op=3
 . subst o3
   by_cases t2:args.length=0
   . by_cases t1:n=0
     . have HR:Hid (zax c (.mk 3 n m at_ args)=numB c m at_ 1):=by show _=_;unfold zax;simp only [Nd.op,Nd.n,Nd.m,Nd.at_,Nd.args];simp [*]
       go_enter Tryz.func213,Tryz.ntmps213;go_wp2_with fail;refine (HC.out.num _ (al2 _ _ _) m at_ 1 HM.out HA.out (by decide) (by decide)).mono ?_;rintro e w1 ⟨rfl,A6⟩;have A7:=hid (thenB (al2 w _ _) A6);clear A6;go_wp2_with fail;go_ret;exact ⟨ret_bool HR.out.symm,A7.out⟩
     . have HR:Hid (zax c (.mk 3 n m at_ args)=false):=by show _=_;unfold zax;simp only [Nd.op,Nd.n,Nd.m,Nd.at_,Nd.args];simp [*]
       have t':n≠0:=by omega
       clear t1;go_enter Tryz.func213,Tryz.ntmps213;go_wp2_with fail;go_ret;exact ⟨ret_bool HR.out.symm,al2 _ _ _⟩
   . have HR:Hid (zax c (.mk 3 n m at_ args)=false):=by show _=_;unfold zax;simp only [Nd.op,Nd.n,Nd.m,Nd.at_,Nd.args];simp [*]
     have t':args.length≠0:=by omega
     clear t2;go_enter Tryz.func213,Tryz.ntmps213;go_wp2_with fail;go_ret;exact ⟨ret_bool HR.out.symm,al2 _ _ _⟩
 by_cases o4:op=4
 . subst o4
   by_cases t1:args.length=1
   . have HR:Hid (zax c (.mk 4 n m at_ args)=zz4 c n m at_):=by show _=_;unfold zax;simp only [Nd.op,Nd.n,Nd.m,Nd.at_,Nd.args];simp [*]
     go_enter Tryz.func213,Tryz.ntmps213;go_wp2_with fail;refine (zg1 c s x1 y1 x2 y2 x3 n3 y3 iv n m at_ _ (HC.out.later (al2 _ _ _)) HM.out HA.out).mono ?_;rintro e w1 ⟨rfl,A6⟩;have A7:=hid (thenB (al2 w _ _) A6);clear A6;go_wp2_with fail;go_ret;exact ⟨ret_bool HR.out.symm,A7.out⟩
   . have HR:Hid (zax c (.mk 4 n m at_ args)=false):=by show _=_;unfold zax;simp only [Nd.op,Nd.n,Nd.m,Nd.at_,Nd.args];simp [*]
     have t':args.length≠1:=by omega
     clear t1;go_enter Tryz.func213,Tryz.ntmps213;go_wp2_with fail;go_ret;exact ⟨ret_bool HR.out.symm,al2 _ _ _⟩
 by_cases o5:op=5
 . subst o5
   by_cases t1:n=0
   . have HR:Hid (zax c (.mk 5 n m at_ args)=zjn c m at_ args.length):=by show _=_;unfold zax;simp only [Nd.op,Nd.n,Nd.m,Nd.at_,Nd.args];simp [*]
     go_enter Tryz.func213,Tryz.ntmps213;go_wp2_with fail;refine (HC.out.prt _ (al2 _ _ _) m at_ args.length HM.out HA.out hl).mono ?_;rintro e w1 ⟨rfl,A6⟩;have A7:=hid (thenB (al2 w _ _) A6);clear A6;go_wp2_with fail;go_ret;exact ⟨ret_bool HR.out.symm,A7.out⟩
   . have HR:Hid (zax c (.mk 5 n m at_ args)=false):=by show _=_;unfold zax;simp only [Nd.op,Nd.n,Nd.m,Nd.at_,Nd.args];simp [*]
     have t':n≠0:=by omega
     clear t1;go_enter Tryz.func213,Tryz.ntmps213;go_wp2_with fail;go_ret;exact ⟨ret_bool HR.out.symm,al2 _ _ _⟩
 by_cases NP:op=16
 . subst NP
   by_cases t3:args.length=0
   . by_cases t2:n=0
     . by_cases t1:m=0
       . have HR:Hid (zax c (.mk 16 n m at_ args)=zxa c at_):=by show _=_;unfold zax;simp only [Nd.op,Nd.n,Nd.m,Nd.at_,Nd.args];simp [*]
         go_enter Tryz.func213,Tryz.ntmps213;go_wp2_with fail;refine (zg0 c s x1 y1 x2 y2 x3 n3 y3 iv at_ _).mono ?_;rintro e w1 ⟨rfl,A6⟩;have A7:=hid (thenB (al2 w _ _) A6);clear A6;go_wp2_with fail;go_ret;exact ⟨ret_bool HR.out.symm,A7.out⟩
       . have HR:Hid (zax c (.mk 16 n m at_ args)=false):=by show _=_;unfold zax;simp only [Nd.op,Nd.n,Nd.m,Nd.at_,Nd.args];simp [*]
         have t':m≠0:=by omega
         clear t1;go_enter Tryz.func213,Tryz.ntmps213;go_wp2_with fail;go_ret;exact ⟨ret_bool HR.out.symm,al2 _ _ _⟩
     . have HR:Hid (zax c (.mk 16 n m at_ args)=false):=by show _=_;unfold zax;simp only [Nd.op,Nd.n,Nd.m,Nd.at_,Nd.args];simp [*]
       have t':n≠0:=by omega
       clear t2;go_enter Tryz.func213,Tryz.ntmps213;go_wp2_with fail;go_ret;exact ⟨ret_bool HR.out.symm,al2 _ _ _⟩
   . have HR:Hid (zax c (.mk 16 n m at_ args)=false):=by show _=_;unfold zax;simp only [Nd.op,Nd.n,Nd.m,Nd.at_,Nd.args];simp [*]
     have t':args.length≠0:=by omega
     clear t3;go_enter Tryz.func213,Tryz.ntmps213;go_wp2_with fail;go_ret;exact ⟨ret_bool HR.out.symm,al2 _ _ _⟩
 by_cases o1:op=1
 . subst o1
   by_cases t5:args.length=0
   . by_cases t4:0<=n
     . by_cases t3:n<=1099511627775
       . by_cases t2:m=0
         . by_cases t1:at_=0
           . have HR:Hid (zax c (.mk 1 n m at_ args)=true):=by show _=_;unfold zax;simp only [Nd.op,Nd.n,Nd.m,Nd.at_,Nd.args];simp [*]
             go_enter Tryz.func213,Tryz.ntmps213;go_wp2_with fail;go_ret;exact ⟨ret_bool HR.out.symm,al2 _ _ _⟩
           . have HR:Hid (zax c (.mk 1 n m at_ args)=false):=by show _=_;unfold zax;simp only [Nd.op,Nd.n,Nd.m,Nd.at_,Nd.args];simp [*]
             have t':at_≠0:=by omega
             clear t1;go_enter Tryz.func213,Tryz.ntmps213;go_wp2_with fail;go_ret;exact ⟨ret_bool (by first | exact HR.out.symm | (rw [HR.out];first | (simp;omega) | (simp [*];done))),al2 _ _ _⟩
         . have HR:Hid (zax c (.mk 1 n m at_ args)=false):=by show _=_;unfold zax;simp only [Nd.op,Nd.n,Nd.m,Nd.at_,Nd.args];simp [*]
           have t':m≠0:=by omega
           clear t2;go_enter Tryz.func213,Tryz.ntmps213;go_wp2_with fail;go_ret;exact ⟨ret_bool HR.out.symm,al2 _ _ _⟩
       . have HR:Hid (zax c (.mk 1 n m at_ args)=false):=by show _=_;unfold zax;simp only [Nd.op,Nd.n,Nd.m,Nd.at_,Nd.args];simp [*]
         have t':1099511627775<n:=by omega
         clear t3;go_enter Tryz.func213,Tryz.ntmps213;go_wp2_with fail;go_ret;exact ⟨ret_bool HR.out.symm,al2 _ _ _⟩
     . have HR:Hid (zax c (.mk 1 n m at_ args)=false):=by show _=_;unfold zax;simp only [Nd.op,Nd.n,Nd.m,Nd.at_,Nd.args];simp [*]
       have t':n<0:=by omega
       clear t4;go_enter Tryz.func213,Tryz.ntmps213;go_wp2_with fail;go_ret;exact ⟨ret_bool HR.out.symm,al2 _ _ _⟩
   . have HR:Hid (zax c (.mk 1 n m at_ args)=false):=by show _=_;unfold zax;simp only [Nd.op,Nd.n,Nd.m,Nd.at_,Nd.args];simp [*]
     have t':args.length≠0:=by omega
     clear t5;go_enter Tryz.func213,Tryz.ntmps213;go_wp2_with fail;go_ret;exact ⟨ret_bool HR.out.symm,al2 _ _ _⟩
 have HQ:Hid (zax c (.mk op n m at_ args)=(decide ((args.length:Int)=argsOf op)&&(decide (n=0)&&(decide (m=0)&&decide (at_=0))))):=by
  show _=_;unfold zax;exact (if_neg o3).trans ((if_neg o4).trans ((if_neg o5).trans ((if_neg NP).trans (if_neg o1))))
 have HG:=hid (zwr op);generalize argsOf op=g at *
 by_cases t4:(args.length:Int)=g
 . by_cases t3:n=0
   . by_cases t2:m=0
     . by_cases t1:at_=0
       . have HR:Hid (zax c (.mk op n m at_ args)=true):=by show _=_;rw [HQ.out];simp [*]
         go_enter Tryz.func213,Tryz.ntmps213;go_wp2_with fail;refine (HG.out _).mono ?_;rintro e w1 ⟨rfl,rfl⟩;go_wp2_with fail;go_ret;exact ⟨ret_bool HR.out.symm,al2 _ _ _⟩
       . have HR:Hid (zax c (.mk op n m at_ args)=false):=by show _=_;rw [HQ.out];simp [*]
         have t':at_≠0:=by omega
         clear t1;go_enter Tryz.func213,Tryz.ntmps213;go_wp2_with fail;refine (HG.out _).mono ?_;rintro e w1 ⟨rfl,rfl⟩;go_wp2_with fail;go_ret;exact ⟨ret_bool (by first | exact HR.out.symm | (rw [HR.out];first | (simp;omega) | (simp [*];done))),al2 _ _ _⟩
     . have HR:Hid (zax c (.mk op n m at_ args)=false):=by show _=_;rw [HQ.out];simp [*]
       have t':m≠0:=by omega
       clear t2;go_enter Tryz.func213,Tryz.ntmps213;go_wp2_with fail;refine (HG.out _).mono ?_;rintro e w1 ⟨rfl,rfl⟩;go_wp2_with fail;go_ret;exact ⟨ret_bool HR.out.symm,al2 _ _ _⟩
   . have HR:Hid (zax c (.mk op n m at_ args)=false):=by show _=_;rw [HQ.out];simp [*]
     have t':n≠0:=by omega
     clear t3;go_enter Tryz.func213,Tryz.ntmps213;go_wp2_with fail;refine (HG.out _).mono ?_;rintro e w1 ⟨rfl,rfl⟩;go_wp2_with fail;go_ret;exact ⟨ret_bool HR.out.symm,al2 _ _ _⟩
 . have HR:Hid (zax c (.mk op n m at_ args)=false):=by show _=_;rw [HQ.out];simp [*]
   have t':(args.length:Int)≠g:=by omega
   clear t4;go_enter Tryz.func213,Tryz.ntmps213;go_wp2_with fail;refine (HG.out _).mono ?_;rintro e w1 ⟨rfl,rfl⟩;go_wp2_with fail;go_ret;exact ⟨ret_bool HR.out.symm,al2 _ _ _⟩
theorem zrb (c:Ck) (s:ByteArray) (x1:OA) (y1:Nat) (x2:OA) (y2:Nat) (x3:OA) (n3 y3:Nat) (iv:Value) (x:Ac) (aa:OA) (cp:Nat) (ab:OA) (cb:Nat) (ao:OA) (co:Nat) (w:World) (hC:CkAt w c (.agg #[.string s,.slice x1 c.uses y1,qi c.data,.slice x2 c.parts.length y2,.slice x3 n3 y3,iv,qi c.locals])) (hm:(Lit.int .i64 x.m).wf=true) (ha:(Lit.int .i64 x.at_).wf=true) (hl:x.args.length<=17592186044416) :
 qc 169 #[.agg #[.string s,.slice x1 c.uses y1,qi c.data,.slice x2 c.parts.length y2,.slice x3 n3 y3,iv,qi c.locals],.agg #[qi x.op,qi x.n,qi x.m,qi x.at_,.slice aa x.args.length cp,.slice ab x.body.length cb,.slice ao x.other.length co]] w fun e w'=>e = .returned (.bool (zb7 c x))/\qb w w':=by
 obtain ⟨op,n,m,at_,args,body,other⟩:=x;simp only [Ac.op,Ac.n,Ac.m,Ac.at_,Ac.args,Ac.body,Ac.other] at *;have HC:=hid hC;have HM:=hid hm;have HA:=hid ha;clear hC hm ha
 by_cases o1:op=1
 . subst o1
   by_cases om:m = -1
   . subst om
     by_cases t2:args.length=1
     . by_cases t1:n=0
       . have HR:Hid (zb7 c (.mk 1 n (-1) at_ args body other)=zxa c at_):=by show _=_;unfold zb7;simp only [Ac.op,Ac.n,Ac.m,Ac.at_,Ac.args];simp [*]
         go_enter Tryz.func169,Tryz.ntmps169;go_wp2_with fail;refine (zg0 c s x1 y1 x2 y2 x3 n3 y3 iv at_ _).mono ?_;rintro e w1 ⟨rfl,A6⟩;have A7:=hid (thenB (al2 w _ _) A6);clear A6;go_wp2_with fail;go_ret;exact ⟨ret_bool HR.out.symm,A7.out⟩
       . have HR:Hid (zb7 c (.mk 1 n (-1) at_ args body other)=false):=by show _=_;unfold zb7;simp only [Ac.op,Ac.n,Ac.m,Ac.at_,Ac.args];simp [*]
         have t':n≠0:=by omega
         clear t1;go_enter Tryz.func169,Tryz.ntmps169;go_wp2_with fail;go_ret;exact ⟨ret_bool HR.out.symm,al2 _ _ _⟩
     . have HR:Hid (zb7 c (.mk 1 n (-1) at_ args body other)=false):=by show _=_;unfold zb7;simp only [Ac.op,Ac.n,Ac.m,Ac.at_,Ac.args];simp [*]
       have t':args.length≠1:=by omega
       clear t2;go_enter Tryz.func169,Tryz.ntmps169;go_wp2_with fail;go_ret;exact ⟨ret_bool HR.out.symm,al2 _ _ _⟩
   . by_cases t2:args.length=1
     . by_cases t1:n=0
       . have HR:Hid (zb7 c (.mk 1 n m at_ args body other)=numB c m at_ 1):=by show _=_;unfold zb7;simp only [Ac.op,Ac.n,Ac.m,Ac.at_,Ac.args];simp [*]
         go_enter Tryz.func169,Tryz.ntmps169;go_wp2_with fail;refine (HC.out.num _ (al2 _ _ _) m at_ 1 HM.out HA.out (by decide) (by decide)).mono ?_;rintro e w1 ⟨rfl,A6⟩;have A7:=hid (thenB (al2 w _ _) A6);clear A6;go_wp2_with fail;go_ret;exact ⟨ret_bool HR.out.symm,A7.out⟩
       . have HR:Hid (zb7 c (.mk 1 n m at_ args body other)=false):=by show _=_;unfold zb7;simp only [Ac.op,Ac.n,Ac.m,Ac.at_,Ac.args];simp [*]
         have t':n≠0:=by omega
         clear t1;go_enter Tryz.func169,Tryz.ntmps169;go_wp2_with fail;go_ret;exact ⟨ret_bool HR.out.symm,al2 _ _ _⟩
     . have HR:Hid (zb7 c (.mk 1 n m at_ args body other)=false):=by show _=_;unfold zb7;simp only [Ac.op,Ac.n,Ac.m,Ac.at_,Ac.args];simp [*]
       have t':args.length≠1:=by omega
       clear t2;go_enter Tryz.func169,Tryz.ntmps169;go_wp2_with fail;go_ret;exact ⟨ret_bool HR.out.symm,al2 _ _ _⟩
 by_cases o2:op=2
 . subst o2
   by_cases t1:args.length=2
   . have HR:Hid (zb7 c (.mk 2 n m at_ args body other)=zz4 c n m at_):=by show _=_;unfold zb7;simp only [Ac.op,Ac.n,Ac.m,Ac.at_,Ac.args];simp [*]
     go_enter Tryz.func169,Tryz.ntmps169;go_wp2_with fail;refine (zg1 c s x1 y1 x2 y2 x3 n3 y3 iv n m at_ _ (HC.out.later (al2 _ _ _)) HM.out HA.out).mono ?_;rintro e w1 ⟨rfl,A6⟩;have A7:=hid (thenB (al2 w _ _) A6);clear A6;go_wp2_with fail;go_ret;exact ⟨ret_bool HR.out.symm,A7.out⟩
   . have HR:Hid (zb7 c (.mk 2 n m at_ args body other)=false):=by show _=_;unfold zb7;simp only [Ac.op,Ac.n,Ac.m,Ac.at_,Ac.args];simp [*]
     have t':args.length≠2:=by omega
     clear t1;go_enter Tryz.func169,Tryz.ntmps169;go_wp2_with fail;go_ret;exact ⟨ret_bool HR.out.symm,al2 _ _ _⟩
 by_cases o3:op=3
 . subst o3
   by_cases t1:n=0
   . have HR:Hid (zb7 c (.mk 3 n m at_ args body other)=zjn c m at_ args.length):=by show _=_;unfold zb7;simp only [Ac.op,Ac.n,Ac.m,Ac.at_,Ac.args];simp [*]
     go_enter Tryz.func169,Tryz.ntmps169;go_wp2_with fail;refine (HC.out.prt _ (al2 _ _ _) m at_ args.length HM.out HA.out hl).mono ?_;rintro e w1 ⟨rfl,A6⟩;have A7:=hid (thenB (al2 w _ _) A6);clear A6;go_wp2_with fail;go_ret;exact ⟨ret_bool HR.out.symm,A7.out⟩
   . have HR:Hid (zb7 c (.mk 3 n m at_ args body other)=false):=by show _=_;unfold zb7;simp only [Ac.op,Ac.n,Ac.m,Ac.at_,Ac.args];simp [*]
     have t':n≠0:=by omega
     clear t1;go_enter Tryz.func169,Tryz.ntmps169;go_wp2_with fail;go_ret;exact ⟨ret_bool HR.out.symm,al2 _ _ _⟩
 by_cases o4:op=4
 . subst o4
   by_cases t4:args.length=1
   . by_cases t3:n=0
     . by_cases t2:m=0
       . by_cases t1:at_=0
         . have HR:Hid (zb7 c (.mk 4 n m at_ args body other)=true):=by show _=_;unfold zb7;simp only [Ac.op,Ac.n,Ac.m,Ac.at_,Ac.args];simp [*]
           go_enter Tryz.func169,Tryz.ntmps169;go_wp2_with fail;go_ret;exact ⟨ret_bool HR.out.symm,al2 _ _ _⟩
         . have HR:Hid (zb7 c (.mk 4 n m at_ args body other)=false):=by show _=_;unfold zb7;simp only [Ac.op,Ac.n,Ac.m,Ac.at_,Ac.args];simp [*]
           have t':at_≠0:=by omega
           clear t1;go_enter Tryz.func169,Tryz.ntmps169;go_wp2_with fail;go_ret;exact ⟨ret_bool (by first | exact HR.out.symm | (rw [HR.out];first | (simp;omega) | (simp [*];done))),al2 _ _ _⟩
       . have HR:Hid (zb7 c (.mk 4 n m at_ args body other)=false):=by show _=_;unfold zb7;simp only [Ac.op,Ac.n,Ac.m,Ac.at_,Ac.args];simp [*]
         have t':m≠0:=by omega
         clear t2;go_enter Tryz.func169,Tryz.ntmps169;go_wp2_with fail;go_ret;exact ⟨ret_bool HR.out.symm,al2 _ _ _⟩
     . have HR:Hid (zb7 c (.mk 4 n m at_ args body other)=false):=by show _=_;unfold zb7;simp only [Ac.op,Ac.n,Ac.m,Ac.at_,Ac.args];simp [*]
       have t':n≠0:=by omega
       clear t3;go_enter Tryz.func169,Tryz.ntmps169;go_wp2_with fail;go_ret;exact ⟨ret_bool HR.out.symm,al2 _ _ _⟩
   . have HR:Hid (zb7 c (.mk 4 n m at_ args body other)=false):=by show _=_;unfold zb7;simp only [Ac.op,Ac.n,Ac.m,Ac.at_,Ac.args];simp [*]
     have t':args.length≠1:=by omega
     clear t4;go_enter Tryz.func169,Tryz.ntmps169;go_wp2_with fail;go_ret;exact ⟨ret_bool HR.out.symm,al2 _ _ _⟩
 by_cases o5:op=5
 . subst o5
   by_cases t4:args.length=1
   . by_cases t3:n=0
     . by_cases t2:m=0
       . by_cases t1:at_=0
         . have HR:Hid (zb7 c (.mk 5 n m at_ args body other)=true):=by show _=_;unfold zb7;simp only [Ac.op,Ac.n,Ac.m,Ac.at_,Ac.args];simp [*]
           go_enter Tryz.func169,Tryz.ntmps169;go_wp2_with fail;go_ret;exact ⟨ret_bool HR.out.symm,al2 _ _ _⟩
         . have HR:Hid (zb7 c (.mk 5 n m at_ args body other)=false):=by show _=_;unfold zb7;simp only [Ac.op,Ac.n,Ac.m,Ac.at_,Ac.args];simp [*]
           have t':at_≠0:=by omega
           clear t1;go_enter Tryz.func169,Tryz.ntmps169;go_wp2_with fail;go_ret;exact ⟨ret_bool (by first | exact HR.out.symm | (rw [HR.out];first | (simp;omega) | (simp [*];done))),al2 _ _ _⟩
       . have HR:Hid (zb7 c (.mk 5 n m at_ args body other)=false):=by show _=_;unfold zb7;simp only [Ac.op,Ac.n,Ac.m,Ac.at_,Ac.args];simp [*]
         have t':m≠0:=by omega
         clear t2;go_enter Tryz.func169,Tryz.ntmps169;go_wp2_with fail;go_ret;exact ⟨ret_bool HR.out.symm,al2 _ _ _⟩
     . have HR:Hid (zb7 c (.mk 5 n m at_ args body other)=false):=by show _=_;unfold zb7;simp only [Ac.op,Ac.n,Ac.m,Ac.at_,Ac.args];simp [*]
       have t':n≠0:=by omega
       clear t3;go_enter Tryz.func169,Tryz.ntmps169;go_wp2_with fail;go_ret;exact ⟨ret_bool HR.out.symm,al2 _ _ _⟩
   . have HR:Hid (zb7 c (.mk 5 n m at_ args body other)=false):=by show _=_;unfold zb7;simp only [Ac.op,Ac.n,Ac.m,Ac.at_,Ac.args];simp [*]
     have t':args.length≠1:=by omega
     clear t4;go_enter Tryz.func169,Tryz.ntmps169;go_wp2_with fail;go_ret;exact ⟨ret_bool HR.out.symm,al2 _ _ _⟩
 by_cases o6:op=6
 . subst o6
   by_cases t4:args.length=1
   . by_cases t3:n=0
     . by_cases t2:m=0
       . by_cases t1:at_=0
         . have HR:Hid (zb7 c (.mk 6 n m at_ args body other)=true):=by show _=_;unfold zb7;simp only [Ac.op,Ac.n,Ac.m,Ac.at_,Ac.args];simp [*]
           go_enter Tryz.func169,Tryz.ntmps169;go_wp2_with fail;go_ret;exact ⟨ret_bool HR.out.symm,al2 _ _ _⟩
         . have HR:Hid (zb7 c (.mk 6 n m at_ args body other)=false):=by show _=_;unfold zb7;simp only [Ac.op,Ac.n,Ac.m,Ac.at_,Ac.args];simp [*]
           have t':at_≠0:=by omega
           clear t1;go_enter Tryz.func169,Tryz.ntmps169;go_wp2_with fail;go_ret;exact ⟨ret_bool (by first | exact HR.out.symm | (rw [HR.out];first | (simp;omega) | (simp [*];done))),al2 _ _ _⟩
       . have HR:Hid (zb7 c (.mk 6 n m at_ args body other)=false):=by show _=_;unfold zb7;simp only [Ac.op,Ac.n,Ac.m,Ac.at_,Ac.args];simp [*]
         have t':m≠0:=by omega
         clear t2;go_enter Tryz.func169,Tryz.ntmps169;go_wp2_with fail;go_ret;exact ⟨ret_bool HR.out.symm,al2 _ _ _⟩
     . have HR:Hid (zb7 c (.mk 6 n m at_ args body other)=false):=by show _=_;unfold zb7;simp only [Ac.op,Ac.n,Ac.m,Ac.at_,Ac.args];simp [*]
       have t':n≠0:=by omega
       clear t3;go_enter Tryz.func169,Tryz.ntmps169;go_wp2_with fail;go_ret;exact ⟨ret_bool HR.out.symm,al2 _ _ _⟩
   . have HR:Hid (zb7 c (.mk 6 n m at_ args body other)=false):=by show _=_;unfold zb7;simp only [Ac.op,Ac.n,Ac.m,Ac.at_,Ac.args];simp [*]
     have t':args.length≠1:=by omega
     clear t4;go_enter Tryz.func169,Tryz.ntmps169;go_wp2_with fail;go_ret;exact ⟨ret_bool HR.out.symm,al2 _ _ _⟩
 by_cases o7:op=7
 . subst o7
   by_cases t4:args.length=1
   . by_cases t3:n=0
     . by_cases t2:m=0
       . by_cases t1:at_=0
         . have HR:Hid (zb7 c (.mk 7 n m at_ args body other)=true):=by show _=_;unfold zb7;simp only [Ac.op,Ac.n,Ac.m,Ac.at_,Ac.args];simp [*]
           go_enter Tryz.func169,Tryz.ntmps169;go_wp2_with fail;go_ret;exact ⟨ret_bool HR.out.symm,al2 _ _ _⟩
         . have HR:Hid (zb7 c (.mk 7 n m at_ args body other)=false):=by show _=_;unfold zb7;simp only [Ac.op,Ac.n,Ac.m,Ac.at_,Ac.args];simp [*]
           have t':at_≠0:=by omega
           clear t1;go_enter Tryz.func169,Tryz.ntmps169;go_wp2_with fail;go_ret;exact ⟨ret_bool (by first | exact HR.out.symm | (rw [HR.out];first | (simp;omega) | (simp [*];done))),al2 _ _ _⟩
       . have HR:Hid (zb7 c (.mk 7 n m at_ args body other)=false):=by show _=_;unfold zb7;simp only [Ac.op,Ac.n,Ac.m,Ac.at_,Ac.args];simp [*]
         have t':m≠0:=by omega
         clear t2;go_enter Tryz.func169,Tryz.ntmps169;go_wp2_with fail;go_ret;exact ⟨ret_bool HR.out.symm,al2 _ _ _⟩
     . have HR:Hid (zb7 c (.mk 7 n m at_ args body other)=false):=by show _=_;unfold zb7;simp only [Ac.op,Ac.n,Ac.m,Ac.at_,Ac.args];simp [*]
       have t':n≠0:=by omega
       clear t3;go_enter Tryz.func169,Tryz.ntmps169;go_wp2_with fail;go_ret;exact ⟨ret_bool HR.out.symm,al2 _ _ _⟩
   . have HR:Hid (zb7 c (.mk 7 n m at_ args body other)=false):=by show _=_;unfold zb7;simp only [Ac.op,Ac.n,Ac.m,Ac.at_,Ac.args];simp [*]
     have t':args.length≠1:=by omega
     clear t4;go_enter Tryz.func169,Tryz.ntmps169;go_wp2_with fail;go_ret;exact ⟨ret_bool HR.out.symm,al2 _ _ _⟩
 have HR:Hid (zb7 c (.mk op n m at_ args body other)=false):=by
  show _=_;unfold zb7;exact (if_neg o1).trans ((if_neg o2).trans ((if_neg o3).trans (if_neg (by show ¬ (4<=op/\op<=7);omega))))
 go_enter Tryz.func169,Tryz.ntmps169;go_wp2_with fail;go_ret;exact ⟨ret_bool HR.out.symm,al2 _ _ _⟩
set_option maxHeartbeats 1600000
theorem zh4 (c:Ck) (s:ByteArray) (x1:OA) (y1:Nat) (x2:OA) (y2:Nat) (x3:OA) (n3 y3:Nat) (iv:Value) (a:OA) (cap:Nat) (Ad:Int) (w:World) :
 qc 170 #[.agg #[.string s,.slice x1 c.uses y1,qi c.data,.slice x2 c.parts.length y2,.slice x3 n3 y3,iv,qi c.locals],.slice a 0 cap,qi Ad] w fun e w'=>e = .returned (.bool true)/\qb w w':=by
 go_enter Tryz.func170,Tryz.ntmps170;go_wp2_with fail
 go_loopw [18] (fun i wr=>i=qi 0/\qb w wr) (fun _ _=>0)
 case atStart=>exact ⟨rfl,al1 _ _⟩
 case round=>
  obtain ⟨rfl,hb⟩:=hrel;have HB:=hid hb;clear hb;go_wp2_with fail;go_ret;exact ⟨rfl,HB.out⟩
theorem zmh (c:Ck) (s:ByteArray) (x1:OA) (y1:Nat) (x2:OA) (y2:Nat) (x3:OA) (n3 y3:Nat) (iv:Value) (a:OA) (n cap:Nat) (w:World) (hn:0<n) :
 qc 170 #[.agg #[.string s,.slice x1 c.uses y1,qi c.data,.slice x2 c.parts.length y2,.slice x3 n3 y3,iv,qi c.locals],.slice a n cap,qi 7] w fun e w'=>e = .returned (.bool false)/\qb w w':=by
 go_enter Tryz.func170,Tryz.ntmps170;go_wp2_with fail;go_ret;exact ⟨rfl,al1 _ _⟩
theorem z23 (c:Ck) (k:Nat):zgf c k []=true:=by cases k<;>simp [zgf]
theorem zh5 (c:Ck) (s:ByteArray) (x1:OA) (y1:Nat) (x2:OA) (y2:Nat) (x3:OA) (n3 y3:Nat) (iv:Value):∀ (k:Nat),k<=6->∀ (l:List Nd) (A:Nat->Prop) (a:OA) (cap:Nat) (Ad:Int) (w:World),Ad=7 - (k:Int)->DAt w A a l.length (zdg l)->CkAt w c (.agg #[.string s,.slice x1 c.uses y1,qi c.data,.slice x2 c.parts.length y2,.slice x3 n3 y3,iv,qi c.locals])->
 qc 170 #[.agg #[.string s,.slice x1 c.uses y1,qi c.data,.slice x2 c.parts.length y2,.slice x3 n3 y3,iv,qi c.locals],.slice a l.length cap,qi Ad] w fun e w'=>e = .returned (.bool (zgf c k l))/\qb w w'
 | 0,_,l,A,a,cap,Ad,w,hd,_,_=>by
   obtain rfl:Ad=7:=by omega
   rcases vda l.length with h0 | h0
   . obtain rfl:=vak h0
     exact zh4 c s x1 y1 x2 y2 x3 n3 y3 iv a cap 7 w
   . have:zgf c 0 l=false:=by simp only [zgf];exact decide_eq_false (by omega)
     rw [this];exact zmh c s x1 y1 x2 y2 x3 n3 y3 iv a l.length cap w h0
 | k + 1, hk,l,A,a,cap,Ad,w,hd,hD,hC=>by
   have HI:=hid (fun (l:List Nd) (A:Nat->Prop) (a:OA) (cap:Nat) (w:World)=>zh5 c s x1 y1 x2 y2 x3 n3 y3 iv k (by omega) l A a cap (Ad+1) w (by omega))
   rcases vda l.length with h0 | h0
   . obtain rfl:=vak h0
     rw [z23];exact zh4 c s x1 y1 x2 y2 x3 n3 y3 iv a cap Ad w
   have HR:Hid (zgf c (k+1) l=l.all (fun x=>zax c x&&zgf c k x.args)):=by show _=_;simp [zgf]
   have BH:=hD.bound
   have C6:1<=Ad:=by omega
   have Jl:Ad<=6:=by omega
   have HD:=hid hD;have HC:=hid hC;clear hD hC hd;go_enter Tryz.func170,Tryz.ntmps170;go_wp2_with fail
   go_loopw [18] (fun i wr=>∃ j:Nat,j<=l.length/\i=qi j/\(l.take j).all (fun x=>zax c x&&zgf c k x.args)=true/\qb w wr/\wr.heap[w.heap.size]? = some (.cells #[.string s,.slice x1 c.uses y1,qi c.data,.slice x2 c.parts.length y2,.slice x3 n3 y3,iv,qi c.locals] 206)) (fun i _=>l.length - (intOf i).toNat)
   case atStart=>exact ⟨0,vag _,rfl,rfl,al1 _ _,heap_newP _ _⟩
   case round=>
    obtain ⟨j,hj,rfl,A8,hb,hB⟩:=hrel;obtain ⟨q0,q1,q2,q3,q4,q5,q6,qz⟩:=zao hB;have HB:=hid hb;have HX:=hid hB;have HL:=hid A8;clear A8 hB hb
    by_cases A4:j<l.length
    . obtain ⟨b,off,aa,cp,rfl,hx⟩:=(HD.out.later HB.out).nd j A4
      have HF:=hid (fun (h:(zax c l[j]&&zgf c k l[j].args)=false)=>all_not l (fun x=>zax c x&&zgf c k x.args) j A4 h);have HT:=hid (fun (h:(zax c l[j]&&zgf c k l[j].args)=true)=>(by rw [all_snoc l _ j A4,HL.out,h];rfl:(l.take (j+1)).all (fun x=>zax c x&&zgf c k x.args)=true));obtain ⟨Au,x0,x1',x2',x3',x4,hargs,_,_,hm,AH⟩:=hx;have HA:=hid hargs;have DV:=hargs.bound;have HM:=hid hm;have G9:=hid AH;clear hargs hm AH;generalize l[j]=x at *;go_wp2_with fail;refine (zpe c s x1 y1 x2 y2 x3 n3 y3 iv x aa cp _ (HC.out.later (thenB HB.out (al1 _ _))) HM.out G9.out DV).mono ?_
      cases h1:zax c x with
      | false=>
        rintro e w3 ⟨rfl,A9⟩;have Ae:=hid (thenB HB.out (thenB (al1 _ _) A9));have Bc:=hid (HF.out (by rw [h1];rfl));clear A9;go_wp2_with fail;go_ret;exact ⟨ret_bool (by rw [HR.out,Bc.out]),Ae.out⟩
      | true=>
        rintro e w3 ⟨rfl,A9⟩;have Ae:=hid (thenB (al1 wr _) A9);have p1:=(Ae.out.block _ (lt_of_heap HX.out)).trans HX.out;have p2:=(A9.block _ (by simp)).trans (heap_newP wr (kzF x.op x.n x.m x.at_ aa x.args.length cp));have Cm:=hid p1;clear q0 q1 q2 q3 q4 q5 q6 qz x0 x1' x2' x3' x4 Au;obtain ⟨q0,q1,q2,q3,q4,q5,q6,qz⟩:=zao p1;obtain ⟨z0,z1,z2,z3,z4,_⟩:=zaa p2;have zz:=lt_of_heap p2;clear A9 p1 p2;go_wp2_with fail;refine (HI.out x.args A aa cp _ (HA.out.later Ae.out) (HC.out.later (thenB HB.out Ae.out))).mono ?_
        cases h2:zgf c k x.args with
        | false=>
          rintro e w4 ⟨rfl,Aj⟩;have Ar:=hid (thenB (thenB HB.out Ae.out) Aj);have Bc:=hid (HF.out (by rw [h1,h2];rfl));clear Aj;go_wp2_with fail;go_ret;exact ⟨ret_bool (by rw [HR.out,Bc.out]),Ar.out⟩
        | true=>
          rintro e w4 ⟨rfl,Aj⟩;have Ar:=hid (thenB (thenB HB.out Ae.out) Aj);have DZ:=hid ((Aj.block _ (lt_of_heap Cm.out)).trans Cm.out);have B6:=hid (HT.out (by rw [h1,h2];rfl));clear Aj;go_wp2_with fail;go_roundw
          case rel=>exact ⟨j+1,by omega,by go_num,B6.out,Ar.out,DZ.out⟩
          case measure=>simp [intOf];omega
    . have HT:Hid (l.all (fun x=>zax c x&&zgf c k x.args)=true):=zda HL.out A4
      go_wp2_with fail;go_ret;exact ⟨ret_bool (by rw [HR.out,HT.out]),HB.out⟩
set_option maxHeartbeats 3200000
def z01 (c:Ck) (k:Nat) (a:Ac):Bool:=if a.op=4 then zeo c k a.body&&zeo c k a.other else if a.op=5 then zeo c k a.body&&decide (a.other.length=0) else decide (a.body.length=0)&&decide (a.other.length=0)
def zpf (c:Ck) (cv:Value) (k:Nat):Prop:=∀ (l:List Ac) (A:Nat->Prop) (a:OA) (cap:Nat) (Ad:Int) (w:World),Ad=7 - (k:Int)->DAt w A a l.length (zdm l)->CkAt w c cv->
    qc 128 #[cv,.slice a l.length cap,qi Ad] w fun e w'=>e = .returned (.bool (zeo c k l))/\qb w w'
theorem zmi (c:Ck) (s:ByteArray) (x1:OA) (y1:Nat) (x2:OA) (y2:Nat) (x3:OA) (n3 y3:Nat) (iv:Value) (k:Nat) (hk:k<=6) (ih:zpf c (.agg #[.string s,.slice x1 c.uses y1,qi c.data,.slice x2 c.parts.length y2,.slice x3 n3 y3,iv,qi c.locals]) k) (x:Ac) (A:Nat->Prop) (aa:OA) (cp:Nat) (ab:OA) (cb:Nat) (ao:OA) (co:Nat) (Ad:Int) (w:World) (hd:Ad=7 - (k:Int)) (hB:DAt w A ab x.body.length (zdm x.body)) (hO:DAt w A ao x.other.length (zdm x.other)) (hC:CkAt w c (.agg #[.string s,.slice x1 c.uses y1,qi c.data,.slice x2 c.parts.length y2,.slice x3 n3 y3,iv,qi c.locals])) :
 qc 171 #[.agg #[.string s,.slice x1 c.uses y1,qi c.data,.slice x2 c.parts.length y2,.slice x3 n3 y3,iv,qi c.locals],.agg #[qi x.op,qi x.n,qi x.m,qi x.at_,.slice aa x.args.length cp,.slice ab x.body.length cb,.slice ao x.other.length co],qi Ad] w fun e w'=>e = .returned (.bool (z01 c k x))/\qb w w':=by
 have HI:=hid (fun l A a cap w=>ih l A a cap Ad w hd);have Iy:=hB.bound;have Io:=hO.bound;have HB:=hid hB;have HO:=hid hO;have HC:=hid hC;clear ih hB hO hC hd
 by_cases o4:x.op=4
 . have HR:Hid (z01 c k x=(zeo c k x.body&&zeo c k x.other)):=if_pos o4
   go_enter Tryz.func171,Tryz.ntmps171;go_wp2_with fail;refine (HI.out x.body A ab cb _ (HB.out.later (al2 _ _ _)) (HC.out.later (al2 _ _ _))).mono ?_
   cases h1:zeo c k x.body with
   | false=>
     rintro e w3 ⟨rfl,A9⟩;have Ae:=hid (thenB (al2 w _ _) A9);clear A9;go_wp2_with fail;go_ret;exact ⟨ret_bool (by rw [HR.out,h1];rfl),Ae.out⟩
   | true=>
     rintro e w3 ⟨rfl,A9⟩;have Ae:=hid (thenB (al2 w _ _) A9);have p1:=(A9.block w.heap.size (by simp;omega)).trans (zab (heap_newP w (.cells #[.string s,.slice x1 c.uses y1,qi c.data,.slice x2 c.parts.length y2,.slice x3 n3 y3,iv,qi c.locals] 206)));have p2:=(A9.block (w.heap.size+1) (by simp)).trans (z71 w _ _);obtain ⟨q0,q1,q2,q3,q4,q5,q6,qz⟩:=zao p1;obtain ⟨z0,z1,z2,z3,z4,z5,z6,zz⟩:=zao p2;clear A9 p1 p2;go_wp2_with fail;refine (HI.out x.other A ao co _ (HO.out.later Ae.out) (HC.out.later Ae.out)).mono ?_;rintro e w4 ⟨rfl,Aj⟩;have Ar:=hid (thenB Ae.out Aj);clear Aj;go_wp2_with fail;go_ret;exact ⟨ret_bool (by rw [HR.out,h1];rfl),Ar.out⟩
 by_cases o5:x.op=5
 . have HR:Hid (z01 c k x=(zeo c k x.body&&decide (x.other.length=0))):=(if_neg o4).trans (if_pos o5)
   go_enter Tryz.func171,Tryz.ntmps171;go_wp2_with fail;refine (HI.out x.body A ab cb _ (HB.out.later (al2 _ _ _)) (HC.out.later (al2 _ _ _))).mono ?_
   cases h1:zeo c k x.body with
   | false=>
     rintro e w3 ⟨rfl,A9⟩;have Ae:=hid (thenB (al2 w _ _) A9);clear A9;go_wp2_with fail;go_ret;exact ⟨ret_bool (by rw [HR.out,h1];rfl),Ae.out⟩
   | true=>
     rintro e w3 ⟨rfl,A9⟩;have Ae:=hid (thenB (al2 w _ _) A9);have p2:=(A9.block (w.heap.size+1) (by simp)).trans (z71 w _ _);obtain ⟨z0,z1,z2,z3,z4,z5,z6,zz⟩:=zao p2;clear A9 p2
     by_cases h0:x.other.length=0
     . go_wp2_with fail
       go_ret;exact ⟨ret_bool (by rw [HR.out,h1,decide_eq_true h0];rfl),Ae.out⟩
     . have Jz:x.other.length≠0:=h0
       have Ba:Hid (z01 c k x=false):=by show _=_;rw [HR.out,h1,decide_eq_false h0];rfl
       clear h0;go_wp2_with fail;go_ret;exact ⟨ret_bool (by first | exact Ba.out.symm | (rw [Ba.out];first | (simp;omega) | (simp [*];done))),Ae.out⟩
 . have HR:Hid (z01 c k x=(decide (x.body.length=0)&&decide (x.other.length=0))):=(if_neg o4).trans (if_neg o5)
   by_cases EV:x.body.length=0
   . by_cases h0:x.other.length=0
     . have Ba:Hid (z01 c k x=true):=by show _=_;rw [HR.out,decide_eq_true h0,decide_eq_true EV];rfl
       go_enter Tryz.func171,Tryz.ntmps171;go_wp2_with fail;go_ret;exact ⟨ret_bool Ba.out.symm,al2 _ _ _⟩
     . have Jz:x.other.length≠0:=h0
       have Ba:Hid (z01 c k x=false):=by show _=_;rw [HR.out,decide_eq_false h0,decide_eq_true EV];rfl
       clear h0;go_enter Tryz.func171,Tryz.ntmps171;go_wp2_with fail;go_ret;exact ⟨ret_bool (by first | exact Ba.out.symm | (rw [Ba.out];first | (simp;omega) | (simp [*];done))),al2 _ _ _⟩
   . have Jz:x.body.length≠0:=EV
     have Ba:Hid (z01 c k x=false):=by show _=_;rw [HR.out,decide_eq_false EV];rfl
     clear EV;go_enter Tryz.func171,Tryz.ntmps171;go_wp2_with fail;go_ret;exact ⟨ret_bool Ba.out.symm,al2 _ _ _⟩
theorem zlf (c:Ck) (s:ByteArray) (x1:OA) (y1:Nat) (x2:OA) (y2:Nat) (x3:OA) (n3 y3:Nat) (iv:Value) (a:OA) (n cap:Nat) (w:World) :
 qc 128 #[.agg #[.string s,.slice x1 c.uses y1,qi c.data,.slice x2 c.parts.length y2,.slice x3 n3 y3,iv,qi c.locals],.slice a n cap,qi 7] w fun e w'=>e = .returned (.bool false)/\qb w w':=by
 go_enter Tryz.func128,Tryz.ntmps128;go_wp2_with fail;go_ret;exact ⟨rfl,al1 _ _⟩
theorem zlg (c:Ck) (s:ByteArray) (x1:OA) (y1:Nat) (x2:OA) (y2:Nat) (x3:OA) (n3 y3:Nat) (iv:Value) (a:OA) (n cap:Nat) (Ad:Int) (w:World) (hd:Ad<=6) (hn:10<n) (DL:n<=17592186044416) :
 qc 128 #[.agg #[.string s,.slice x1 c.uses y1,qi c.data,.slice x2 c.parts.length y2,.slice x3 n3 y3,iv,qi c.locals],.slice a n cap,qi Ad] w fun e w'=>e = .returned (.bool false)/\qb w w':=by
 go_enter Tryz.func128,Tryz.ntmps128;go_wp2_with fail;go_ret;exact ⟨rfl,al1 _ _⟩
def zxb (c:Ck) (k:Nat) (x:Ac):Bool:=zb7 c x&&(zgf c 6 x.args&&z01 c k x)
theorem zrc (c:Ck) (k:Nat) (l:List Ac):zeo c (k+1) l=(decide (l.length<=10)&&l.all (zxb c k)):=by
 rw [zeo]
 rfl
theorem zws (c:Ck) (s:ByteArray) (x1:OA) (y1:Nat) (x2:OA) (y2:Nat) (x3:OA) (n3 y3:Nat) (iv:Value) (k:Nat) (hk:k+1<=6) (ih:zpf c (.agg #[.string s,.slice x1 c.uses y1,qi c.data,.slice x2 c.parts.length y2,.slice x3 n3 y3,iv,qi c.locals]) k):zpf c (.agg #[.string s,.slice x1 c.uses y1,qi c.data,.slice x2 c.parts.length y2,.slice x3 n3 y3,iv,qi c.locals]) (k+1):=by
 intro l A a cap Ad w hd hD hC;have BH:=hD.bound
 by_cases DW:10<l.length
 . have:zeo c (k+1) l=false:=by rw [zrc,decide_eq_false (by omega)];rfl
   rw [this];exact zlg c s x1 y1 x2 y2 x3 n3 y3 iv a l.length cap Ad w (by omega) DW BH
 have MH:l.length<=10:=by omega
 have HR:Hid (zeo c (k+1) l=l.all (zxb c k)):=by show _=_;rw [zrc,decide_eq_true MH];rfl
 have C6:1<=Ad:=by omega
 have Jl:Ad<=6:=by omega
 have HI:=hid (fun x A aa cp ab cb ao co w=>zmi c s x1 y1 x2 y2 x3 n3 y3 iv k (by omega) ih x A aa cp ab cb ao co (Ad+1) w (by omega));have HD:=hid hD;have HC:=hid hC;clear hD hC hd DW ih;go_enter Tryz.func128,Tryz.ntmps128;go_wp2_with fail
 go_loopw [18] (fun i wr=>∃ j:Nat,j<=l.length/\i=qi j/\(l.take j).all (zxb c k)=true/\qb w wr/\wr.heap[w.heap.size]? = some (.cells #[.string s,.slice x1 c.uses y1,qi c.data,.slice x2 c.parts.length y2,.slice x3 n3 y3,iv,qi c.locals] 206)) (fun i _=>l.length - (intOf i).toNat)
 case atStart=>exact ⟨0,vag _,rfl,rfl,al1 _ _,heap_newP _ _⟩
 case round=>
  obtain ⟨j,hj,rfl,A8,hb,hB⟩:=hrel;obtain ⟨q0,q1,q2,q3,q4,q5,q6,qz⟩:=zao hB;have HB:=hid hb;have HX:=hid hB;have HL:=hid A8;clear A8 hB hb
  by_cases A4:j<l.length
  . obtain ⟨b,off,aa,cp,ab,cb,ao,co,rfl,hx⟩:=(HD.out.later HB.out).ac j A4
    have HF:=hid (fun (h:zxb c k l[j]=false)=>all_not l (zxb c k) j A4 h);have HT:=hid (fun (h:zxb c k l[j]=true)=>(by rw [all_snoc l _ j A4,HL.out,h];rfl:(l.take (j+1)).all (zxb c k)=true));obtain ⟨Au,x0,x1',x2',x3',x4,x5,x6,hargs,hbody,hother,_,_,hm,AH⟩:=hx;have DV:=hargs.bound;have HA:=hid hargs;have GA:=hid hbody;have N2:=hid hother;have HM:=hid hm;have G9:=hid AH;clear hargs hbody hother hm AH;generalize l[j]=x at *;go_wp2_with fail;refine (zrb c s x1 y1 x2 y2 x3 n3 y3 iv x aa cp ab cb ao co _ (HC.out.later (thenB HB.out (al1 _ _))) HM.out G9.out DV).mono ?_
    cases h1:zb7 c x with
    | false=>
      rintro e w3 ⟨rfl,A9⟩;have Ae:=hid (thenB HB.out (thenB (al1 _ _) A9));have Bc:=hid (HF.out (by unfold zxb;rw [h1];rfl));clear A9;go_wp2_with fail;go_ret;exact ⟨ret_bool (by rw [HR.out,Bc.out]),Ae.out⟩
    | true=>
      rintro e w3 ⟨rfl,A9⟩;have Ae:=hid (thenB (al1 wr _) A9);have p1:=(Ae.out.block _ (lt_of_heap HX.out)).trans HX.out;have p2:=(A9.block _ (by simp)).trans (heap_newP wr (kzA x.op x.n x.m x.at_ aa x.args.length cp ab x.body.length cb ao x.other.length co));have Cm:=hid p1;have JG:=hid p2;clear q0 q1 q2 q3 q4 q5 q6 qz x0 x1' x2' x3' x4 x5 x6 Au;obtain ⟨q0,q1,q2,q3,q4,q5,q6,qz⟩:=zao p1;obtain ⟨z0,z1,z2,z3,z4,z5,z6,zz⟩:=zao p2;clear A9 p1 p2;go_wp2_with fail;refine (zh5 c s x1 y1 x2 y2 x3 n3 y3 iv 6 (by decide) x.args A aa cp 1 _ (by decide) (HA.out.later Ae.out) (HC.out.later (thenB HB.out Ae.out))).mono ?_
      cases h2:zgf c 6 x.args with
      | false=>
        rintro e w4 ⟨rfl,Aj⟩;have Ar:=hid (thenB (thenB HB.out Ae.out) Aj);have Bc:=hid (HF.out (by unfold zxb;rw [h1,h2];rfl));clear Aj;go_wp2_with fail;go_ret;exact ⟨ret_bool (by rw [HR.out,Bc.out]),Ar.out⟩
      | true=>
        rintro e w4 ⟨rfl,Aj⟩;have Ar:=hid (thenB Ae.out Aj);have p1:=(Aj.block _ (lt_of_heap Cm.out)).trans Cm.out;have p2:=(Aj.block _ (lt_of_heap JG.out)).trans JG.out;have DZ:=hid p1;clear q0 q1 q2 q3 q4 q5 q6 qz z0 z1 z2 z3 z4 z5 z6 zz;obtain ⟨q0,q1,q2,q3,q4,q5,q6,qz⟩:=zao p1;obtain ⟨z0,z1,z2,z3,z4,z5,z6,zz⟩:=zao p2;clear Aj p1 p2;go_wp2_with fail;refine (HI.out x A aa cp ab cb ao co _ (GA.out.later Ar.out) (N2.out.later Ar.out) (HC.out.later (thenB HB.out Ar.out))).mono ?_
        cases h3:z01 c k x with
        | false=>
          rintro e w5 ⟨rfl,As⟩;have Av:=hid (thenB (thenB HB.out Ar.out) As);have Bc:=hid (HF.out (by unfold zxb;rw [h1,h2,h3];rfl));clear As;go_wp2_with fail;go_ret;exact ⟨ret_bool (by rw [HR.out,Bc.out]),Av.out⟩
        | true=>
          rintro e w5 ⟨rfl,As⟩;have Av:=hid (thenB (thenB HB.out Ar.out) As);have CG:=hid ((As.block _ (lt_of_heap DZ.out)).trans DZ.out);have B6:=hid (HT.out (by unfold zxb;rw [h1,h2,h3];rfl));clear As;go_wp2_with fail;go_roundw
          case rel=>exact ⟨j+1,by omega,by go_num,B6.out,Av.out,CG.out⟩
          case measure=>simp [intOf];omega
  . have HT:Hid (l.all (zxb c k)=true):=zda HL.out A4
    go_wp2_with fail;go_ret;exact ⟨ret_bool (by rw [HR.out,HT.out]),HB.out⟩
theorem ze1 (c:Ck) (s:ByteArray) (x1:OA) (y1:Nat) (x2:OA) (y2:Nat) (x3:OA) (n3 y3:Nat) (iv:Value):∀ (k:Nat),k<=6->zpf c (.agg #[.string s,.slice x1 c.uses y1,qi c.data,.slice x2 c.parts.length y2,.slice x3 n3 y3,iv,qi c.locals]) k
 | 0,_=>fun l A a cap Ad w hd _ _=>by
   obtain rfl:Ad=7:=by omega
   exact zlf c s x1 y1 x2 y2 x3 n3 y3 iv a l.length cap w
 | k+1,hk=>zws c s x1 y1 x2 y2 x3 n3 y3 iv k hk (ze1 c s x1 y1 x2 y2 x3 n3 y3 iv k (by omega))
structure UvAt (w:World) (u:Un) (x1:OA) (y1:Nat) (x2:OA) (y2:Nat) (x3:OA) (y3:Nat):Prop where
 wn:u.name.size<=maxLen
 uses:DAt w Tt x1 u.uses.length (zaj u.uses)
 wd:(Lit.int .i64 u.data).wf=true
 parts:DAt w Tt x2 u.parts.length (zk7 u.parts)
 main:DAt w Tt x3 u.main.length (zdm u.main)
theorem UvAt.later {w w':World} {u:Un} {x1:OA} {y1:Nat} {x2:OA} {y2:Nat} {x3:OA} {y3:Nat} (h:UvAt w u x1 y1 x2 y2 x3 y3) (hb:qb w w'):UvAt w' u x1 y1 x2 y2 x3 y3:=⟨h.wn,h.uses.later hb,h.wd,h.parts.later hb,h.main.later hb⟩
theorem UvAt.mo {w:World} {u:Un} {x1:OA} {y1:Nat} {x2:OA} {y2:Nat} {x3:OA} {y3:Nat} (h:UvAt w u x1 y1 x2 y2 x3 y3):MoAt w Tt ⟨u.name,u.uses,[],[],[]⟩ (.agg #[.string u.name,.slice x1 u.uses.length y1,qs,qs,qs]) x1 y1 none 0 none 0 none 0:=
 ⟨rfl,h.wn,h.uses,⟨vaa _,vag _,Or.inl rfl⟩,⟨vaa _,vag _,Or.inl rfl⟩,⟨vaa _,vag _,Or.inl rfl⟩⟩
theorem zpg (u:Un) (x1:OA) (y1:Nat) (x2:OA) (y2:Nat) (x3:OA) (y3:Nat) (w:World) (hU:UvAt w u x1 y1 x2 y2 x3 y3) :
 qc 127 #[.agg #[.string u.name,.slice x1 u.uses.length y1,qi u.data,.slice x2 u.parts.length y2,.slice x3 u.main.length y3]] w fun e w'=>e = .returned (.bool (zdo u))/\qb w w':=by
 have HC:=hid (z2z _ _ _ _ _ _ _ _ _ _ (w.alloc (kzC u.name x1 u.uses.length y1 u.data x2 u.parts.length y2 x3 u.main.length y3)) (hU.later (al1 _ _)).mo);have Fo:=hU.parts.bound;have HU:=hid hU;clear hU;have HQ:Hid (zdo u=(decide (chkM ⟨u.name,u.uses,[],[],[]⟩=0)&&(u.parts.all ptB&&(decide (0<=u.data/\u.data<=512)&&decide (u.parts.length<=6))))):=rfl
 go_enter Tryz.func127,Tryz.ntmps127;go_wp2_with fail;refine HC.out.mono ?_;rintro e w1 ⟨Ai,A6⟩;have A7:=hid (thenB (al1 w _) A6);have AG:=hid ((A6.block _ (by simp)).trans (heap_newP w (kzC u.name x1 u.uses.length y1 u.data x2 u.parts.length y2 x3 u.main.length y3)));have An:=lt_of_heap AG.out;unfold zs9 at Ai;clear A6 HC
 rcases Ai with ⟨hc,rfl⟩ | ⟨hc,af,cf,rfl,_⟩
 . have HF:Hid (zdo u=false):=by show _=_;rw [HQ.out,decide_eq_false hc];rfl
   generalize chkM ⟨u.name,u.uses,[],[],[]⟩=z at *;go_wp2_with fail;go_ret;exact ⟨ret_bool (by first | exact HF.out.symm | (rw [HF.out];first | (simp;omega) | (simp [*];done))),thenB A7.out (al1 _ _)⟩
 . have JR : Hid (zdo u=(u.parts.all ptB&&(decide (0<=u.data/\u.data<=512)&&decide (u.parts.length<=6)))):=by show _=_;rw [HQ.out,decide_eq_true hc];rfl
   generalize shownIts ⟨u.name,u.uses,[],[],[]⟩=sh at *;obtain ⟨q0,q1,q2,q3,q4,_⟩:=zaa AG.out;clear hc HQ;go_wp2_with fail
   go_loopw [21] (fun i wr=>∃ j:Nat,j<=u.parts.length/\i=qi j/\(u.parts.take j).all ptB=true/\qb w wr/\wr.heap[w.heap.size]? = some (kzC u.name x1 u.uses.length y1 u.data x2 u.parts.length y2 x3 u.main.length y3)) (fun i _=>u.parts.length - (intOf i).toNat)
   case atStart=>exact ⟨0,vag _,rfl,rfl,thenB A7.out (al1 _ _),zab AG.out⟩
   case round=>
    clear q0 q1 q2 q3 q4;obtain ⟨j,hj,rfl,A8,hb,hB⟩:=hrel;obtain ⟨q0,q1,q2,q3,q4,_⟩:=zaa hB;have qz:=lt_of_heap hB;have HB:=hid hb;have HX:=hid hB;have HL:=hid A8;clear A8 hB hb
    by_cases A4:j<u.parts.length
    . obtain ⟨b,off,ab,cb,rfl,hx⟩:=((HU.out.later HB.out).parts).pt j A4
      have HF:=hid (fun (h:ptB u.parts[j]=false)=>(by rw [JR.out,all_not u.parts ptB j A4 h];rfl:zdo u=false));have HT:=hid (fun (h:ptB u.parts[j]=true)=>(by rw [all_snoc u.parts _ j A4,HL.out,h];rfl:(u.parts.take (j+1)).all ptB=true));obtain ⟨Au,p0,p1,p2,_,_,_⟩:=hx;generalize u.parts[j]=p at *
      by_cases t1:p.params<0
      . have Bc:=hid (HF.out (by unfold ptB;rw [decide_eq_false (by omega)];rfl))
        go_wp2_with fail;go_ret;exact ⟨ret_bool (by first | exact Bc.out.symm | (rw [Bc.out];first | (simp;omega) | (simp [*];done))),thenB HB.out (al1 _ _)⟩
      have DJ:0<=p.params:=by omega
      by_cases t2:3<p.params
      . have Bc:=hid (HF.out (by unfold ptB;rw [decide_eq_false (by omega)];rfl))
        clear t1;go_wp2_with fail;go_ret;exact ⟨ret_bool (by first | exact Bc.out.symm | (rw [Bc.out];first | (simp;omega) | (simp [*];done))),thenB HB.out (al1 _ _)⟩
      have Em:p.params<=3:=by omega
      by_cases t3:p.locals<0
      . have Bc:=hid (HF.out (by unfold ptB;rw [decide_eq_true ⟨DJ,Em⟩,decide_eq_false (by omega)];rfl))
        clear t1 t2;go_wp2_with fail;go_ret;exact ⟨ret_bool (by first | exact Bc.out.symm | (rw [Bc.out];first | (simp;omega) | (simp [*];done))),thenB HB.out (al1 _ _)⟩
      have Ks:0<=p.locals:=by omega
      by_cases t4:4<p.locals
      . have Bc:=hid (HF.out (by unfold ptB;rw [decide_eq_true ⟨DJ,Em⟩,decide_eq_false (by omega)];rfl))
        clear t1 t2 t3;go_wp2_with fail;go_ret;exact ⟨ret_bool (by first | exact Bc.out.symm | (rw [Bc.out];first | (simp;omega) | (simp [*];done))),thenB HB.out (al1 _ _)⟩
      have PH:p.locals<=4:=by omega
      have B6:=hid (HT.out (by unfold ptB;rw [decide_eq_true ⟨DJ,Em⟩,decide_eq_true ⟨Ks,PH⟩];rfl));clear t1 t2 t3 t4;go_wp2_with fail;go_roundw
      case rel=>exact ⟨j+1,by omega,by go_num,B6.out,thenB HB.out (al1 _ _),zab HX.out⟩
      case measure=>simp [intOf];omega
    . have HP:Hid (zdo u=(decide (0<=u.data/\u.data<=512)&&decide (u.parts.length<=6))):=by show _=_;rw [JR.out,zda HL.out A4];rfl
      by_cases t1:0<=u.data
      . by_cases t2:u.data<=512
        . by_cases t3:u.parts.length<=6
          . have HR:Hid (zdo u=true):=by show _=_;rw [HP.out,decide_eq_true ⟨t1,t2⟩,decide_eq_true t3];rfl
            go_wp2_with fail;go_ret;exact ⟨ret_bool (by first | exact HR.out.symm | (rw [HR.out];first | (simp;omega) | (simp [*];done))),HB.out⟩
          . have HR:Hid (zdo u=false):=by show _=_;rw [HP.out,decide_eq_true ⟨t1,t2⟩,decide_eq_false t3];rfl
            have Ks:6<u.parts.length:=by omega
            clear t3;go_wp2_with fail;go_ret;exact ⟨ret_bool (by first | exact HR.out.symm | (rw [HR.out];first | (simp;omega) | (simp [*];done))),HB.out⟩
        . have HR:Hid (zdo u=false):=by show _=_;rw [HP.out,decide_eq_false (by omega)];rfl
          have Em:512<u.data:=by omega
          clear t2;go_wp2_with fail;go_ret;exact ⟨ret_bool HR.out.symm,HB.out⟩
      . have HR:Hid (zdo u=false):=by show _=_;rw [HP.out,decide_eq_false (by omega)];rfl
        have DJ:u.data<0:=by omega
        clear t1;go_wp2_with fail;go_ret;exact ⟨ret_bool HR.out.symm,HB.out⟩
theorem ziv {u:Un} (h:zdo u=true):0<=u.data/\u.data<=512:=by
 unfold zdo at h;simp only [vac,decide_eq_true_eq] at h;exact h.2.2.1
theorem zta {u:Un} (h:zdo u=true) (j:Nat) (hj:j<u.parts.length):(0<=u.parts[j].params/\u.parts[j].params<=3)/\0<=u.parts[j].locals/\u.parts[j].locals<=4:=by
 unfold zdo at h;simp only [vac,decide_eq_true_eq,vas] at h;have:=h.2.1 u.parts[j] (vaj hj);unfold ptB at this;simpa only [vac,decide_eq_true_eq] using this
theorem z24 (u:Un) (num prt:Int->Int->Int->Bool) (x1:OA) (y1:Nat) (x2:OA) (y2:Nat) (x3:OA) (y3:Nat) (tI:TypeId) (vI:Value) (w:World) (hU:UvAt w u x1 y1 x2 y2 x3 y3)
 (hC:zdo u=true->∀ (lc:Int) (W:World),qb w W->CkAt W (zif u num prt lc) (.agg #[.string u.name,.slice x1 u.uses.length y1,qi u.data,.slice x2 u.parts.length y2,.slice x3 u.main.length y3,.iface tI vI,qi lc])) :
 qc 77 #[.agg #[.string u.name,.slice x1 u.uses.length y1,qi u.data,.slice x2 u.parts.length y2,.slice x3 u.main.length y3],.iface tI vI] w fun e w'=>e = .returned (.bool (ze0 u num prt))/\qb w w':=by
 have HH:=hid (zpg u x1 y1 x2 y2 x3 y3 (w.alloc (kzC u.name x1 u.uses.length y1 u.data x2 u.parts.length y2 x3 u.main.length y3)) (hU.later (al1 _ _)));have Fo:=hU.parts.bound;have HU:=hid hU;have HC:=hid hC;have HQ:Hid (ze0 u num prt=(zdo u&&(u.parts.all (fun p=>zeo (zif u num prt (p.params+p.locals)) 6 p.body)&&zeo (zif u num prt 0) 6 u.main))):=rfl;clear hU hC;go_enter Tryz.func77,Tryz.ntmps77;go_wp2_with fail;refine HH.out.mono ?_
 cases hh:zdo u with
 | false=>
   rintro e w1 ⟨rfl,A6⟩;have A7:=hid (thenB (al1 w _) A6)
   have HR:Hid (ze0 u num prt=false):=by show _=_;rw [HQ.out,hh];rfl
   clear A6;go_wp2_with fail;go_ret;exact ⟨ret_bool HR.out.symm,A7.out⟩
 | true =>
   rintro e w1 ⟨rfl,A6⟩;have A7:=hid (thenB (al1 w _) A6);have AG:=hid ((A6.block _ (by simp)).trans (heap_newP w (kzC u.name x1 u.uses.length y1 u.data x2 u.parts.length y2 x3 u.main.length y3)));have I7:=hid (HC.out hh);have RQ:=hid hh
   have JR:Hid (ze0 u num prt=(u.parts.all (fun p=>zeo (zif u num prt (p.params+p.locals)) 6 p.body)&&zeo (zif u num prt 0) 6 u.main)):=by show _=_;rw [HQ.out,hh];rfl
   obtain ⟨q0,q1,q2,q3,q4,_⟩:=zaa AG.out;have qz:=lt_of_heap AG.out;clear A6 HC HQ HH hh;go_wp2_with fail
   go_loopw [14] (fun i wr=>∃ j:Nat,j<=u.parts.length/\i=qi j/\(u.parts.take j).all (fun p=>zeo (zif u num prt (p.params+p.locals)) 6 p.body)=true/\qb w wr/\wr.heap[w.heap.size]? = some (kzC u.name x1 u.uses.length y1 u.data x2 u.parts.length y2 x3 u.main.length y3)) (fun i _=>u.parts.length - (intOf i).toNat)
   case atStart=>exact ⟨0,vag _,rfl,rfl,A7.out,AG.out⟩
   case round=>
    clear q0 q1 q2 q3 q4 qz;obtain ⟨j,hj,rfl,A8,hb,hB⟩:=hrel;obtain ⟨q0,q1,q2,q3,q4,_⟩:=zaa hB;have qz:=lt_of_heap hB;have HB:=hid hb;have HX:=hid hB;have HL:=hid A8;clear A8 hB hb
    by_cases A4:j<u.parts.length
    . obtain ⟨b,off,ab,cb,rfl,hx⟩:=((HU.out.later HB.out).parts).pt j A4
      have HF:=hid (fun (h:zeo (zif u num prt (u.parts[j].params+u.parts[j].locals)) 6 u.parts[j].body=false)=>(by rw [JR.out,all_not u.parts (fun p=>zeo (zif u num prt (p.params+p.locals)) 6 p.body) j A4 h];rfl:ze0 u num prt=false));have HT:=hid (fun (h:zeo (zif u num prt (u.parts[j].params+u.parts[j].locals)) 6 u.parts[j].body=true)=>(by rw [all_snoc u.parts _ j A4,HL.out,h];rfl:(u.parts.take (j+1)).all (fun p=>zeo (zif u num prt (p.params+p.locals)) 6 p.body)=true));obtain ⟨⟨g1,g2⟩,g3,g4⟩:=zta RQ.out j A4;obtain ⟨Au,p0,p1,p2,Df,_,_⟩:=hx;have GA:=hid Df;clear Df;generalize u.parts[j]=p at *;go_wp2_with fail;refine (ze1 (zif u num prt (p.params+p.locals)) u.name x1 y1 _ y2 x3 u.main.length y3 (.iface tI vI) 6 (by decide) p.body Tt ab cb 1 _ (by decide) (GA.out.later (al2 _ _ _)) (I7.out (p.params+p.locals) _ (thenB HB.out (al2 _ _ _)))).mono ?_
      cases h1:zeo (zif u num prt (p.params+p.locals)) 6 p.body with
      | false=>
        rintro e w3 ⟨rfl,A9⟩;have Ae:=hid (thenB HB.out (thenB (al2 _ _ _) A9));have Bc:=hid (HF.out h1);clear A9;go_wp2_with fail;go_ret;exact ⟨ret_bool (by first | exact Bc.out.symm | (rw [Bc.out];first | (simp;omega) | (simp [*];done))),Ae.out⟩
      | true=>
        rintro e w3 ⟨rfl,A9⟩;have Ae:=hid (thenB (al2 wr _ _) A9);have Cm:=hid ((Ae.out.block _ (lt_of_heap HX.out)).trans HX.out);have B6:=hid (HT.out h1);clear A9;go_wp2_with fail;go_roundw
        case rel=>exact ⟨j+1,by omega,by go_num,B6.out,thenB HB.out Ae.out,Cm.out⟩
        case measure=>simp [intOf];omega
    . have HR:Hid (ze0 u num prt=zeo (zif u num prt 0) 6 u.main):=by show _=_;rw [JR.out,zda HL.out A4];rfl
      go_wp2_with fail;refine (ze1 (zif u num prt 0) u.name x1 y1 x2 y2 x3 u.main.length y3 (.iface tI vI) 6 (by decide) u.main Tt x3 y3 1 _ (by decide) (HU.out.later HB.out).main (I7.out 0 _ HB.out)).mono ?_;rintro e w3 ⟨rfl,A9⟩;have Ae:=hid (thenB HB.out A9);clear A9;go_wp2_with fail;go_ret;exact ⟨ret_bool HR.out.symm,Ae.out⟩
set_option maxHeartbeats 1600000
theorem z25:laidOutB Tryz.prog=true:=by kernel_rfl
theorem z26:Tryz.prog.keyType 244=true:=by kernel_rfl
theorem zph:Keyed Tryz.prog 244:=Keyed.of_law (deep_law_laid z25 (m:=3) (by decide) (of_decide_eq_true (by kernel_rfl)) (by kernel_rfl) (by kernel_rfl))
def zja (mod name:ByteArray):Lit:=.string (keyBytes [.string mod.data.toList,.string name.data.toList])
theorem zh6 (mod name:ByteArray) (h1:mod.size<=maxLen) (h2:name.size<=maxLen):keyOf Tryz.prog 244 (.agg #[.string mod,.string name])=some (zja mod name):=by
 have hf:(Value.agg #[.string mod,.string name]).formed Tryz.prog 244=true:=by kernel_rfl
 have hl:Tryz.prog.keyLits (Tryz.prog.types.size+1) 244 (Value.agg #[.string mod,.string name]).cells.toList=some [.string mod.data.toList,.string name.data.toList]:=by
  have h0:0<Tryz.prog.types.size:=of_decide_eq_true (by kernel_rfl)
  obtain ⟨k,hk⟩:∃ k,Tryz.prog.types.size=k+1:=⟨Tryz.prog.types.size - 1,by omega⟩
  rw [hk]
  have hs:∀ s:ByteArray,s.size<=maxLen->Tryz.prog.keyLits (k+1) 9 [.string s]=some [.string s.data.toList]:=fun s h=>by
   unfold Program.keyLits;rw [Tryz.underlying9];exact if_pos h
  have e:(Value.agg #[.string mod,.string name]).cells.toList=[.string mod,.string name]:=rfl
  have c2:Tryz.prog.cellsOf 244=2:=by kernel_rfl
  have c9:Tryz.prog.cellsOf 9=1:=by kernel_rfl
  rw [e];unfold Program.keyLits;rw [Tryz.underlying244];simp [c2,c9,hs mod h1,hs name h2]
 unfold keyOf;rw [Tryz.underlying244];simp only [z26,hf,hl]
 rfl
theorem zz5 {a b c d:ByteArray} (h1:a.size<=maxLen) (h2:b.size<=maxLen) (h3:c.size<=maxLen) (h4:d.size<=maxLen) (h:¬ (a=c/\b=d)):zja a b≠zja c d:=fun e=>by
 have k1:=zh6 a b h1 h2;have k2:=zh6 c d h3 h4;rw [← e] at k2;have:=zph.inj k1 k2
 injection this with this
 have:=congrArg Array.toList this;simp at this;exact h this
def z5w (K:Kn) (mod name:ByteArray) (x:Mg):Kn:=fun a b=>if a=mod/\b=name then some x else K a b
def z8j (D:DataW Value) (K:Kn):Prop:=∀ a b:ByteArray,a.size<=maxLen->b.size<=maxLen->has D (zja a b)=(K a b).isSome/\D.atKey (zja a b) (.held mg0.val) = .held ((K a b).getD mg0).val
theorem z8j.put {D:DataW Value} {K:Kn} (h:z8j D K) (hD:IsMap D) (mod name:ByteArray) (h1:mod.size<=maxLen) (h2:name.size<=maxLen) (x:Mg):z8j (D.put (zja mod name) (.held x.val)) (z5w K mod name x):=by
 intro a b ha hb
 by_cases e:a=mod/\b=name
 . obtain ⟨rfl,rfl⟩:=e
   simp only [z5w,and_self,if_true];exact ⟨has_put_same (k:=zja a b) hD trivial _,atKey_put_same (k:=zja a b) hD trivial _ _⟩
 . have Ak:=zz5 ha hb h1 h2 e
   simp only [z5w,if_neg e];rw [has_put_other Ak,atKey_put_other Ak];exact h a b ha hb
def zl2 (w:World) (b n:Nat) (K:Kn):Prop:=∃ D,w.ownsMap Tryz.prog 244 zq1 b n D/\z8j D K
theorem zl2.lt {w:World} {b n:Nat} {K:Kn} (h:zl2 w b n K):b<w.heap.size:=by obtain ⟨D,h1,_⟩:=h;exact h1.lt
theorem zl2.block {w w':World} {b n:Nat} {K:Kn} (h:zl2 w b n K) (hb:w'.heap[b]? = w.heap[b]?):zl2 w' b n K:=by
 obtain ⟨D,h1,h2⟩:=h;obtain ⟨es,clock,AY,r⟩:=h1;exact ⟨D,⟨es,clock,hb.trans AY,r⟩,h2⟩
theorem zl2.later {w w':World} {b n:Nat} {K:Kn} (h:zl2 w b n K) (hb:qb w w'):zl2 w' b n K:=h.block (hb.block b h.lt)
theorem zl2.made (w:World):zl2 (w.alloc (.map #[] 0)) w.heap.size 0 (fun _ _=>none):=⟨.map [],vel w _ _ _,fun _ _ _ _=>⟨rfl,rfl⟩⟩
theorem z72 (w:World):(zeroValue 242).run Tryz.prog w = .ok mg0.val w:=by kernel_rfl
theorem zl2.known {w:World} {b n:Nat} {K:Kn} (h:zl2 w b n K):zmg w (.map (some b)) K:=by
 intro w' hb mod name h1 h2;obtain ⟨D,k1,k2⟩:=h.later hb;obtain ⟨v,ps,hrun,hv⟩:=k1.look_ok zph Tryz.underlying187 (z72 w') (zd:=.held mg0.val) (zp:=[]) rfl (zh6 mod name h1 h2);rw [(k2 mod name h1 h2).2] at hv;simp only [zq1,vbe,vcz,vcy] at hv;rw [hrun,hv.1,(k2 mod name h1 h2).1]
theorem zl2.put {w:World} {b n:Nat} {K:Kn} (h:zl2 w b n K) (hn:n<maxLen) (mod name:ByteArray) (h1:mod.size<=maxLen) (h2:name.size<=maxLen) (x:Mg) :
 ∃ w',(Instr.mapUpdate 187 (.map (some b)) (.agg #[.string mod,.string name]) x.val).run Tryz.prog w = .ok () w'/\zl2 w' b (n+1) (z5w K mod name x)/\w.grownBy w' (some b):=by
 obtain ⟨D,k1,k2⟩:=h;obtain ⟨w',r1,r2,r3⟩:=k1.update zph Tryz.underlying187 hn (zh6 mod name h1 h2) (val:=x.val) (d:=.held x.val) (ps:=[]) rfl;exact ⟨w',r1,⟨_,r2,k2.put k1.isMap mod name h1 h2 x⟩,r3⟩
theorem Keeps.grown {R:Nat} {w w1 w2:World} (h:Keeps R w w1) (hg:w1.grownBy w2 (some R)):Keeps R w w2:=
 h.trans ⟨hg.os,hg.tape,hg.output,hg.size,fun k h1 h2=>hg.block k h1 (fun e=>h2 (vab e))⟩
def z73 (m:Int) (i:It):Mg:=⟨i.kind,i.n,m,i.at_⟩
def ziw (K:Kn) (mod:ByteArray) (m:Int) (l:List It):Kn:=l.foldl (fun K i=>z5w K mod i.name (z73 m i)) K
theorem zwt (K:Kn) (mod:ByteArray) (m:Int) (l:List It) (i:It):ziw K mod m (l++[i])=z5w (ziw K mod m l) mod i.name (z73 m i):=by
 unfold ziw;rw [vbk];rfl
theorem zlh (K:Kn) (b n:Nat) (mod:ByteArray) (mm:Int) (l:List It) (a:OA) (cap:Nat) (w:World) (hK:zl2 w b n K) (hm:mod.size<=maxLen) (hI:Fx.zcr w a l) (hF:Fx.AllFit l) (hl:l.length<=1000) (hn:n<=1000) (Eb:∀ b' off,l≠[]->a=some (qa b' off)->b'≠b) :
 qc 119 #[.agg #[.map (some b)],.string mod,qi mm,.slice a l.length cap] w fun e w'=>e = .returned (.tuple #[])/\zl2 w' b (n+l.length) (ziw K mod mm l)/\Keeps b w w':=by
 have HI:=hid hI;have HF:=hid hF;have HK:=hid hK;have S8:=hid Eb;have E9:=hK.lt;clear hI hF hK Eb;go_enter Tryz.func119,Tryz.ntmps119;go_wp2_with fail
 go_loopw [9,12] (fun _ i wr=>∃ j:Nat,j<=l.length/\i=qi j/\zl2 wr b (n+j) (ziw K mod mm (l.take j))/\wr.heap[w.heap.size]? = some (.cells #[.map (some b)] 189)/\Keeps b w wr) (fun _ i _=>l.length - (intOf i).toNat)
 case atStart=>exact ⟨0,vag _,rfl,HK.out.later (al1 _ _),heap_newP _ _,(Keeps.refl _ _).alloc _⟩
 case round=>
  obtain ⟨j,hj,rfl,hk,hbx,Bf⟩:=hrel;have Ph:=hid hk;have HX:=hid hbx;have HE:=hid Bf;have C9:=Bf.size;have Cd:=lt_of_heap hbx;clear hk Bf
  by_cases A4:j<l.length
  . obtain ⟨b2,off,rfl,Au,c0,c1,c2,c3⟩:=HI.out.place A4
    have Ak:=S8.out b2 off (fun h=>by rw [h] at A4;simp at A4) rfl;have d0:=(HE.out.cell (off:=off+j*4) Au Ak).trans c0;have d1:=(HE.out.cell (off:=off+j*4+1) Au Ak).trans c1;have d2:=(HE.out.cell (off:=off+j*4+2) Au Ak).trans c2;have d3:=(HE.out.cell (off:=off+j*4+3) Au Ak).trans c3;have Ds:b2<wr.heap.size:=vah Au C9;have B5:=HF.out l[j] (vaj _)
    have BP:Hid (z5w (ziw K mod mm (l.take j)) mod l[j].name (z73 mm l[j])=ziw K mod mm (l.take (j+1))):=by
     show _=ziw K mod mm (l.take (j+1));rw [vaf A4,zwt]
    generalize l[j]=x at *;obtain ⟨w2,hrun,Jv,DR⟩:=(Ph.out.later (al1 _ (kzI x.kind x.n x.at_ x.name))).put (by unfold maxLen;omega) mod x.name hm B5 (z73 mm x);simp only [Mg.val,z73] at hrun;rw [BP.out] at Jv;have AL:=hid Jv;have FA:=hid ((HE.out.alloc _).grown DR);have D0:Hid (w2.heap[w.heap.size]? = some (.cells #[.map (some b)] 189)):=(DR.block _ (by simp;omega) (fun e=>by have:=vab e;omega)).trans (zab HX.out)
    have k0:wr.cell? (qa w.heap.size 0)=some (.map (some b)):=by rw [vef HX.out];rfl
    clear c0 c1 c2 c3 Jv DR hbx B5;go_wp2_with fail;go_roundw
    case rel=>exact ⟨j+1,by omega,by go_num,by rw [← vbj];exact AL.out,D0.out,FA.out⟩
    case measure=>simp [intOf];omega
  . obtain rfl:j=l.length:=by omega
    have RL:Hid (zl2 wr b (n+l.length) (ziw K mod mm l)):=by have:=Ph.out;rw [vau] at this;exact this
    clear hbx;go_wp2_with fail;go_end0;exact ⟨rfl,RL.out,HE.out⟩
end Go.Proofs.YtndkhgakfodldaaGreatDoor
