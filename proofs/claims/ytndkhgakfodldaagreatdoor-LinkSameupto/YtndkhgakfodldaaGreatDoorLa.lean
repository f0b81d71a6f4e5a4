import Derived.Test.YtndkhgakfodldaaGreatDoorGc
import Derived.Sort.KeysCollected
set_option maxRecDepth 100000
set_option maxHeartbeats 6400000
set_option linter.unusedSimpArgs false
set_option linter.unusedVariables false
open Go.Proofs.Tryz
namespace Go.Proofs.YtndkhgakfodldaaGreatDoor
open Go.RowKit Go.Maps Go.Sort Go.WideMaps
variable {H α:Type} {P:Program} {Y:Exit->Act->World->Prop} {S:World->Prop} {a:OA} {b d j:Nat} {y:Nat->Value} {l:List dP} {g:Array Bool} {m:Int} {k:Region.Mode} {o:dP} {e:Oper} {ops:Array Oper} {s:ByteArray} {t:TypeId} {w:World} {af a4 am:Value}
structure kY (w:World) (a:OA) (l:List dP) (ev:Nat->Value):Prop where
 bound:l.length<=17592186044416
 get:∀ i (h:i<l.length),∃ b off x1 y1 x3 y3 x4 y4 x5 y5,a=some (dj b off)/\b<w.heap.size/\w.cell? ⟨b,off+i*7,none⟩=some (.string l[i].name)/\w.cell? ⟨b,off+i*7+1,none⟩=some (.slice x1 l[i].uses.length y1)/\w.cell? ⟨b,off+i*7+2,none⟩=some (di l[i].data)/\w.cell? ⟨b,off+i*7+3,none⟩=some (.slice x3 l[i].code.length y3)/\w.cell? ⟨b,off+i*7+4,none⟩=some (.slice x4 l[i].fixes.length y4)/\w.cell? ⟨b,off+i*7+5,none⟩=some (.slice x5 l[i].entries.length y5)/\w.cell? ⟨b,off+i*7+6,none⟩=some (di l[i].main)/\
  i1 w l[i] x1 x3 x4 x5/\l[i].uses.length<=y1/\ev i = .slice x5 l[i].entries.length y5
theorem kY.later {G:World} (h:kY w a l y) (I:dm w G):kY G a l y:=⟨h.bound,fun i V=>by
 obtain ⟨b,C,a4,ad,a5,bi,ax,b4,aG,bx,a7,X,bt,ah,ae,c3,K,av,aW,ap,W,ar⟩:=h.get i V;have b2:=I.size
 exact ⟨b,C,a4,ad,a5,bi,ax,b4,aG,bx,a7,N7,(I.cell (p:=(dj b _)) X).trans bt,(I.cell (p:=(dj b _)) X).trans ah,(I.cell (p:=(dj b _)) X).trans ae,(I.cell (p:=(dj b _)) X).trans c3,(I.cell (p:=(dj b _)) X).trans K,(I.cell (p:=(dj b _)) X).trans av,(I.cell (p:=(dj b _)) X).trans aW,ap.later I,W,ar⟩⟩
def hx (l:List dP):Int:=(l.map (fun o=>(o.code.length:Int))).sum
def g9 (l:List dP):Int:=(l.map dP.data).sum
theorem ww (h:j<l.length):hx (l.take (j+1))=hx (l.take j)+l[j].code.length:=by
 unfold hx;rw [gn h,j2,xt];simp
theorem wx (h:j<l.length):g9 (l.take (j+1))=g9 (l.take j)+l[j].data:=by
 unfold g9;rw [gn h,j2,xt];simp
def od (l:List dP):Prop:=l.length<=4/\∀ o ∈ l,1<=o.code.length/\o.code.length<=2048/\0<=o.data/\o.data<=512
theorem ni (h:od l):∀ j,j<=l.length->0<=hx (l.take j)/\hx (l.take j)<=2048*j/\0<=g9 (l.take j)/\g9 (l.take j)<=512*j
 | 0,_=>by simp [hx,g9]
 | j+1,a2=>by
   have ay:=ni h j N7;have:=h.2 l[j] (eb N7);rw [ww N7,wx N7];omega
def hY (l:List dP):List (L8):=l.map (fun o=>o.name.data.toList)
theorem tY (l:List dP):(hY l).length=l.length:=by simp [hY]
theorem FO (h:j<l.length):hY (l.take (j+1))=hY (l.take j)++[l[j].name.data.toList]:=by
 unfold hY;rw [gn h,j2]
 rfl
def io (l:List dP) (y:Nat->Value) (i:Nat):Value:=.agg #[di i,di ((l.length:Int)+1+hx (l.take i)),di (g9 (l.take i)),y i]
def pd:Value:=.agg #[di 0,di 0,di 0,dt]
def hA (l:List dP) (a:L8):Nat->Option Nat
 | 0=>none
 | j+1=>match l[j]? with
   | some o=>if o.name.data.toList=a then some j else hA l a j
   | none=>hA l a j
theorem wy (h:j<l.length) (a:L8):hA l a (j+1)=if l[j].name.data.toList=a then some j else hA l a j:=by
 rw [hA,ew h]
theorem wz (a:L8):∀ j,j<=l.length->(hA l a j).isSome=(hY (l.take j)).contains a
 | 0,_=>by simp [hA,hY]
 | j + 1,a2=>by
   rw [wy N7,FO N7]
   by_cases e:l[j].name.data.toList=a
   . rw [if_pos e];simp [e]
   . rw [if_neg e,wz a j N7]
     have a0:¬ a=l[j].name.data.toList:=fun h=>e h.symm
     simp [a0]
theorem tZ (a:L8):∀ j i,j<=l.length->hA l a j=some i->i<j/\∃ h:i<l.length,l[i].name.data.toList=a
 | 0,i,_,h=>by simp [hA] at h
 | j + 1,i,a2,h=>by
   rw [wy N7] at h
   by_cases e:l[j].name.data.toList=a
   . rw [if_pos e] at h
     obtain rfl:j=i:=eX h;exact ⟨N7,N7,e⟩
   . rw [if_neg e] at h
     obtain ⟨F,J⟩:=tZ a j i N7 h;exact ⟨N7,J⟩
theorem t1:Keyed prog 9:=string_keyed Tryz.underlying9
theorem Ab (w:World):(zeroValue 227).run prog w = .ok pd w:=by kernel_rfl
def hZ (w:World) (b:Nat) (l:List dP) (y:Nat->Value) (j:Nat):Prop:=∃ (n:Nat) (D:DataW Value),n<=j/\w.ownsMap prog 9 pG b n D/\∀ a,has D (.string a)=(hA l a j).isSome/\D.atKey (.string a) (.held pd) = .held ((hA l a j).elim pd (io l y))
section
variable {w G:World} {b:Nat} {l:List dP} {y:Nat->Value} {j:Nat}
theorem hZ.lt (h:hZ w b l y j):b<w.heap.size:=by obtain ⟨n,D,_,F,_⟩:=h;exact F.lt
theorem hZ.later (h:hZ w b l y j) (I:dm w G):hZ G b l y j:=by
 obtain ⟨n,D,ab,F,J⟩:=h;have ac:=F.lt;obtain ⟨p,clock,aB,r⟩:=F;exact ⟨n,D,ab,⟨p,clock,(I.block b ac).trans aB,r⟩,J⟩
theorem hZ.made (w:World) (l:List dP) (y:Nat->Value):hZ (w.alloc (.map #[] 0)) w.heap.size l y 0:=⟨0,.map [],dA _,rt w _ _ _,fun _=>⟨rfl,rfl⟩⟩
theorem hZ.put (h:hZ w b l y j) (a2:j<l.length) (aa:l.length<=4) (a8:l[j].name.size<=maxLen) :
 ∃ G,(Instr.mapUpdate 157 (.map (some b)) (.string l[j].name) (io l y j)).run prog w = .ok () G/\hZ G b l y (j+1)/\w.grownBy G (some b):=by
 obtain ⟨n,D,ab,F,J⟩:=h;obtain ⟨G,bp,bx,bQ⟩:=F.update t1 Tryz.underlying157 Oh (keyOf_string_mk Tryz.underlying9 a8) (val:=io l y j) (d:=.held (io l y j)) (ps:=[]) rfl;refine ⟨G,bp,⟨n+1,_,N7,bx,fun a=>?_⟩,bQ⟩;rw [wy a2]
 by_cases e:l[j].name.data.toList=a
 . subst e
   rw [if_pos rfl];exact ⟨has_put_same (k:=.string l[j].name.data.toList) F.isMap trivial _,atKey_put_same (k:=.string l[j].name.data.toList) F.isMap trivial _ _⟩
 . have aX:Lit.string a≠.string l[j].name.data.toList:=fun h=>e (by injection h with h;exact h.symm)
   rw [if_neg e,has_put_other aX,atKey_put_other aX];exact J a
theorem hZ.look (h:hZ w b l y j) (a8:s.size<=maxLen) :
 (Instr.lookup 157 (.map (some b)) (.string s) false).run prog w = .ok ((hA l s.data.toList j).elim pd (io l y)) w:=by
 obtain ⟨n,D,ab,F,J⟩:=h;obtain ⟨v,a,E,af⟩:=F.lookup t1 Tryz.underlying157 (Ab w) (zd:=.held pd) (zp:=[]) rfl (keyOf_string_mk Tryz.underlying9 a8);rw [(J _).2] at af;simp only [pG,kJ,rQ,s2] at af;rw [E,af.1]
theorem hZ.look_ok (h:hZ w b l y j) (a8:s.size<=maxLen) :
 (Instr.lookup 157 (.map (some b)) (.string s) true).run prog w = .ok (.tuple #[(hA l s.data.toList j).elim pd (io l y),.bool (hA l s.data.toList j).isSome]) w:=by
 obtain ⟨n,D,ab,F,J⟩:=h;obtain ⟨v,a,E,af⟩:=F.look_ok t1 Tryz.underlying157 (Ab w) (zd:=.held pd) (zp:=[]) rfl (keyOf_string_mk Tryz.underlying9 a8);rw [(J _).2] at af;simp only [pG,kJ,rQ,s2] at af;rw [E,af.1,(J _).1]
end
theorem Ac:∀ (f l:List (L8)),f.Nodup->(∀ a ∈ f,a ∈ l)->f.length<=l.length
 | [],_,_,_=>dY _
 | x :: f,l,m,h=>by
   obtain ⟨F,J⟩:=xu.1 m;have S:=h x Ob;have:=Ac f (l.erase x) J (fun a a7=>(List.mem_erase_of_ne (fun e:a=x=>F (by rw [← e];exact a7))).2 (h a Qe));rw [List.length_erase_of_mem S] at this;have aA:0<l.length:=List.length_pos_of_mem S
   simp;omega
theorem Ad:∀ (l:List (L8)),∃ f:List (L8),f.Nodup/\(∀ a,a ∈ f↔a ∈ l)/\(¬ l.Nodup->f.length<l.length)
 | []=>⟨[],Ob,Ob,Ob⟩
 | x :: l=>by
   obtain ⟨f,F,J,U⟩:=Ad l;have K:=Ac f l F (fun a a7=>(J a).1 a7)
   by_cases S:x ∈ l
   . refine ⟨f,F,fun a=>?_,fun _=>Of⟩
     rw [J,kk];exact ⟨Or.inr,fun h=>h.elim (fun e=>e ▸ S) id⟩
   . refine ⟨x :: f,xu.2 ⟨fun h=>S ((J x).1 h),F⟩,fun a=>by simp [J],fun Z=>?_⟩
     have:=U (fun h=>Z (xu.2 ⟨S,h⟩))
     simp;omega
theorem Ae {R:Value->Option (DataW H × List MemPlace)} {n:Nat} {D:DataW H} (h:w.ownsMap prog 9 R b n D) {l:List (L8)} (X:l.Nodup) (a1:∀ a,has D (.string a)=l.contains a):l.Perm (strKeys D):=
 Collected.perm (left:=fun _=>false) ⟨X,fun x=>by rw [a1 x];simp⟩ h t1 Tryz.underlying9 (fun _=>rfl)
theorem Af (D:DataW H) (h:IsMap D):Maps.size D=(strKeys D).length:=by obtain ⟨p,rfl⟩:=h;simp [Maps.size,strKeys]
theorem hZ.len (h:hZ w b l y l.length) :
 ∃ m:Nat,(∀ d,(Builtin.len_ #[157] d #[.map (some b)]).run prog w = .ok (di m) w)/\((hY l).Nodup->m=l.length)/\(¬ (hY l).Nodup->m<l.length):=by
 obtain ⟨n,D,ab,F,J⟩:=h
 have a1:∀ a,has D (.string a)=(hY l).contains a:=fun a=>by rw [(J a).1,wz a _ (dA _),gu]
 refine ⟨Maps.size D,fun d=>F.len Tryz.underlying157 d,fun Z=>?_,fun Z=>?_⟩
 . rw [Af D F.isMap,← (Ae F Z a1).length_eq,tY]
 . obtain ⟨f,a9,au,bn⟩:=Ad (hY l)
   have aA:=Ae F a9 (fun a=>by rw [a1,qC];simp [au]);rw [Af D F.isMap,← aA.length_eq,← tY l];exact bn Z
theorem rk {x:Int} (F : -1000000000<=x) (J:x<=1000000000):IntKind.i64.wrap x=x:=Oj
abbrev mE (x:dP) (a4:OA) (ad:Nat) (a5:OA) (y3:Nat) (ax:OA) (y4:Nat) (aG:OA) (y5:Nat):Obj:=iP x.name a4 x.uses.length ad x.data a5 x.code.length y3 ax x.fixes.length y4 aG x.entries.length y5 x.main
theorem Ag (l:List dP) (y:Nat->Value) (a:OA) (q:Nat) (w:World) (b6:kY w a l y) (aw:od l) :
 dw 102 #[.slice a l.length q] w fun e G=>∃ b,e = .returned (.map (some b))/\hZ G b l y l.length/\dm w G:=by
 have bK:=b6.bound;have aa:=aw.1;have P:=hid b6;have aV:=hid aw;have aD:=hid (ni aw);have c8:=@run_makeMap prog;have L:=hid (hZ.made w l y);have s:IntKind.i64.wrap ((l.length:Int)+1)=l.length+1:=rk N7 N7;clear b6 aw;go_enter func102,ntmps102;go_wp2_with fail;clear s
 go_loopw [4,5,6,7,14] (fun an d _ _ i wr=>∃ (j:Nat) (o c:Int),j<=l.length/\i=di j/\an=di o/\d=di c/\o=(l.length:Int)+1+hx (l.take j)/\c=g9 (l.take j)/\hZ wr w.heap.size l y j/\dm w wr) (fun _ _ _ _ i _=>l.length - (intOf i).toNat)
 case atStart=>exact ⟨0,_,_,dY _,rfl,rfl,rfl,by simp [hx],by simp [g9],L,dn _ _⟩
 case round=>
  clear L;obtain ⟨j,o,c,a2,rfl,rfl,rfl,W,hd,bC,I⟩:=hrel;have ao:=hid W;have b0:=hid hd;have n:=aD j a2;rw [← hd] at n
  have p:0<=o/\o<=10000:=N7
  have r:0<=c/\c<=10000:=N7
  clear W hd n
  by_cases ac:j<l.length
  . obtain ⟨b,C,a4,ad,a5,bi,ax,b4,aG,bx,rfl,b8,bt,ah,ae,c3,K,av,aW,ap,_,ar⟩:=(P.later I).get j ac
    obtain ⟨bg,a9,aJ,V⟩:=aV.2 l[j] (eb ac);obtain ⟨w2,E,bQ,f⟩:=(bC.later (dn wr (mE l[j] a4 ad a5 bi ax b4 aG bx))).put ac aa ap.wn;have bz:=hid (ww ac);have co:=hid (wx ac);unfold io at E;rw [ar,← ao.out,← b0.out] at E;have aN:dm w w2:=(dp I (dn _ _)).grown f (by have:=I.size;simp;omega) (fun k N=>by cases N;exact dA _);have g:=hid bQ;have m:w2.heap[wr.heap.size]? = some (mE l[j] a4 ad a5 bi ax b4 aG bx):=(f.block wr.heap.size Ob (by simp;have:=bC.lt;omega)).trans (dX wr _);clear bC bQ f ar ap;generalize l[j]=x at *;obtain ⟨bf,be,b9,bm,bk,bO,bZ,_⟩:=fi m;have h:=lt_of_heap m;have aE:IntKind.i64.wrap (o+x.code.length)=o+x.code.length:=rk N7 N7;have a6:IntKind.i64.wrap (c+x.data)=c+x.data:=rk N7 N7
    clear m;go_wp2_with fail;go_roundw
    case rel=>exact ⟨j+1,_,_,N7,Ou,rfl,rfl,by rw [ao.out,bz.out];omega,by rw [b0.out,co.out],g,aN⟩
    case measure=>simp [intOf];omega
  . obtain rfl:j=l.length:=by omega
    have A:=hid bC;clear bC;go_wp2_with fail;go_ret;exact ⟨_,rfl,A,I⟩
def oe (l:List dP) (i:Nat) (u:ByteArray):Bool:=match hA l u.data.toList l.length with | some k=>decide (k<i) | none=>false
def pe (l:List dP) (i:Nat):Bool:=match l[i]? with | some o=>o.uses.all (oe l i) | none=>true
def pg (l:List dP):Bool:=jQ l.length (pe l)
theorem FP (q:α->Bool) {l:List α} (h:j<l.length):(l.take (j+1)).all q=((l.take j).all q&&q l[j]):=by
 rw [gn h,k8];simp
theorem FQ (q:α->Bool) {l:List α} (h:j<l.length) (b3:q l[j]=false):l.all q=false:=by
 rw [sY];exact ⟨l[j],eb h,by simp [b3]⟩
theorem FR (l:List dP) (y:Nat->Value) (a:OA) (q an:Nat) (w:World) (b6:kY w a l y) (aa:l.length<=4) (bC:hZ w an l y l.length) :
 dw 106 #[.map (some an),.slice a l.length q] w fun e G=>e = .returned (.bool (pg l))/\dm w G:=by
 have bK:=b6.bound;have P:=hid b6;have A:=hid bC;clear b6 bC
 obtain ⟨r,Q⟩:∃ r,r=pg l:=⟨_,rfl⟩
 rw [← Q];have z:=hid Q;clear Q;go_enter func106,ntmps106;go_wp2_with fail
 go_loopw [5,6,8,9,10,13] (fun _ _ _ _ _ i wr=>∃ j:Nat,j<=l.length/\i=di j/\(∀ k,k<j->pe l k=true)/\dm w wr) (fun _ _ _ _ _ i _=>l.length - (intOf i).toNat)
 case atStart=>exact ⟨0,dY _,rfl,fun k h=>absurd h (pz _),Below.refl _ _⟩
 case round=>
  obtain ⟨j,a2,rfl,aS,I⟩:=hrel;have aR:=hid aS;have ag:=hid I;clear aS
  by_cases ac:j<l.length
  . obtain ⟨b,C,a4,ad,a5,bi,ax,b4,aG,bx,rfl,b8,bt,ah,ae,c3,K,av,aW,ap,_,_⟩:=(P.later I).get j ac
    have a1:Hid (pe l j=l[j].uses.all (oe l j)):=by show pe l j=_;unfold pe;rw [ew ac]
    have bA:=hid ap.uses;have c6:=ap.uses.bound;clear I ap;generalize l[j]=x at *;go_wp2_with fail;clear bt ah ae c3 K av aW b8
    go_loopw [8,9,10,21] (fun _ _ _ i c=>∃ R:Nat,R<=x.uses.length/\i=di R/\(x.uses.take R).all (oe l j)=true/\dm wr c) (fun _ _ _ i _=>x.uses.length - (intOf i).toNat)
    case atStart=>exact ⟨0,dY _,rfl,rfl,dn _ _⟩
    case round=>
     obtain ⟨R,b3,rfl,hallu,aN⟩:=hrel;have br:=hid hallu;have O:=hid aN;have bJ:=hid (dp ag aN);clear hallu
     by_cases V:R<x.uses.length
     . obtain ⟨f,uo,rfl,aX,huc,aF⟩:=(bA.later aN).str R V
       have aY:=((A.later bJ)).look_ok aF;have ak:=hid (FP (oe l j) V);have s:=hid (fun h=>FQ (oe l j) V h);clear aN
       have D:∀ k,hA l x.uses[R].data.toList l.length=some k->k<l.length:=fun k h=>(tZ _ _ _ (dA _) h).1
       have d:Hid (oe l j x.uses[R]=match hA l x.uses[R].data.toList l.length with | some k=>decide (k<j) | none=>false):=rfl;generalize x.uses[R]=u at *;generalize hA l u.data.toList l.length=o at *
       cases o with
       | none=>
         have aD:Hid (r=false):=z.trans (p7 (i:=j) N7 (a1.trans (s d)));simp only [Option.elim,Option.isSome,pd] at aY;clear D;exact Su
       | some k=>
         have N:=D k rfl;obtain ⟨_,_,_,_,_,_,_,_,a6,a9,_,_,_,_,_,_,_,_,_,_,_,hek⟩:=P.get k N;simp only [Option.elim,Option.isSome,io] at aY;rw [hek] at aY;clear D hek
         by_cases c8:k<j
         . have aM:Hid ((x.uses.take (R+1)).all (oe l j)=true):=ak.trans (by rw [br.out,d.out];simp [c8])
           have g:¬ (j:Int)<=k:=N7
           go_wp2_with fail;go_roundw
           case rel=>exact ⟨R+1,N7,Ou,aM,O.alloc (by have:=O.size;omega) _⟩
           case measure=>simp [intOf];omega
         . have aD:Hid (r=false):=z.trans (p7 (i:=j) N7 (a1.trans (s (d.trans (decide_eq_false c8)))))
           have g:(j:Int)<=k:=N7
           exact Su
     . obtain rfl:R=x.uses.length:=by omega
       have aM:Hid (pe l j=true):=a1.trans (by have:=br.out;rw [gu] at this;exact this);clear aN;exact RW
  . exact RR
theorem ft (i:Nat) (v:Value) {a:Act} (V:ops[i]? = some e)
 (W:(Region.noSelect ops&&(Region.free k ops g i&&((Region.ready k ops g).contains i&&Region.wanted e (yielded ops a.tmps))))=true)
 (b:∀ an a w,Y (.panic an) (a.put e.dst v) w->Y (.panic an) a w) (a4:∀ w,S w->(execOp a.eval e).run P w = .ok (.value v) w) (aE:S w)
 (h:wpAnyH P k ops Y S d (g.setIfInBounds i true) (a.put e.dst v) w):wpAnyH P k ops Y S (d+1) g a w:=by
 exact Sn
abbrev wA:Obj:=.cells #[di 0,di 0,di 0,dt] 227
abbrev wB (l:List dP) (k:Nat) (a6:OA) (B a9:Nat):Value:=.agg #[di k,di ((l.length:Int)+1+hx (l.take k)),di (g9 (l.take k)),.slice a6 B a9]
abbrev Ah (o:dP) (a4:OA) (ad:Nat) (a5:OA) (y3:Nat) (ax:OA) (y4:Nat) (aG:OA) (y5:Nat):Value:=.agg #[.string o.name,.slice a4 o.uses.length ad,di o.data,.slice a5 o.code.length y3,.slice ax o.fixes.length y4,.slice aG o.entries.length y5,di o.main]
theorem jj (w:World):dm w w.drew:=(Below.refl _ _).drew
theorem Ai {a5:Value} (h:w.heap[b]? = some (.cells #[af,a4,am,a5] t (0,0))) :
 w.cell? (dj b 0)=some af/\w.cell? (dj b 1)=some a4/\w.cell? (dj b 2)=some am/\w.cell? (dj b 3)=some a5/\∀ i,w.frozen? (dj b i)=false:=by
 refine ⟨?_,?_,?_,?_,fun i=>hD h i⟩<;>(rw [eZ h];rfl)
def Aj (o:dP) (m:Int) (s:ByteArray):Prop:=(m=0/\s=o.name)\/∃ i:Nat,m=(i:Int)+1/\∃ h:i<o.uses.length,o.uses[i]=s
theorem Ak (l:List dP) (y:Nat->Value) (an:Nat) (w:World) (bC:hZ w an l y l.length) (o:dP) (a4:OA) (ad:Nat) (a5:OA) (y3:Nat) (ax:OA) (y4:Nat) (aG:OA) (y5:Nat) (ap:i1 w o a4 a5 ax aG) (m:Int) (s:ByteArray) (a8:Aj o m s) (k:Nat) (N:hA l s.data.toList l.length=some k) (a6:OA) (B a9:Nat) (d:y k = .slice a6 B a9) :
 dw 146 #[.map (some an),Ah o a4 ad a5 y3 ax y4 aG y5,di m] w fun e G=>e = .returned (wB l k a6 B a9)/\dm w G:=by
 obtain ⟨M,ai⟩:∃ M,M=(w.alloc (mE o a4 ad a5 y3 ax y4 aG y5)).alloc wA:=⟨_,rfl⟩
 have I:dm w M:=by rw [ai];exact e6 _ _ _
 have O:M.heap[w.heap.size]? = some (mE o a4 ad a5 y3 ax y4 aG y5):=by rw [ai];exact eR (dX w _)
 have aO:M.heap[w.heap.size+1]? = some wA:=by rw [ai];simpa using dX (w.alloc (mE o a4 ad a5 y3 ax y4 aG y5)) wA
 have A:=hid (bC.later I);have bA:=hid (ap.uses.later I);have c6:=ap.uses.bound;have b:=ap.wn;obtain ⟨bf,be,b9,bm,bk,bO,bZ,_⟩:=fi O;obtain ⟨bG,bp,bx,bQ,rf⟩:=Ai aO;have bK:=lt_of_heap O;have bg:=lt_of_heap aO;clear bC ap I O aO;subst ai
 rcases a8 with ⟨rfl,rfl⟩ | ⟨i,rfl,V,rfl⟩
 . have aY:=A.look b
   rw [N] at aY;simp only [Option.elim,io] at aY;rw [d] at aY;clear N d;exact RC
 . obtain ⟨f,uo,rfl,aX,huc,aF⟩:=bA.str i V
   have aY:=A.look aF;rw [N] at aY;simp only [Option.elim,io] at aY;rw [d] at aY
   have aE:IntKind.i64.wrap ((i:Int)+1 - 1)=i:=Oj
   have a:¬ ((i:Int)+1=0):=N7
   clear N d;generalize o.uses[i]=u at *;exact RC
def jk (p a c d:Int) (b:List Int):Int:=if p=2 then c+b.getD a.toNat 0 else if p=3 then d+a else c+a
theorem dx.entI {A:Nat->Prop} {l:List Int} (h:dx w A a l.length (fs l)) (i:Nat) (V:i<l.length):∃ b C,a=some (dj b C)/\b<w.heap.size/\w.cell? ⟨b,C+i,none⟩=some (di l[i]):=by
 obtain ⟨b,C,a7,I,W⟩:=h.cell N7;obtain ⟨v,af,hd⟩:=W i (.int l[i]) (by simp [fs,V]);obtain ⟨rfl,_⟩:=gR hd;exact ⟨b,C,a7,I,af⟩
theorem FS (n c d p a:Int) (b:List Int) (a6:OA) (a9:Nat) (w:World) (aG:dx w dQ a6 b.length (fs b)) (W:0<=c/\c<=10000) (hd:0<=d/\d<=10000) (a7:0<=a/\a<=2048) (J:p=2->a<b.length) (f:∀ x ∈ b,0<=x/\x<=2048) :
 dw 147 #[.agg #[di n,di c,di d,.slice a6 b.length a9],di p,di a] w fun e G=>e = .returned (di (jk p a c d b))/\dm w G:=by
 have g:=aG.bound;obtain ⟨ah,ae⟩:=W;obtain ⟨aT,aU⟩:=hd;obtain ⟨E,a0⟩:=a7
 by_cases au:p=2
 . subst au
   have X:=J rfl
   obtain ⟨i,rfl⟩:∃ i:Nat,a=i:=⟨a.toNat,N7⟩
   have V:i<b.length:=N7
   have bh:Hid (jk 2 i c d b=c+b[i]):=by show jk 2 i c d b=_;unfold jk;rw [if_pos rfl,ir,fV,ew V];rfl
   have S:=f b[i] (eb V);obtain ⟨h,eo,rfl,aY,u⟩:=(aG.later (dn w (.cells #[di n,di c,di d,.slice a6 b.length a9] 227))).entI i V;have aE:IntKind.i64.wrap (c+b[i])=c+b[i]:=rk N7 N7;clear aG f J;generalize b[i]=x at *;go_enter func147,ntmps147;go_wp2_with fail
   (try go_quiet ((fail)))
   go_wp2_with fail;go_ret;exact ⟨ret_int bh.symm,(by first | exact dn _ _ | exact (dn _ _).drew | exact below_drewN (dn _ _) _)⟩
 . have bv:(p == 2)=false:=by simp [au]
   by_cases bn:p=3
   . subst bn
     have bh:Hid (jk 3 a c d b=d+a):=rfl;have aE:IntKind.i64.wrap (d+a)=d+a:=rk N7 N7;exact Sf
   . have aR:(p == 3)=false:=by simp [bn]
     have bh:Hid (jk p a c d b=c+a):=by show jk p a c d b=_;unfold jk;rw [if_neg au,if_neg bn]
     have aE:IntKind.i64.wrap (c+a)=c+a:=rk N7 N7;exact Sf
theorem kx (i:Nat) {a:Act} (V:ops[i]? = some e)
 (W:(Region.noSelect ops&&(Region.free k ops g i&&((Region.ready k ops g).contains i && !(Region.wanted e (yielded ops a.tmps)))))=true)
 (b:∀ an a w,Y (.panic an) (a.put e.dst undef) w->Y (.panic an) a w) (aE:S w)
 (h:wpAnyH P k ops Y S d (g.setIfInBounds i true) (a.put e.dst undef) w):wpAnyH P k ops Y S (d+1) g a w:=by
 simp only [dO,xm] at W;exact wpAnyH_take V W.1 W.2.1 W.2.2.1 b (Or.inr ⟨W.2.2.2,rfl⟩) aE h
def mF (o:dP) (m:Int):ByteArray:=if m=0 then o.name else o.uses.getD (m - 1).toNat ⟨#[]⟩
def fH (l:List dP) (o:dP) (m:Int):Nat:=(hA l (mF o m).data.toList l.length).getD 0
def kA (l:List dP) (k:Nat):List Int:=match l[k]? with | some o=>o.entries | none=>[]
def mG (l:List dP) (o:dP) (f:gd):Bool:=!(decide (f.kind=2)&&decide (((kA l (fH l o f.m)).length:Int)<=jy o f.at_))
def lX (l:List dP) (o:dP) (j:Nat):Bool:=match o.fixes[j]? with | some f=>mG l o f | none=>true
def ph (l:List dP) (i:Nat):Bool:=match l[i]? with | some o=>jQ o.fixes.length (lX l o) | none=>true
def pi (l:List dP):Bool:=jQ l.length (ph l)
structure FT (o:dP) (f:gd):Prop where
 at0:0<=f.at_
 at1:f.at_<o.code.length
 kind:1<=f.kind/\f.kind<=3
 a0:0<=jy o f.at_
 a1:jy o f.at_<=2048
 m0:0<=f.m
 m1:f.m<=o.uses.length
theorem rl (h:fD o=0):kv o=false/\lW o=true/\jh o=true/\na o=true:=by
 unfold fD at h
 split at h
 . cases h
 . rename_i F
   split at h
   . rename_i J
     simp only [dO] at J;exact ⟨P9,J.1,J.2.1,J.2.2⟩
   . cases h
theorem t2 (h:fD o=0) (a2:j<o.fixes.length):FT o o.fixes[j]:=by
 obtain ⟨a1,_,_,Y⟩:=rl h;unfold kv at a1;simp only [hG] at a1;have W:=of_decide_eq_false a1.2.2.2;have:=iN.1 Y j a2;unfold n0 at this;rw [ew a2] at this;simp only [dO] at this;obtain ⟨_,aA,I⟩:=this;have aA:=of_decide_eq_true aA;unfold p6 at I
 by_cases a9:o.fixes[j].kind=1
 . rw [if_pos a9] at I
   exact Si
 . rw [if_neg a9] at I
   by_cases au:o.fixes[j].kind=2\/o.fixes[j].kind=3
   . rw [if_pos au] at I
     exact Si
   . rw [if_neg au] at I;cases I
theorem Am (ab:0<=m) (F:m<=o.uses.length):Aj o m (mF o m):=by
 unfold mF
 by_cases a1:m=0
 . rw [if_pos a1];exact Or.inl ⟨a1,rfl⟩
 . rw [if_neg a1]
   refine Or.inr ⟨(m - 1).toNat,N7,N7,?_⟩;rw [fV,ew N7]
   rfl
def qh (l:List dP):Prop:=∀ i (h:i<l.length) (m:Int),0<=m->m<=l[i].uses.length->(hA l (mF l[i] m).data.toList l.length).isSome=true
theorem wC (h:qh l) {i:Nat} (V:i<l.length) (ab:0<=m) (F:m<=l[i].uses.length):hA l (mF l[i] m).data.toList l.length=some (fH l l[i] m)/\fH l l[i] m<l.length:=by
 have:=h i V m ab F;unfold fH
 cases e:hA l (mF l[i] m).data.toList l.length with
 | none=>rw [e] at this;cases this
 | some k=>exact ⟨rfl,(tZ _ _ _ (dA _) e).1⟩
theorem qi {k:Nat} (h:k<l.length):kA l k=l[k].entries:=by unfold kA;rw [ew h]
theorem t6 {p:Nat} (h:p<o.code.length):jy o p=o.code[p].a:=by unfold jy;rw [ir,ew h]
theorem An (h:w.heap[b]? = some (.cells #[af,a4,am] t (0,0))):w.cell? (dj b 0)=some af/\w.cell? (dj b 1)=some a4/\w.cell? (dj b 2)=some am:=by
 refine ⟨?_,?_,?_⟩<;>(rw [eZ h];rfl)
theorem FU (l:List dP) (y:Nat->Value) (a:OA) (q an:Nat) (w:World) (b6:kY w a l y) (aa:l.length<=4) (bC:hZ w an l y l.length) (H:∀ o ∈ l,fD o=0) (b7:qh l) :
 dw 107 #[.map (some an),.slice a l.length q] w fun e G=>e = .returned (.bool (pi l))/\dm w G:=by
 have bK:=b6.bound;have P:=hid b6;have A:=hid bC;have bF:=hid H;have aF:=hid b7;clear b6 bC H b7
 obtain ⟨r,Q⟩:∃ r,r=pi l:=⟨_,rfl⟩
 rw [← Q];have z:=hid Q;clear Q;go_enter func107,ntmps107;go_wp2_with fail
 go_loopw [6,8,11] (fun _ _ i wr=>∃ j:Nat,j<=l.length/\i=di j/\(∀ k,k<j->ph l k=true)/\dm w wr) (fun _ _ i _=>l.length - (intOf i).toNat)
 case atStart=>exact ⟨0,dY _,rfl,fun k h=>absurd h (pz _),Below.refl _ _⟩
 case round=>
  obtain ⟨j,a2,rfl,aS,I⟩:=hrel;have aR:=hid aS;have ag:=hid I;clear aS
  by_cases ac:j<l.length
  . obtain ⟨b,C,a4,ad,a5,bi,ax,b4,aG,bx,rfl,b8,bt,ah,ae,c3,K,av,aW,ap, -, -⟩:=(P.later I).get j ac
    have a1:Hid (ph l j=jQ l[j].fixes.length (lX l l[j])):=by show ph l j=_;unfold ph;rw [ew ac]
    have s:=hid ap;have bQ:=ap.fixes.bound;have bD:=hid (fun (R:Nat) (b3:R<l[j].fixes.length)=>t2 (bF l[j] (eb ac)) b3);have be:=hid (fun (m:Int) (ab:0<=m) (F:m<=l[j].uses.length)=>wC aF ac ab F);clear I ap;generalize l[j]=x at *;go_wp2_with fail;clear bt ah ae c3 K av aW b8
    go_loopw [8,18] (fun _ i c=>∃ R:Nat,R<=x.fixes.length/\i=di R/\(∀ k,k<R->lX l x k=true)/\Below (wr.alloc (mE x a4 ad a5 bi ax b4 aG bx)).heap.size (wr.alloc (mE x a4 ad a5 bi ax b4 aG bx)) c) (fun _ i _=>x.fixes.length - (intOf i).toNat)
    case atStart=>exact ⟨0,dY _,rfl,fun k h=>absurd h (pz _),Below.refl _ _⟩
    case round=>
     obtain ⟨c,rfl⟩:∃ x,x=wr:=⟨_,rfl⟩
     obtain ⟨R,b3,rfl,hallq,aN⟩:=hrel;have br:=hid hallq;have O:=hid aN;have T:=dp (dn wr _) aN;have bJ:=hid (dp ag T);have a8:=(aN.block wr.heap.size Ob).trans (dX wr (mE x a4 ad a5 bi ax b4 aG bx));clear hallq
     by_cases V:R<x.fixes.length
     . obtain ⟨a7,fo,rfl,bu⟩:=((s.later T).fixes).gf R V
       obtain ⟨bA,fr2,fr3,fr4,fr5,fr6,fr7⟩:=bD R V;obtain ⟨c2,hmlt⟩:=be x.fixes[R].m fr6 fr7
       have N:Hid (lX l x R=mG l x x.fixes[R]):=by show lX l x R=_;unfold lX;rw [ew V]
       obtain ⟨c4,bU,bd,bs, -, -, -⟩:=bu;have bl:=hid (Am (o:=x) fr6 fr7);have aX:=s.uses.bound;have bP:=s.code.bound;generalize x.fixes[R]=f at *
       obtain ⟨D,aA⟩:∃ D:Nat,f.at_=D:=⟨f.at_.toNat,N7⟩
       have a0:D<x.code.length:=N7
       obtain ⟨aj,W,rfl,bY⟩:=((s.later T).code).gi D a0;obtain ⟨al, -,aE, -, -, -, -⟩:=bY
       have b0:Hid (jy x f.at_=x.code[D].a):=by show jy x f.at_=_;rw [aA];exact t6 a0
       have bV:(D:Int)<x.code.length:=N7
       rw [b0.out] at fr4 fr5;rw [aA] at bU;generalize x.code[D].a=ao at *
       obtain ⟨g,E⟩:∃ g,g=c.alloc (.cells #[di D,di f.kind,di f.m] 67):=⟨_,rfl⟩
       have Y:dm c g:=Qg
       have aZ:=hid E
       have bc:g.heap[c.heap.size]? = some (.cells #[di D,di f.kind,di f.m] 67):=Qh
       have aL:=(Y.block _ (lt_of_heap a8)).trans a8;have bn:=lt_of_heap aL;have bB:=lt_of_heap bc
       have aQ:=hid (fun M (ai:dm g M)=>(by
        obtain ⟨bN,aJ,aI,bq,bo,t,am,_⟩:=fi ((ai.block _ bn).trans aL);obtain ⟨aH,az,aK⟩:=An ((ai.block _ bB).trans bc)
        exact ⟨bN,aJ,aI,bq,bo,t,am,aH,az,aK,(ai.cell (p:=⟨aj,W+D*3+1,none⟩) (by have:=Y.size;show aj<_;omega)).trans ((Y.cell (p:=⟨aj,W+D*3+1,none⟩) al).trans aE)⟩:M.cell? (dj wr.heap.size 0)=some (.string x.name)/\M.cell? (dj wr.heap.size 1)=some (.slice a4 x.uses.length ad)/\M.cell? (dj wr.heap.size 2)=some (di x.data)/\M.cell? (dj wr.heap.size 3)=some (.slice (some (dj aj W)) x.code.length bi)/\M.cell? (dj wr.heap.size 4)=some (.slice (some (dj a7 fo)) x.fixes.length b4)/\M.cell? (dj wr.heap.size 5)=some (.slice aG x.entries.length bx)/\M.cell? (dj wr.heap.size 6)=some (di x.main)/\M.cell? (dj c.heap.size 0)=some (di D)/\M.cell? (dj c.heap.size 1)=some (di f.kind)/\M.cell? (dj c.heap.size 2)=some (di f.m)/\M.cell? ⟨aj,W+D*3+1,none⟩=some (di ao)))
       have bv:=hid (dp bJ Y);obtain ⟨_,_,_,_,_,_,_,_,a6,a9, -, -, -, -, -, -, -, -, -,aP, -,hek⟩:=P.get (fH l x f.m) hmlt;have L:=hid (fun M (ai:dm g M)=>Ak l y an M (A.later (dp bv ai)) x a4 ad (some (dj aj W)) bi (some (dj a7 fo)) b4 aG bx ((s.later (dp (dp (dn wr _) O) Y)).later ai) f.m _ bl _ c2 a6 _ a9 hek);have u:=aP.entries.bound;clear aP hek;clear Y E aL a8 bc aN T aE;go_upto_region 7 with fail;rw [← aZ.out]
       go_cut [41] from 20 to 41 (fun v wc=>v = .bool (!(lX l x R))/\Hid (dm g wc))
       case first=>
        by_cases au:f.kind=2
        . generalize a3:l[fH l x f.m].entries.length=B at *
          have n:(kA l (fH l x f.m)).length=B:=by rw [qi hmlt];exact a3
          have bG:Hid (mG l x f = !decide ((B:Int)<=ao)):=by show mG l x f=_;unfold mG;rw [b0.out,n];simp [au]
          have ak:(f.kind == 2)=true:=by simp [au]
          clear a3 n c2 au aA bA fr2 fr3 fr6 fr7;have bh:Hid (lX l x R = !decide ((B:Int)<=ao)):=N.trans bG
          obtain ⟨Z,hV2⟩:∃ Z,decide ((B:Int)<=ao)=Z:=⟨_,rfl⟩
          have J:=hid hV2;clear hV2;refine wp_region_held_drew (S:=(fun M=>M.cell? (dj wr.heap.size 0)=some (.string x.name)/\M.cell? (dj wr.heap.size 1)=some (.slice a4 x.uses.length ad)/\M.cell? (dj wr.heap.size 2)=some (di x.data)/\M.cell? (dj wr.heap.size 3)=some (.slice (some (dj aj W)) x.code.length bi)/\M.cell? (dj wr.heap.size 4)=some (.slice (some (dj a7 fo)) x.fixes.length b4)/\M.cell? (dj wr.heap.size 5)=some (.slice aG x.entries.length bx)/\M.cell? (dj wr.heap.size 6)=some (di x.main)/\M.cell? (dj c.heap.size 0)=some (di D)/\M.cell? (dj c.heap.size 1)=some (di f.kind)/\M.cell? (dj c.heap.size 2)=some (di f.m)/\M.cell? ⟨aj,W+D*3+1,none⟩=some (di ao))) (by kernel_rfl) (aQ _ (jj g)) (fun d=>?_);refine ft 0 (dF c.heap.size 1) rfl (by kernel_rfl) (fun _ _ _ h=>h) (fun M ai=>by kernel_rfl) d ?_;refine ft 1 (di f.kind) rfl (by kernel_rfl) (fun _ _ _ h=>h) (fun M ai=>by obtain ⟨U,ay,b1,eU,bH,s5,s6,bk,bz,bO,aE⟩:=ai;go_simp) d ?_
          refine ft 2 (.bool true) rfl (by kernel_rfl) (fun _ _ _ h=>h) (fun M ai=>by go_simp) d ?_;refine ft 3 (.bool true) rfl (by kernel_rfl) (fun _ _ _ h=>h) (fun M ai=>by kernel_rfl) d ?_;refine ft 4 (dF wr.heap.size 3) rfl (by kernel_rfl) (fun _ _ _ h=>h) (fun M ai=>by kernel_rfl) d ?_;refine ft 5 (.slice (some (dj aj W)) x.code.length bi) rfl (by kernel_rfl) (fun _ _ _ h=>h) (fun M ai=>by obtain ⟨U,ay,b1,eU,bH,s5,s6,bk,bz,bO,aE⟩:=ai;go_simp) d ?_;refine ft 6 (dF c.heap.size 0) rfl (by kernel_rfl) (fun _ _ _ h=>h) (fun M ai=>by kernel_rfl) d ?_;refine ft 7 (di D) rfl (by kernel_rfl) (fun _ _ _ h=>h) (fun M ai=>by obtain ⟨U,ay,b1,eU,bH,s5,s6,bk,bz,bO,aE⟩:=ai;go_simp) d ?_;refine ft 8 (.pointer (some ⟨aj,W+D*3,none⟩)) rfl (by kernel_rfl) (fun _ _ _ h=>h) (fun M ai=>by go_simp) d ?_;refine ft 9 (.pointer (some ⟨aj,W+D*3+1,none⟩)) rfl (by kernel_rfl) (fun _ _ _ h=>h) (fun M ai=>by kernel_rfl) d ?_
          refine ft 10 (di ao) rfl (by kernel_rfl) (fun _ _ _ h=>h) (fun M ai=>by obtain ⟨U,ay,b1,eU,bH,s5,s6,bk,bz,bO,aE⟩:=ai;go_simp) d ?_;refine ft 11 (.map (some an)) rfl (by kernel_rfl) (fun _ _ _ h=>h) (fun M ai=>by kernel_rfl) d ?_;refine ft 12 (.agg #[.string x.name,.slice a4 x.uses.length ad,di x.data,.slice (some (dj aj W)) x.code.length bi,.slice (some (dj a7 fo)) x.fixes.length b4,.slice aG x.entries.length bx,di x.main]) rfl (by kernel_rfl) (fun _ _ _ h=>h) (fun M ai=>by obtain ⟨U,ay,b1,eU,bH,s5,s6,bk,bz,bO,aE⟩:=ai;go_simp) d ?_;refine ft 13 (dF c.heap.size 2) rfl (by kernel_rfl) (fun _ _ _ h=>h) (fun M ai=>by kernel_rfl) d ?_;refine ft 14 (di f.m) rfl (by kernel_rfl) (fun _ _ _ h=>h) (fun M ai=>by obtain ⟨U,ay,b1,eU,bH,s5,s6,bk,bz,bO,aE⟩:=ai;go_simp) d ?_;refine wpAnyH_ready (rs:=[15]) (by kernel_rfl) Ob ?_
          refine AllReadyH.cons rfl (fun S aO=>?_) AllReadyH.nil;go_simp
          go_wp2_with (go_at_call 146;refine (L _ (jj g)).mono ?_;rintro e ar ⟨rfl,X⟩)
          have p:=hid (dp (jj g) X);refine aO.out _ _ (aQ _ p) (fun d=>?_);clear aO S X
          (try simp only [Act.put,j1,k7,lH])
          refine ft 16 (.slice a6 B a9) rfl (by kernel_rfl) (fun _ _ _ h=>h) (fun M ai=>by kernel_rfl) d ?_;refine ft 17 (di B) rfl (by kernel_rfl) (fun _ _ _ h=>h) (fun M ai=>by go_simp) d ?_;refine ft 18 (.bool Z) rfl (by kernel_rfl) (fun _ _ _ h=>h) (fun M ai=>by rw [← J.out];kernel_rfl) d ?_;refine ft 19 (.bool Z) rfl (by kernel_rfl) (fun _ _ _ h=>h) (fun M ai=>by kernel_rfl) d ?_;refine wpAnyH_done (by kernel_rfl) ?_ _;clear d;go_simp;go_wp2_with fail;go_meet;exact ⟨by rw [bh.out,J.out,Bool.not_not],p⟩
        . have bh:Hid (lX l x R=true):=N.trans (by unfold mG;simp [au])
          have ak:(f.kind == 2)=false:=by simp [au]
          clear au aA bA fr2 fr3 fr6 fr7 c2;refine wp_region_held_drew (S:=(fun M=>M.cell? (dj wr.heap.size 0)=some (.string x.name)/\M.cell? (dj wr.heap.size 1)=some (.slice a4 x.uses.length ad)/\M.cell? (dj wr.heap.size 2)=some (di x.data)/\M.cell? (dj wr.heap.size 3)=some (.slice (some (dj aj W)) x.code.length bi)/\M.cell? (dj wr.heap.size 4)=some (.slice (some (dj a7 fo)) x.fixes.length b4)/\M.cell? (dj wr.heap.size 5)=some (.slice aG x.entries.length bx)/\M.cell? (dj wr.heap.size 6)=some (di x.main)/\M.cell? (dj c.heap.size 0)=some (di D)/\M.cell? (dj c.heap.size 1)=some (di f.kind)/\M.cell? (dj c.heap.size 2)=some (di f.m)/\M.cell? ⟨aj,W+D*3+1,none⟩=some (di ao))) (by kernel_rfl) (aQ _ (jj g)) (fun d=>?_);refine ft 0 (dF c.heap.size 1) rfl (by kernel_rfl) (fun _ _ _ h=>h) (fun M ai=>by kernel_rfl) d ?_;refine ft 1 (di f.kind) rfl (by kernel_rfl) (fun _ _ _ h=>h) (fun M ai=>by obtain ⟨U,ay,b1,eU,bH,s5,s6,bk,bz,bO,aE⟩:=ai;go_simp) d ?_
          refine ft 2 (.bool false) rfl (by kernel_rfl) (fun _ _ _ h=>h) (fun M ai=>by go_simp) d ?_;refine ft 3 (.bool false) rfl (by kernel_rfl) (fun _ _ _ h=>h) (fun M ai=>by kernel_rfl) d ?_;refine kx 4 rfl (by kernel_rfl) (fun _ _ _ h=>h) d ?_;refine kx 5 rfl (by kernel_rfl) (fun _ _ _ h=>h) d ?_;refine kx 6 rfl (by kernel_rfl) (fun _ _ _ h=>h) d ?_;refine kx 7 rfl (by kernel_rfl) (fun _ _ _ h=>h) d ?_;refine kx 8 rfl (by kernel_rfl) (fun _ _ _ h=>h) d ?_;refine kx 9 rfl (by kernel_rfl) (fun _ _ _ h=>h) d ?_;refine kx 10 rfl (by kernel_rfl) (fun _ _ _ h=>h) d ?_;refine kx 11 rfl (by kernel_rfl) (fun _ _ _ h=>h) d ?_;refine kx 12 rfl (by kernel_rfl) (fun _ _ _ h=>h) d ?_;refine kx 13 rfl (by kernel_rfl) (fun _ _ _ h=>h) d ?_;refine kx 14 rfl (by kernel_rfl) (fun _ _ _ h=>h) d ?_
          refine kx 15 rfl (by kernel_rfl) (fun _ _ _ h=>h) d ?_;refine kx 16 rfl (by kernel_rfl) (fun _ _ _ h=>h) d ?_;refine kx 17 rfl (by kernel_rfl) (fun _ _ _ h=>h) d ?_;refine kx 18 rfl (by kernel_rfl) (fun _ _ _ h=>h) d ?_;refine ft 19 (.bool false) rfl (by kernel_rfl) (fun _ _ _ h=>h) (fun M ai=>by kernel_rfl) d ?_;refine wpAnyH_done (by kernel_rfl) ?_ _;clear d;go_simp;have p:=hid (jj g);go_wp2_with fail;go_meet;exact ⟨PA,p⟩
       case rest=>
        obtain ⟨rfl,hbc⟩:=hcut;have p:=hbc;have bm:=hbc.out.size;clear L aQ be bD bl b0 A hbc
        cases af:lX l x R with
        | false=>
          have bh:Hid (r=false):=z.trans (p7 (i:=j) ac (a1.trans (p7 (i:=R) V af)));clear af;go_wp2_with fail;go_ret;exact ⟨ret_bool bh.symm,dp bv p⟩
        | true=>
          have bh:=hid af;clear af;go_wp2_with fail;go_roundw
          case rel=>exact ⟨R+1,N7,Ou,q3 br bh,(dp O (dp (by rw [aZ.out];exact dn _ _) p))⟩
          case measure=>simp [intOf];omega
     . obtain rfl:R=x.fixes.length:=by omega
       have aM:Hid (ph l j=true):=a1.trans (iN.2 br);clear a8 aN T;exact RW
  . exact RR
end Go.Proofs.YtndkhgakfodldaaGreatDoor
