import Derived.Test.YtndkhgakfodldaaGreatDoorJf
import Derived.Sort.KeysCollected
set_option maxRecDepth 100000
set_option maxHeartbeats 6400000
set_option linter.unusedSimpArgs false
set_option linter.unusedVariables false
open Go.Proofs.Tryz
open List renaming length → Ln
namespace Go.Proofs.YtndkhgakfodldaaGreatDoor
open Go.RowKit Go.Maps Go.Sort Go.WideMaps
variable {H α:Type} {P:Program} {T:Exit->Act->World->Prop} {S:World->Prop} {a:OA} {b p j:Nat} {K:Nat->Value} {l:List eO} {e:Array Bool} {m:Int} {k:Region.Mode} {o:eO} {d:Oper} {ops:Array Oper} {s:ByteArray} {t:TypeId} {w:World} {af E ae:Value}
structure jM (w:World) (a:OA) (l:List eO) (ev:Nat->Value):Prop where
 bound:Ln l<=17592186044416
 get:∀ i (h:i<Ln l),∃ b off x1 y1 x3 y3 x4 y4 x5 y5,a=some (ep b off)/\b<w.heap.size/\w.cell? ⟨b,off+i*7,none⟩=some (.string l[i].name)/\w.cell? ⟨b,off+i*7+1,none⟩=some (.slice x1 (Ln l[i].uses) y1)/\w.cell? ⟨b,off+i*7+2,none⟩=some (em l[i].data)/\w.cell? ⟨b,off+i*7+3,none⟩=some (.slice x3 (Ln l[i].code) y3)/\w.cell? ⟨b,off+i*7+4,none⟩=some (.slice x4 (Ln l[i].fixes) y4)/\w.cell? ⟨b,off+i*7+5,none⟩=some (.slice x5 (Ln l[i].entries) y5)/\w.cell? ⟨b,off+i*7+6,none⟩=some (em l[i].main)/\
  jk w l[i] x1 x3 x4 x5/\Ln l[i].uses<=y1/\ev i = .slice x5 (Ln l[i].entries) y5
theorem jM.later {r:World} (h:jM w a l K) (F:et w r):jM r a l K:=⟨h.bound,fun i X=>by
 obtain ⟨b,C,E,T,H,bc,aj,b9,al,b7,ab,a2,bh,a9,a4,c3,am,aX,aR,aa,a1,ah⟩:=h.get i X;have aS:=F.size
 exact ⟨b,C,E,T,H,bc,aj,b9,al,b7,ab,by omega,(F.cell (p:=(ep b _)) a2).trans bh,(F.cell (p:=(ep b _)) a2).trans a9,(F.cell (p:=(ep b _)) a2).trans a4,(F.cell (p:=(ep b _)) a2).trans c3,(F.cell (p:=(ep b _)) a2).trans am,(F.cell (p:=(ep b _)) a2).trans aX,(F.cell (p:=(ep b _)) a2).trans aR,aa.later F,a1,ah⟩⟩
def gJ (l:List eO):Int:=(l.map (fun o=>(Ln o.code:Int))).sum
def gv (l:List eO):Int:=(l.map eO.data).sum
theorem te (h:j<Ln l):gJ (l.take (j+1))=gJ (l.take j)+Ln l[j].code:=by
 unfold gJ;rw [hI h,mq,List.sum_append];simp
theorem tg (h:j<Ln l):gv (l.take (j+1))=gv (l.take j)+l[j].data:=by
 unfold gv;rw [hI h,mq,List.sum_append];simp
def rS (l:List eO):Prop:=Ln l<=4/\∀ o ∈ l,1<=Ln o.code/\Ln o.code<=2048/\0<=o.data/\o.data<=512
theorem nw (h:rS l):∀ j,j<=Ln l->0<=gJ (l.take j)/\gJ (l.take j)<=2048*j/\0<=gv (l.take j)/\gv (l.take j)<=512*j
 | 0,_=>by simp [gJ,gv]
 | j+1,ac=>by
   have aH:=nw h j (by omega);have:=h.2 l[j] (fO (by omega));rw [te (by omega),tg (by omega)];omega
def hD (l:List eO):List (L8):=l.map (fun o=>o.name.data.toList)
theorem th (l:List eO):(hD l).length=Ln l:=by simp [hD]
theorem Da (h:j<Ln l):hD (l.take (j+1))=hD (l.take j)++[l[j].name.data.toList]:=by
 unfold hD;rw [hI h,mq]
 rfl
def iF (l:List eO) (K:Nat->Value) (i:Nat):Value:=.agg #[em i,em ((Ln l:Int)+1+gJ (l.take i)),em (gv (l.take i)),K i]
def oZ:Value:=.agg #[em 0,em 0,em 0,eu]
def ht (l:List eO) (a:L8):Nat->Option Nat
 | 0=>none
 | j+1=>match l[j]? with
   | some o=>if o.name.data.toList=a then some j else ht l a j
   | none=>ht l a j
theorem vv (h:j<Ln l) (a:L8):ht l a (j+1)=if l[j].name.data.toList=a then some j else ht l a j:=by
 rw [ht,gb h]
theorem vw (a:L8):∀ j,j<=Ln l->(ht l a j).isSome=(hD (l.take j)).contains a
 | 0,_=>by simp [ht,hD]
 | j + 1,ac=>by
   rw [vv (by omega),Da (by omega)]
   by_cases e:l[j].name.data.toList=a
   . rw [if_pos e];simp [e]
   . rw [if_neg e,vw a j (by omega)]
     have A:¬ a=l[j].name.data.toList:=fun h=>e h.symm
     simp [A]
theorem rT (a:L8):∀ j i,j<=Ln l->ht l a j=some i->i<j/\∃ h:i<Ln l,l[i].name.data.toList=a
 | 0,i,_,h=>by simp [ht] at h
 | j + 1,i,ac,h=>by
   rw [vv (by omega)] at h
   by_cases e:l[j].name.data.toList=a
   . rw [if_pos e] at h
     obtain rfl:j=i:=fe h;exact ⟨by omega,by omega,e⟩
   . rw [if_neg e] at h
     obtain ⟨G,J⟩:=rT a j i (by omega) h;exact ⟨by omega,J⟩
theorem ti:Keyed prog 9:=string_keyed Tryz.underlying9
theorem yH (w:World):(zeroValue 227).run prog w = .ok oZ w:=by kernel_rfl
def iw (w:World) (b:Nat) (l:List eO) (K:Nat->Value) (j:Nat):Prop:=∃ (n:Nat) (D:DataW Value),n<=j/\w.ownsMap prog 9 pv b n D/\∀ a,has D (.string a)=(ht l a j).isSome/\D.atKey (.string a) (.held oZ) = .held ((ht l a j).elim oZ (iF l K))
section
variable {w r:World} {b:Nat} {l:List eO} {K:Nat->Value} {j:Nat}
theorem iw.lt (h:iw w b l K j):b<w.heap.size:=by obtain ⟨n,D,_,G,_⟩:=h;exact G.lt
theorem iw.later (h:iw w b l K j) (F:et w r):iw r b l K j:=by
 obtain ⟨n,D,a3,G,J⟩:=h;have a0:=G.lt;obtain ⟨t,clock,aJ,O⟩:=G;exact ⟨n,D,a3,⟨t,clock,(F.block b a0).trans aJ,O⟩,J⟩
theorem iw.made (w:World) (l:List eO) (K:Nat->Value):iw (w.alloc (.map #[] 0)) w.heap.size l K 0:=⟨0,.map [],eD _,r1 w _ _ _,fun _=>⟨rfl,rfl⟩⟩
theorem iw.put (h:iw w b l K j) (ac:j<Ln l) (a6:Ln l<=4) (Z:l[j].name.size<=maxLen) :
 ∃ r,(Instr.mapUpdate 157 (.map (some b)) (.string l[j].name) (iF l K j)).run prog w = .ok () r/\iw r b l K (j+1)/\w.grownBy r (some b):=by
 obtain ⟨n,D,a3,G,J⟩:=h;obtain ⟨r,b2,bi,bt⟩:=G.update ti Tryz.underlying157 (by unfold maxLen;omega) (keyOf_string_mk Tryz.underlying9 Z) (val:=iF l K j) (d:=.held (iF l K j)) (ps:=[]) rfl;refine ⟨r,b2,⟨n+1,_,by omega,bi,fun a=>?_⟩,bt⟩;rw [vv ac]
 by_cases e:l[j].name.data.toList=a
 . subst e
   rw [if_pos rfl];exact ⟨has_put_same (k:=.string l[j].name.data.toList) G.isMap trivial _,atKey_put_same (k:=.string l[j].name.data.toList) G.isMap trivial _ _⟩
 . have aV:Lit.string a≠.string l[j].name.data.toList:=fun h=>e (by injection h with h;exact h.symm)
   rw [if_neg e,has_put_other aV,atKey_put_other aV];exact J a
theorem iw.look (h:iw w b l K j) (Z:s.size<=maxLen) :
 (Instr.lookup 157 (.map (some b)) (.string s) false).run prog w = .ok ((ht l s.data.toList j).elim oZ (iF l K)) w:=by
 obtain ⟨n,D,a3,G,J⟩:=h;obtain ⟨v,H,hrun,a7⟩:=G.lookup ti Tryz.underlying157 (yH w) (zd:=.held oZ) (zp:=[]) rfl (keyOf_string_mk Tryz.underlying9 Z);rw [(J _).2] at a7;simp only [pv,kR,rq,sw] at a7;rw [hrun,a7.1]
theorem iw.look_ok (h:iw w b l K j) (Z:s.size<=maxLen) :
 (Instr.lookup 157 (.map (some b)) (.string s) true).run prog w = .ok (.tuple #[(ht l s.data.toList j).elim oZ (iF l K),.bool (ht l s.data.toList j).isSome]) w:=by
 obtain ⟨n,D,a3,G,J⟩:=h;obtain ⟨v,H,hrun,a7⟩:=G.look_ok ti Tryz.underlying157 (yH w) (zd:=.held oZ) (zp:=[]) rfl (keyOf_string_mk Tryz.underlying9 Z);rw [(J _).2] at a7;simp only [pv,kR,rq,sw] at a7;rw [hrun,a7.1,(J _).1]
end
theorem yI:∀ (f l:List (L8)),f.Nodup->(∀ a ∈ f,a ∈ l)->Ln f<=Ln l
 | [],_,_,_=>eY _
 | q :: f,l,cL,h=>by
   obtain ⟨G,J⟩:=t2.1 cL;have Q:=h q (by simp);have:=yI f (l.erase q) J (fun a ab=>(List.mem_erase_of_ne (fun e:a=q=>G (by rw [← e];exact ab))).2 (h a (by simp [ab])));rw [List.length_erase_of_mem Q] at this;have az:0<Ln l:=List.length_pos_of_mem Q
   simp;omega
theorem yJ:∀ (l:List (L8)),∃ f:List (L8),f.Nodup/\(∀ a,a ∈ f↔a ∈ l)/\(¬ l.Nodup->Ln f<Ln l)
 | []=>⟨[],by simp,by simp,by simp⟩
 | q :: l=>by
   obtain ⟨f,G,J,S⟩:=yJ l;have an:=yI f l G (fun a ab=>(J a).1 ab)
   by_cases Q:q ∈ l
   . refine ⟨f,G,fun a=>?_,fun _=>by simp;omega⟩
     rw [J,lM];exact ⟨Or.inr,fun h=>h.elim (fun e=>e ▸ Q) id⟩
   . refine ⟨q :: f,t2.2 ⟨fun h=>Q ((J q).1 h),G⟩,fun a=>by simp [J],fun U=>?_⟩
     have:=S (fun h=>U (t2.2 ⟨Q,h⟩))
     simp;omega
theorem yK {R:Value->Option (DataW H × List MemPlace)} {n:Nat} {D:DataW H} (h:w.ownsMap prog 9 R b n D) {l:List (L8)} (a2:l.Nodup) (a8:∀ a,has D (.string a)=l.contains a):l.Perm (strKeys D):=
 Collected.perm (left:=fun _=>false) ⟨a2,fun q=>by rw [a8 q];simp⟩ h ti Tryz.underlying9 (fun _=>rfl)
theorem yL (D:DataW H) (h:IsMap D):Maps.size D=(strKeys D).length:=by obtain ⟨t,rfl⟩:=h;simp [Maps.size,strKeys]
theorem iw.len (h:iw w b l K (Ln l)) :
 ∃ m:Nat,(∀ d,(Builtin.len_ #[157] d #[.map (some b)]).run prog w = .ok (em m) w)/\((hD l).Nodup->m=Ln l)/\(¬ (hD l).Nodup->m<Ln l):=by
 obtain ⟨n,D,a3,G,J⟩:=h
 have a8:∀ a,has D (.string a)=(hD l).contains a:=fun a=>by rw [(J a).1,vw a _ (eD _),iA]
 refine ⟨Maps.size D,fun d=>G.len Tryz.underlying157 d,fun U=>?_,fun U=>?_⟩
 . rw [yL D G.isMap,← (yK G U a8).length_eq,th]
 . obtain ⟨f,ak,au,aI⟩:=yJ (hD l)
   have az:=yK G ak (fun a=>by rw [a8,ow];simp [au]);rw [yL D G.isMap,← az.length_eq,← th l];exact aI U
theorem nx {x:Int} (G : -1000000000<=x) (J:x<=1000000000):IntKind.i64.wrap x=x:=by simp only [IntKind.wrap,IntKind.bits,IntKind.signed];simp;omega
abbrev mN (x:eO) (E:OA) (T:Nat) (H:OA) (y3:Nat) (aj:OA) (y4:Nat) (al:OA) (y5:Nat):Obj:=hE x.name E (Ln x.uses) T x.data H (Ln x.code) y3 aj (Ln x.fixes) y4 al (Ln x.entries) y5 x.main
theorem yM (l:List eO) (K:Nat->Value) (a:OA) (I:Nat) (w:World) (aQ:jM w a l K) (ay:rS l) :
 ew 102 #[.slice a (Ln l) I] w fun e r=>∃ b,e = .returned (.map (some b))/\iw r b l K (Ln l)/\et w r:=by
 have bC:=aQ.bound;have a6:=ay.1;have aG:=hid aQ;have aF:=hid ay;have p:=hid (nw ay);have aP:=@run_makeMap prog;have aq:=hid (iw.made w l K);have ai:IntKind.i64.wrap ((Ln l:Int)+1)=Ln l+1:=nx (by omega) (by omega);clear aQ ay;go_enter func102,ntmps102;go_wp2_with fail;clear ai
 go_loopw [4,5,6,7,14] (fun c o _ _ i wr=>∃ (j:Nat) (g aV:Int),j<=Ln l/\i=em j/\c=em g/\o=em aV/\g=(Ln l:Int)+1+gJ (l.take j)/\aV=gv (l.take j)/\iw wr w.heap.size l K j/\et w wr) (fun _ _ _ _ i _=>Ln l - (intOf i).toNat)
 case atStart=>exact ⟨0,_,_,eY _,rfl,rfl,rfl,by simp [gJ],by simp [gv],aq,ey _ _⟩
 case round=>
  clear aq;obtain ⟨j,g,aV,ac,rfl,rfl,rfl,a1,ez,bp,F⟩:=hrel;have ao:=hid a1;have aK:=hid ez;have m:=p j ac;rw [← ez] at m
  have t:0<=g/\g<=10000:=by omega
  have u:0<=aV/\aV<=10000:=by omega
  clear a1 ez m
  by_cases a0:j<Ln l
  . obtain ⟨b,C,E,T,H,bc,aj,b9,al,b7,rfl,bz,bh,a9,a4,c3,am,aX,aR,aa,_,ah⟩:=(aG.later F).get j a0
    obtain ⟨aI,Q,au,s⟩:=aF.2 l[j] (fO a0);obtain ⟨w2,hrun,J,f⟩:=(bp.later (ey wr (mN l[j] E T H bc aj b9 al b7))).put a0 a6 aa.wn;have cv:=hid (te a0);have n:=hid (tg a0);unfold iF at hrun;rw [ah,← ao.out,← aK.out] at hrun;have aB:et w w2:=(es F (ey _ _)).grown f (by have:=F.size;simp;omega) (fun k N=>by cases N;exact eD _);have O:=hid J;have d:w2.heap[wr.heap.size]? = some (mN l[j] E T H bc aj b9 al b7):=(f.block wr.heap.size (by simp) (by simp;have:=bp.lt;omega)).trans (eT wr _);clear bp J f ah aa;generalize l[j]=q at *;obtain ⟨D,aZ,b6,bk,bm,a7,aJ,_⟩:=f6 d;have h:=lt_of_heap d;have b8:IntKind.i64.wrap (g+Ln q.code)=g+Ln q.code:=nx (by omega) (by omega);have ae:IntKind.i64.wrap (aV+q.data)=aV+q.data:=nx (by omega) (by omega)
    clear d;go_wp2_with fail;go_roundw
    case rel=>exact ⟨j+1,_,_,by omega,by go_num,rfl,rfl,by rw [ao.out,cv.out];omega,by rw [aK.out,n.out],O,aB⟩
    case measure=>simp [intOf];omega
  . obtain rfl:j=Ln l:=by omega
    have A:=hid bp;clear bp;go_wp2_with fail;go_ret;exact ⟨_,rfl,A,F⟩
def k4 (l:List eO) (i:Nat) (u:ByteArray):Bool:=match ht l u.data.toList (Ln l) with | some k=>decide (k<i) | none=>false
def k5 (l:List eO) (i:Nat):Bool:=match l[i]? with | some o=>o.uses.all (k4 l i) | none=>true
def ny (l:List eO):Bool:=ju (Ln l) (k5 l)
theorem Db (q:α->Bool) {l:List α} (h:j<Ln l):(l.take (j+1)).all q=((l.take j).all q&&q l[j]):=by
 rw [hI h,lL];simp
theorem Dc (q:α->Bool) {l:List α} (h:j<Ln l) (Q:q l[j]=false):l.all q=false:=by
 rw [rl];exact ⟨l[j],fO h,by simp [Q]⟩
theorem Dd (l:List eO) (K:Nat->Value) (a:OA) (I aV:Nat) (w:World) (aQ:jM w a l K) (a6:Ln l<=4) (bp:iw w aV l K (Ln l)) :
 ew 106 #[.map (some aV),.slice a (Ln l) I] w fun e r=>e = .returned (.bool (ny l))/\et w r:=by
 have bC:=aQ.bound;have aG:=hid aQ;have A:=hid bp;clear aQ bp
 obtain ⟨O,W⟩:∃ O,O=ny l:=⟨_,rfl⟩
 rw [← W];have z:=hid W;clear W;go_enter func106,ntmps106;go_wp2_with fail
 go_loopw [5,6,8,9,10,13] (fun _ _ _ _ _ i wr=>∃ j:Nat,j<=Ln l/\i=em j/\(∀ k,k<j->k5 l k=true)/\et w wr) (fun _ _ _ _ _ i _=>Ln l - (intOf i).toNat)
 case atStart=>exact ⟨0,eY _,rfl,fun k h=>absurd h (jU _),Below.refl _ _⟩
 case round=>
  obtain ⟨j,ac,rfl,aO,F⟩:=hrel;have ar:=hid aO;have ad:=hid F;clear aO
  by_cases a0:j<Ln l
  . obtain ⟨b,C,E,T,H,bc,aj,b9,al,b7,rfl,bz,bh,a9,a4,c3,am,aX,aR,aa,_,_⟩:=(aG.later F).get j a0
    have n:Hid (k5 l j=l[j].uses.all (k4 l j)):=by show k5 l j=_;unfold k5;rw [gb a0]
    have bl:=hid aa.uses;have c1:=aa.uses.bound;clear F aa;generalize l[j]=q at *;go_wp2_with fail;clear bh a9 a4 c3 am aX aR bz
    go_loopw [8,9,10,21] (fun _ _ _ i S=>∃ R:Nat,R<=Ln q.uses/\i=em R/\(q.uses.take R).all (k4 l j)=true/\et wr S) (fun _ _ _ i _=>Ln q.uses - (intOf i).toNat)
    case atStart=>exact ⟨0,eY _,rfl,rfl,ey _ _⟩
    case round=>
     obtain ⟨R,Q,rfl,hallu,aB⟩:=hrel;have b2:=hid hallu;have aM:=hid aB;have a8:=hid (es ad aB);clear hallu
     by_cases bX:R<Ln q.uses
     . obtain ⟨aW,uo,rfl,bB,huc,aP⟩:=(bl.later aB).str R bX
       have y:=((A.later a8)).look_ok aP;have ab:=hid (Db (k4 l j) bX);have s:=hid (fun h=>Dc (k4 l j) bX h);clear aB
       have t:∀ k,ht l q.uses[R].data.toList (Ln l)=some k->k<Ln l:=fun k h=>(rT _ _ _ (eD _) h).1
       have Y:Hid (k4 l j q.uses[R]=match ht l q.uses[R].data.toList (Ln l) with | some k=>decide (k<j) | none=>false):=rfl;generalize q.uses[R]=u at *;generalize ht l u.data.toList (Ln l)=o at *
       cases o with
       | none=>
         have p:Hid (O=false):=z.trans (lu (i:=j) (by omega) (n.trans (s Y)));simp only [Option.elim,Option.isSome,oZ] at y;clear t;go_wp2_with fail;go_ret;exact ⟨ret_bool p.symm,a8.alloc (by have:=a8.size;omega) _⟩
       | some k=>
         have N:=t k rfl;obtain ⟨_,_,_,_,_,_,_,_,bR,bU,_,_,_,_,_,_,_,_,_,_,_,hek⟩:=aG.get k N;simp only [Option.elim,Option.isSome,iF] at y;rw [hek] at y;clear t hek
         by_cases c:k<j
         . have P:Hid ((q.uses.take (R+1)).all (k4 l j)=true):=ab.trans (by rw [b2.out,Y.out];simp [c])
           have m:¬ (j:Int)<=k:=by omega
           go_wp2_with fail;go_roundw
           case rel=>exact ⟨R+1,by omega,by go_num,P,aM.alloc (by have:=aM.size;omega) _⟩
           case measure=>simp [intOf];omega
         . have p:Hid (O=false):=z.trans (lu (i:=j) (by omega) (n.trans (s (Y.trans (decide_eq_false c)))))
           have m:(j:Int)<=k:=by omega
           go_wp2_with fail;go_ret;exact ⟨ret_bool p.symm,a8.alloc (by have:=a8.size;omega) _⟩
     . obtain rfl:R=Ln q.uses:=by omega
       have P:Hid (k5 l j=true):=n.trans (by have:=b2.out;rw [iA] at this;exact this);clear aB;go_wp2_with fail;go_roundw
       case rel=>exact ⟨j+1,by omega,by go_num,lw ar P,a8⟩
       case measure=>simp [intOf];omega
  . obtain rfl:j=Ln l:=by omega
    have P:Hid (O=true):=z.trans (iO.2 ar);go_wp2_with fail;go_ret;exact ⟨ret_bool P.symm,ad⟩
theorem fL (i:Nat) (v:Value) {a:Act} (X:ops[i]? = some d)
 (a1:(Region.noSelect ops&&(Region.free k ops e i&&((Region.ready k ops e).contains i&&Region.wanted d (yielded ops a.tmps))))=true)
 (f:∀ c a w,T (.panic c) (a.put d.dst v) w->T (.panic c) a w) (z:∀ w,S w->(execOp a.eval d).run P w = .ok (.value v) w) (g:S w)
 (h:wpAnyH P k ops T S p (e.setIfInBounds i true) (a.put d.dst v) w):wpAnyH P k ops T S (p+1) e a w:=by
 simp only [fs] at a1;exact wpAnyH_take X a1.1 a1.2.1 a1.2.2.1 f (Or.inl ⟨a1.2.2.2,z⟩) g h
abbrev vx:Obj:=.cells #[em 0,em 0,em 0,eu] 227
abbrev vy (l:List eO) (k:Nat) (bR:OA) (bY bU:Nat):Value:=.agg #[em k,em ((Ln l:Int)+1+gJ (l.take k)),em (gv (l.take k)),.slice bR bY bU]
abbrev yN (o:eO) (E:OA) (T:Nat) (H:OA) (y3:Nat) (aj:OA) (y4:Nat) (al:OA) (y5:Nat):Value:=.agg #[.string o.name,.slice E (Ln o.uses) T,em o.data,.slice H (Ln o.code) y3,.slice aj (Ln o.fixes) y4,.slice al (Ln o.entries) y5,em o.main]
theorem ix (w:World):et w w.drew:=(Below.refl _ _).drew
theorem yO {H:Value} (h:w.heap[b]? = some (.cells #[af,E,ae,H] t (0,0))) :
 w.cell? (ep b 0)=some af/\w.cell? (ep b 1)=some E/\w.cell? (ep b 2)=some ae/\w.cell? (ep b 3)=some H/\∀ i,w.frozen? (ep b i)=false:=by
 refine ⟨?_,?_,?_,?_,fun i=>ih h i⟩<;>(rw [fU h];rfl)
def yP (o:eO) (m:Int) (s:ByteArray):Prop:=(m=0/\s=o.name)\/∃ i:Nat,m=(i:Int)+1/\∃ h:i<Ln o.uses,o.uses[i]=s
theorem yQ (l:List eO) (K:Nat->Value) (aV:Nat) (w:World) (bp:iw w aV l K (Ln l)) (o:eO) (E:OA) (T:Nat) (H:OA) (y3:Nat) (aj:OA) (y4:Nat) (al:OA) (y5:Nat) (aa:jk w o E H aj al) (m:Int) (s:ByteArray) (Z:yP o m s) (k:Nat) (N:ht l s.data.toList (Ln l)=some k) (bR:OA) (bY bU:Nat) (d:K k = .slice bR bY bU) :
 ew 146 #[.map (some aV),yN o E T H y3 aj y4 al y5,em m] w fun e r=>e = .returned (vy l k bR bY bU)/\et w r:=by
 obtain ⟨M,L⟩:∃ M,M=(w.alloc (mN o E T H y3 aj y4 al y5)).alloc vx:=⟨_,rfl⟩
 have F:et w M:=by rw [L];exact gc _ _ _
 have ao:M.heap[w.heap.size]? = some (mN o E T H y3 aj y4 al y5):=by rw [L];exact fF (eT w _)
 have aM:M.heap[w.heap.size+1]? = some vx:=by rw [L];simpa using eT (w.alloc (mN o E T H y3 aj y4 al y5)) vx
 have A:=hid (bp.later F);have bl:=hid (aa.uses.later F);have c1:=aa.uses.bound;have h:=aa.wn;obtain ⟨D,aZ,b6,bk,bm,a7,aJ,_⟩:=f6 ao;obtain ⟨bg,b2,bi,bt,rf⟩:=yO aM;have bq:=lt_of_heap ao;have aI:=lt_of_heap aM;clear bp aa F ao aM;subst L
 rcases Z with ⟨rfl,rfl⟩ | ⟨i,rfl,X,rfl⟩
 . have y:=A.look h
   rw [N] at y;simp only [Option.elim,iF] at y;rw [d] at y;clear N d;go_enter func146,ntmps146;go_wp2_with fail;refine bodyPost_ret (v:=vy l k bR bY bU) (by simp [results,results146,go_sem,bg,b2,bi,bt,aI]) rfl ⟨rfl,gc _ _ _⟩
 . obtain ⟨aW,uo,rfl,bB,huc,aP⟩:=bl.str i X
   have y:=A.look aP;rw [N] at y;simp only [Option.elim,iF] at y;rw [d] at y
   have b8:IntKind.i64.wrap ((i:Int)+1 - 1)=i:=by simp only [IntKind.wrap,IntKind.bits,IntKind.signed];simp;omega
   have b:¬ ((i:Int)+1=0):=by omega
   clear N d;generalize o.uses[i]=u at *;go_enter func146,ntmps146;go_wp2_with fail;refine bodyPost_ret (v:=vy l k bR bY bU) (by simp [results,results146,go_sem,bg,b2,bi,bt,aI]) rfl ⟨rfl,gc _ _ _⟩
def ma (y a c d:Int) (b:List Int):Int:=if y=2 then c+b.getD a.toNat 0 else if y=3 then d+a else c+a
theorem eE.entI {A:Nat->Prop} {l:List Int} (h:eE w A a (Ln l) (gS l)) (i:Nat) (X:i<Ln l):∃ b C,a=some (ep b C)/\b<w.heap.size/\w.cell? ⟨b,C+i,none⟩=some (em l[i]):=by
 obtain ⟨b,C,ab,F,a1⟩:=h.cell (by omega);obtain ⟨v,a7,ez⟩:=a1 i (.int l[i]) (by simp [gS,X]);obtain ⟨rfl,_⟩:=hw ez;exact ⟨b,C,ab,F,a7⟩
theorem De (n c d y a:Int) (b:List Int) (bR:OA) (bU:Nat) (w:World) (B:eE w eV bR (Ln b) (gS b)) (a1:0<=c/\c<=10000) (ez:0<=d/\d<=10000) (ab:0<=a/\a<=2048) (J:y=2->a<Ln b) (f:∀ q ∈ b,0<=q/\q<=2048) :
 ew 147 #[.agg #[em n,em c,em d,.slice bR (Ln b) bU],em y,em a] w fun e r=>e = .returned (em (ma y a c d b))/\et w r:=by
 have g:=B.bound;obtain ⟨a9,a4⟩:=a1;obtain ⟨aL,aU⟩:=ez;obtain ⟨Y,a5⟩:=ab
 by_cases au:y=2
 . subst au
   have a2:=J rfl
   obtain ⟨i,rfl⟩:∃ i:Nat,a=i:=⟨a.toNat,by omega⟩
   have X:i<Ln b:=by omega
   have ae:Hid (ma 2 i c d b=c+b[i]):=by show ma 2 i c d b=_;unfold ma;rw [if_pos rfl,mT,lJ,gb X];rfl
   have Q:=f b[i] (fO X);obtain ⟨dY,eo,rfl,cr,dN⟩:=(B.later (ey w (.cells #[em n,em c,em d,.slice bR (Ln b) bU] 227))).entI i X;have b8:IntKind.i64.wrap (c+b[i])=c+b[i]:=nx (by omega) (by omega);clear B f J;generalize b[i]=q at *;go_enter func147,ntmps147;go_wp2_with fail
   (try go_quiet ((fail)))
   go_wp2_with fail;go_ret;exact ⟨ret_int ae.symm,(by first | exact ey _ _ | exact (ey _ _).drew | exact below_drewN (ey _ _) _)⟩
 . have V:(y == 2)=false:=by simp [au]
   by_cases aI:y=3
   . subst aI
     have ae:Hid (ma 3 a c d b=d+a):=rfl;have b8:IntKind.i64.wrap (d+a)=d+a:=nx (by omega) (by omega);clear B f J;go_enter func147,ntmps147;go_wp2_with fail;go_ret;exact ⟨ret_int ae.symm,ey _ _⟩
   . have b9:(y == 3)=false:=by simp [aI]
     have ae:Hid (ma y a c d b=c+a):=by show ma y a c d b=_;unfold ma;rw [if_neg au,if_neg aI]
     have b8:IntKind.i64.wrap (c+a)=c+a:=nx (by omega) (by omega);clear B f J;go_enter func147,ntmps147;go_wp2_with fail;go_ret;exact ⟨ret_int ae.symm,ey _ _⟩
theorem kH (i:Nat) {a:Act} (X:ops[i]? = some d)
 (a1:(Region.noSelect ops&&(Region.free k ops e i&&((Region.ready k ops e).contains i && !(Region.wanted d (yielded ops a.tmps)))))=true)
 (f:∀ c a w,T (.panic c) (a.put d.dst undef) w->T (.panic c) a w) (g:S w)
 (h:wpAnyH P k ops T S p (e.setIfInBounds i true) (a.put d.dst undef) w):wpAnyH P k ops T S (p+1) e a w:=by
 simp only [fs,tX] at a1;exact wpAnyH_take X a1.1 a1.2.1 a1.2.2.1 f (Or.inr ⟨a1.2.2.2,rfl⟩) g h
def nA (o:eO) (m:Int):ByteArray:=if m=0 then o.name else o.uses.getD (m - 1).toNat ⟨#[]⟩
def f7 (l:List eO) (o:eO) (m:Int):Nat:=(ht l (nA o m).data.toList (Ln l)).getD 0
def jm (l:List eO) (k:Nat):List Int:=match l[k]? with | some o=>o.entries | none=>[]
def kI (l:List eO) (o:eO) (f:gQ):Bool:=!(decide (f.kind=2)&&decide (((jm l (f7 l o f.m)).length:Int)<=jl o f.at_))
def jw (l:List eO) (o:eO) (j:Nat):Bool:=match o.fixes[j]? with | some f=>kI l o f | none=>true
def mc (l:List eO) (i:Nat):Bool:=match l[i]? with | some o=>ju (Ln o.fixes) (jw l o) | none=>true
def o0 (l:List eO):Bool:=ju (Ln l) (mc l)
structure Df (o:eO) (f:gQ):Prop where
 at0:0<=f.at_
 at1:f.at_<Ln o.code
 kind:1<=f.kind/\f.kind<=3
 a0:0<=jl o f.at_
 a1:jl o f.at_<=2048
 m0:0<=f.m
 m1:f.m<=Ln o.uses
theorem qS (h:gd o=0):j4 o=false/\kk o=true/\hA o=true/\km o=true:=by
 unfold gd at h
 split at h
 . cases h
 . rename_i G
   split at h
   . rename_i J
     simp only [fs] at J;exact ⟨by simpa using G,J.1,J.2.1,J.2.2⟩
   . cases h
theorem rU (h:gd o=0) (ac:j<Ln o.fixes):Df o o.fixes[j]:=by
 obtain ⟨a8,_,_,ag⟩:=qS h;unfold j4 at a8;simp only [jf] at a8;have a1:=of_decide_eq_false a8.2.2.2;have:=iO.1 ag j ac;unfold kl at this;rw [gb ac] at this;simp only [fs] at this;obtain ⟨_,az,F⟩:=this;have az:=of_decide_eq_true az;unfold mL at F
 by_cases ak:o.fixes[j].kind=1
 . rw [if_pos ak] at F
   unfold hb at F;simp only [fs,decide_eq_true_eq] at F;exact ⟨az.1,az.2,by omega,F.1,by omega,F.2.2.1,by omega⟩
 . rw [if_neg ak] at F
   by_cases au:o.fixes[j].kind=2\/o.fixes[j].kind=3
   . rw [if_pos au] at F
     unfold hb at F;simp only [fs,decide_eq_true_eq] at F;exact ⟨az.1,az.2,by omega,F.1,by omega,F.2.2.1,by omega⟩
   . rw [if_neg au] at F;cases F
theorem yR (a3:0<=m) (G:m<=Ln o.uses):yP o m (nA o m):=by
 unfold nA
 by_cases a8:m=0
 . rw [if_pos a8];exact Or.inl ⟨a8,rfl⟩
 . rw [if_neg a8]
   refine Or.inr ⟨(m - 1).toNat,by omega,by omega,?_⟩;rw [lJ,gb (by omega)]
   rfl
def tj (l:List eO):Prop:=∀ i (h:i<Ln l) (m:Int),0<=m->m<=Ln l[i].uses->(ht l (nA l[i] m).data.toList (Ln l)).isSome=true
theorem tn (h:tj l) {i:Nat} (X:i<Ln l) (a3:0<=m) (G:m<=Ln l[i].uses):ht l (nA l[i] m).data.toList (Ln l)=some (f7 l l[i] m)/\f7 l l[i] m<Ln l:=by
 have:=h i X m a3 G;unfold f7
 cases e:ht l (nA l[i] m).data.toList (Ln l) with
 | none=>rw [e] at this;cases this
 | some k=>exact ⟨rfl,(rT _ _ _ (eD _) e).1⟩
theorem p2 {k:Nat} (h:k<Ln l):jm l k=l[k].entries:=by unfold jm;rw [gb h]
theorem tp {p:Nat} (h:p<Ln o.code):jl o p=o.code[p].a:=by unfold jl;rw [mT,gb h]
theorem rV (h:w.heap[b]? = some (.cells #[af,E,ae] t (0,0))):w.cell? (ep b 0)=some af/\w.cell? (ep b 1)=some E/\w.cell? (ep b 2)=some ae:=by
 refine ⟨?_,?_,?_⟩<;>(rw [fU h];rfl)
theorem Dg (l:List eO) (K:Nat->Value) (a:OA) (I aV:Nat) (w:World) (aQ:jM w a l K) (a6:Ln l<=4) (bp:iw w aV l K (Ln l)) (bb:∀ o ∈ l,gd o=0) (br:tj l) :
 ew 107 #[.map (some aV),.slice a (Ln l) I] w fun e r=>e = .returned (.bool (o0 l))/\et w r:=by
 have bC:=aQ.bound;have aG:=hid aQ;have A:=hid bp;have ah:=hid bb;have d7:=hid br;clear aQ bp bb br
 obtain ⟨O,W⟩:∃ O,O=o0 l:=⟨_,rfl⟩
 rw [← W];have z:=hid W;clear W;go_enter func107,ntmps107;go_wp2_with fail
 go_loopw [6,8,11] (fun _ _ i wr=>∃ j:Nat,j<=Ln l/\i=em j/\(∀ k,k<j->mc l k=true)/\et w wr) (fun _ _ i _=>Ln l - (intOf i).toNat)
 case atStart=>exact ⟨0,eY _,rfl,fun k h=>absurd h (jU _),Below.refl _ _⟩
 case round =>
  obtain ⟨j,ac,rfl,aO,F⟩:=hrel;have ar:=hid aO;have ad:=hid F;clear aO
  by_cases a0:j<Ln l
  . obtain ⟨b,C,E,T,H,bc,aj,b9,al,b7,rfl,bz,bh,a9,a4,c3,am,aX,aR,aa, -, -⟩:=(aG.later F).get j a0
    have n:Hid (mc l j=ju (Ln l[j].fixes) (jw l l[j])):=by show mc l j=_;unfold mc;rw [gb a0]
    have bW:=hid aa;have dy:=aa.fixes.bound;have cj:=hid (fun (R:Nat) (Q:R<Ln l[j].fixes)=>rU (ah l[j] (fO a0)) Q);have cp:=hid (fun (m:Int) (a3:0<=m) (G:m<=Ln l[j].uses)=>tn d7 a0 a3 G);clear F aa;generalize l[j]=q at *;go_wp2_with fail;clear bh a9 a4 c3 am aX aR bz
    go_loopw [8,18] (fun _ i S=>∃ R:Nat,R<=Ln q.fixes/\i=em R/\(∀ k,k<R->jw l q k=true)/\Below (wr.alloc (mN q E T H bc aj b9 al b7)).heap.size (wr.alloc (mN q E T H bc aj b9 al b7)) S) (fun _ i _=>Ln q.fixes - (intOf i).toNat)
    case atStart=>exact ⟨0,eY _,rfl,fun k h=>absurd h (jU _),Below.refl _ _⟩
    case round=>
     obtain ⟨S,rfl⟩:∃ q,q=wr:=⟨_,rfl⟩
     obtain ⟨R,Q,rfl,hallq,aB⟩:=hrel;have b2:=hid hallq;have aM:=hid aB;have a2:=es (ey wr _) aB;have a8:=hid (es ad a2);have s:=(aB.block wr.heap.size (by simp)).trans (eT wr (mN q E T H bc aj b9 al b7));clear hallq
     by_cases bX:R<Ln q.fixes
     . obtain ⟨ch,fo,rfl,hfx⟩:=((bW.later a2).fixes).gf R bX
       obtain ⟨cN,fr2,fr3,fr4,fr5,fr6,fr7⟩:=cj R bX;obtain ⟨ao,c5⟩:=cp q.fixes[R].m fr6 fr7
       have p:Hid (jw l q R=kI l q q.fixes[R]):=by show jw l q R=_;unfold jw;rw [gb bX]
       obtain ⟨cq,bM,ax,bf, -, -, -⟩:=hfx;have aI:=hid (yR (o:=q) fr6 fr7);have bB:=bW.uses.bound;have b0:=bW.code.bound;generalize q.fixes[R]=f at *
       obtain ⟨y,az⟩:∃ y:Nat,f.at_=y:=⟨f.at_.toNat,by omega⟩
       have c2:y<Ln q.code:=by omega
       obtain ⟨bj,ag,rfl,bs⟩:=((bW.later a2).code).gi y c2;obtain ⟨aL, -,bQ, -, -, -, -⟩:=bs
       have ak:Hid (jl q f.at_=q.code[y].a):=by show jl q f.at_=_;rw [az];exact tp c2
       have dB:(y:Int)<Ln q.code:=by omega
       rw [ak.out] at fr4 fr5;rw [az] at bM;generalize q.code[y].a=A at *
       obtain ⟨Z,bn⟩:∃ Z,Z=S.alloc (.cells #[em y,em f.kind,em f.m] 67):=⟨_,rfl⟩
       have a5:et S Z:=by rw [bn];exact ey _ _
       have aN:=hid bn
       have cd:Z.heap[S.heap.size]? = some (.cells #[em y,em f.kind,em f.m] 67):=by rw [bn];exact eT _ _
       have ab:=(a5.block _ (lt_of_heap s)).trans s;have V:=lt_of_heap ab;have x:=lt_of_heap cd
       have aJ:=hid (fun M (L:et Z M)=>(by
        obtain ⟨bT,aw,aE,b4,b8,u,aP,_⟩:=f6 ((L.block _ V).trans ab);obtain ⟨av,an,aD⟩:=rV ((L.block _ x).trans cd)
        exact ⟨bT,aw,aE,b4,b8,u,aP,av,an,aD,(L.cell (p:=⟨bj,ag+y*3+1,none⟩) (by have:=a5.size;show bj<_;omega)).trans ((a5.cell (p:=⟨bj,ag+y*3+1,none⟩) aL).trans bQ)⟩:M.cell? (ep wr.heap.size 0)=some (.string q.name)/\M.cell? (ep wr.heap.size 1)=some (.slice E (Ln q.uses) T)/\M.cell? (ep wr.heap.size 2)=some (em q.data)/\M.cell? (ep wr.heap.size 3)=some (.slice (some (ep bj ag)) (Ln q.code) bc)/\M.cell? (ep wr.heap.size 4)=some (.slice (some (ep ch fo)) (Ln q.fixes) b9)/\M.cell? (ep wr.heap.size 5)=some (.slice al (Ln q.entries) b7)/\M.cell? (ep wr.heap.size 6)=some (em q.main)/\M.cell? (ep S.heap.size 0)=some (em y)/\M.cell? (ep S.heap.size 1)=some (em f.kind)/\M.cell? (ep S.heap.size 2)=some (em f.m)/\M.cell? ⟨bj,ag+y*3+1,none⟩=some (em A)))
       have bZ:=hid (es a8 a5);obtain ⟨_,_,_,_,_,_,_,_,bR,bU, -, -, -, -, -, -, -, -, -,be, -,hek⟩:=aG.get (f7 l q f.m) c5;have aq:=hid (fun M (L:et Z M)=>yQ l K aV M (A.later (es bZ L)) q E T (some (ep bj ag)) bc (some (ep ch fo)) b9 al b7 ((bW.later (es (es (ey wr _) aM) a5)).later L) f.m _ aI _ ao bR _ bU hek);have cb:=be.entries.bound;clear be hek;clear a5 bn ab s cd aB a2 bQ;go_upto_region 7 with fail;rw [← aN.out]
       go_cut [41] from 20 to 41 (fun v wc=>v = .bool (!(jw l q R))/\Hid (et Z wc))
       case first=>
        by_cases au:f.kind=2
        . generalize af:Ln l[f7 l q f.m].entries=bY at *
          have g:(jm l (f7 l q f.m)).length=bY:=by rw [p2 c5];exact af
          have cV:Hid (kI l q f = !decide ((bY:Int)<=A)):=by show kI l q f=_;unfold kI;rw [ak.out,g];simp [au]
          have db:(f.kind == 2)=true:=by simp [au]
          clear af g ao au az cN fr2 fr3 fr6 fr7
          by_cases aT:(bY:Int)<=A
          . have ae:Hid (jw l q R=false):=p.trans (cV.trans (by simp [aT]))
            refine wp_region_held_drew (S:=(fun M=>M.cell? (ep wr.heap.size 0)=some (.string q.name)/\M.cell? (ep wr.heap.size 1)=some (.slice E (Ln q.uses) T)/\M.cell? (ep wr.heap.size 2)=some (em q.data)/\M.cell? (ep wr.heap.size 3)=some (.slice (some (ep bj ag)) (Ln q.code) bc)/\M.cell? (ep wr.heap.size 4)=some (.slice (some (ep ch fo)) (Ln q.fixes) b9)/\M.cell? (ep wr.heap.size 5)=some (.slice al (Ln q.entries) b7)/\M.cell? (ep wr.heap.size 6)=some (em q.main)/\M.cell? (ep S.heap.size 0)=some (em y)/\M.cell? (ep S.heap.size 1)=some (em f.kind)/\M.cell? (ep S.heap.size 2)=some (em f.m)/\M.cell? ⟨bj,ag+y*3+1,none⟩=some (em A))) (by kernel_rfl) (aJ _ (ix Z)) (fun d=>?_);refine fL 0 (eL S.heap.size 1) rfl (by kernel_rfl) (fun _ _ _ h=>h) (fun M L=>by kernel_rfl) d ?_;refine fL 1 (em f.kind) rfl (by kernel_rfl) (fun _ _ _ h=>h) (fun M L=>by obtain ⟨b3,D,b6,fX,bw,s5,s6,bJ,bk,bm,bQ⟩:=L;go_simp) d ?_
            refine fL 2 (.bool true) rfl (by kernel_rfl) (fun _ _ _ h=>h) (fun M L=>by go_simp) d ?_;refine fL 3 (.bool true) rfl (by kernel_rfl) (fun _ _ _ h=>h) (fun M L=>by kernel_rfl) d ?_;refine fL 4 (eL wr.heap.size 3) rfl (by kernel_rfl) (fun _ _ _ h=>h) (fun M L=>by kernel_rfl) d ?_;refine fL 5 (.slice (some (ep bj ag)) (Ln q.code) bc) rfl (by kernel_rfl) (fun _ _ _ h=>h) (fun M L=>by obtain ⟨b3,D,b6,fX,bw,s5,s6,bJ,bk,bm,bQ⟩:=L;go_simp) d ?_;refine fL 6 (eL S.heap.size 0) rfl (by kernel_rfl) (fun _ _ _ h=>h) (fun M L=>by kernel_rfl) d ?_;refine fL 7 (em y) rfl (by kernel_rfl) (fun _ _ _ h=>h) (fun M L=>by obtain ⟨b3,D,b6,fX,bw,s5,s6,bJ,bk,bm,bQ⟩:=L;go_simp) d ?_;refine fL 8 (.pointer (some ⟨bj,ag+y*3,none⟩)) rfl (by kernel_rfl) (fun _ _ _ h=>h) (fun M L=>by go_simp) d ?_;refine fL 9 (.pointer (some ⟨bj,ag+y*3+1,none⟩)) rfl (by kernel_rfl) (fun _ _ _ h=>h) (fun M L=>by kernel_rfl) d ?_
            refine fL 10 (em A) rfl (by kernel_rfl) (fun _ _ _ h=>h) (fun M L=>by obtain ⟨b3,D,b6,fX,bw,s5,s6,bJ,bk,bm,bQ⟩:=L;go_simp) d ?_;refine fL 11 (.map (some aV)) rfl (by kernel_rfl) (fun _ _ _ h=>h) (fun M L=>by kernel_rfl) d ?_;refine fL 12 (.agg #[.string q.name,.slice E (Ln q.uses) T,em q.data,.slice (some (ep bj ag)) (Ln q.code) bc,.slice (some (ep ch fo)) (Ln q.fixes) b9,.slice al (Ln q.entries) b7,em q.main]) rfl (by kernel_rfl) (fun _ _ _ h=>h) (fun M L=>by obtain ⟨b3,D,b6,fX,bw,s5,s6,bJ,bk,bm,bQ⟩:=L;go_simp) d ?_;refine fL 13 (eL S.heap.size 2) rfl (by kernel_rfl) (fun _ _ _ h=>h) (fun M L=>by kernel_rfl) d ?_;refine fL 14 (em f.m) rfl (by kernel_rfl) (fun _ _ _ h=>h) (fun M L=>by obtain ⟨b3,D,b6,fX,bw,s5,s6,bJ,bk,bm,bQ⟩:=L;go_simp) d ?_;refine wpAnyH_ready (rs:=[15]) (by kernel_rfl) (by simp) ?_
            refine AllReadyH.cons rfl (fun c aA=>?_) AllReadyH.nil;go_simp
            go_wp2_with (go_at_call 146;refine (aq _ (ix Z)).mono ?_;rintro e bd ⟨rfl,bK⟩)
            have bv:=hid (es (ix Z) bK);refine aA.out _ _ (aJ _ bv) (fun d=>?_);clear aA c bK
            (try simp only [Act.put,gD,gE,gH])
            refine fL 16 (.slice bR bY bU) rfl (by kernel_rfl) (fun _ _ _ h=>h) (fun M L=>by kernel_rfl) d ?_;refine fL 17 (em bY) rfl (by kernel_rfl) (fun _ _ _ h=>h) (fun M L=>by go_simp) d ?_;refine fL 18 (.bool true) rfl (by kernel_rfl) (fun _ _ _ h=>h) (fun M L=>by go_simp) d ?_;refine fL 19 (.bool true) rfl (by kernel_rfl) (fun _ _ _ h=>h) (fun M L=>by go_simp) d ?_;refine wpAnyH_done (by kernel_rfl) ?_ _;clear d;go_simp;go_wp2_with fail;go_meet;exact ⟨by rw [ae.out];rfl,bv⟩
          . have ae:Hid (jw l q R=true):=p.trans (cV.trans (by simp [aT]))
            have e6:A<(bY:Int):=by omega
            refine wp_region_held_drew (S:=(fun M=>M.cell? (ep wr.heap.size 0)=some (.string q.name)/\M.cell? (ep wr.heap.size 1)=some (.slice E (Ln q.uses) T)/\M.cell? (ep wr.heap.size 2)=some (em q.data)/\M.cell? (ep wr.heap.size 3)=some (.slice (some (ep bj ag)) (Ln q.code) bc)/\M.cell? (ep wr.heap.size 4)=some (.slice (some (ep ch fo)) (Ln q.fixes) b9)/\M.cell? (ep wr.heap.size 5)=some (.slice al (Ln q.entries) b7)/\M.cell? (ep wr.heap.size 6)=some (em q.main)/\M.cell? (ep S.heap.size 0)=some (em y)/\M.cell? (ep S.heap.size 1)=some (em f.kind)/\M.cell? (ep S.heap.size 2)=some (em f.m)/\M.cell? ⟨bj,ag+y*3+1,none⟩=some (em A))) (by kernel_rfl) (aJ _ (ix Z)) (fun d=>?_);refine fL 0 (eL S.heap.size 1) rfl (by kernel_rfl) (fun _ _ _ h=>h) (fun M L=>by kernel_rfl) d ?_;refine fL 1 (em f.kind) rfl (by kernel_rfl) (fun _ _ _ h=>h) (fun M L=>by obtain ⟨b3,D,b6,fX,bw,s5,s6,bJ,bk,bm,bQ⟩:=L;go_simp) d ?_
            refine fL 2 (.bool true) rfl (by kernel_rfl) (fun _ _ _ h=>h) (fun M L=>by go_simp) d ?_;refine fL 3 (.bool true) rfl (by kernel_rfl) (fun _ _ _ h=>h) (fun M L=>by kernel_rfl) d ?_;refine fL 4 (eL wr.heap.size 3) rfl (by kernel_rfl) (fun _ _ _ h=>h) (fun M L=>by kernel_rfl) d ?_;refine fL 5 (.slice (some (ep bj ag)) (Ln q.code) bc) rfl (by kernel_rfl) (fun _ _ _ h=>h) (fun M L=>by obtain ⟨b3,D,b6,fX,bw,s5,s6,bJ,bk,bm,bQ⟩:=L;go_simp) d ?_;refine fL 6 (eL S.heap.size 0) rfl (by kernel_rfl) (fun _ _ _ h=>h) (fun M L=>by kernel_rfl) d ?_;refine fL 7 (em y) rfl (by kernel_rfl) (fun _ _ _ h=>h) (fun M L=>by obtain ⟨b3,D,b6,fX,bw,s5,s6,bJ,bk,bm,bQ⟩:=L;go_simp) d ?_;refine fL 8 (.pointer (some ⟨bj,ag+y*3,none⟩)) rfl (by kernel_rfl) (fun _ _ _ h=>h) (fun M L=>by go_simp) d ?_;refine fL 9 (.pointer (some ⟨bj,ag+y*3+1,none⟩)) rfl (by kernel_rfl) (fun _ _ _ h=>h) (fun M L=>by kernel_rfl) d ?_
            refine fL 10 (em A) rfl (by kernel_rfl) (fun _ _ _ h=>h) (fun M L=>by obtain ⟨b3,D,b6,fX,bw,s5,s6,bJ,bk,bm,bQ⟩:=L;go_simp) d ?_;refine fL 11 (.map (some aV)) rfl (by kernel_rfl) (fun _ _ _ h=>h) (fun M L=>by kernel_rfl) d ?_;refine fL 12 (.agg #[.string q.name,.slice E (Ln q.uses) T,em q.data,.slice (some (ep bj ag)) (Ln q.code) bc,.slice (some (ep ch fo)) (Ln q.fixes) b9,.slice al (Ln q.entries) b7,em q.main]) rfl (by kernel_rfl) (fun _ _ _ h=>h) (fun M L=>by obtain ⟨b3,D,b6,fX,bw,s5,s6,bJ,bk,bm,bQ⟩:=L;go_simp) d ?_;refine fL 13 (eL S.heap.size 2) rfl (by kernel_rfl) (fun _ _ _ h=>h) (fun M L=>by kernel_rfl) d ?_;refine fL 14 (em f.m) rfl (by kernel_rfl) (fun _ _ _ h=>h) (fun M L=>by obtain ⟨b3,D,b6,fX,bw,s5,s6,bJ,bk,bm,bQ⟩:=L;go_simp) d ?_;refine wpAnyH_ready (rs:=[15]) (by kernel_rfl) (by simp) ?_
            refine AllReadyH.cons rfl (fun c aA=>?_) AllReadyH.nil;go_simp
            go_wp2_with (go_at_call 146;refine (aq _ (ix Z)).mono ?_;rintro e bd ⟨rfl,bK⟩)
            have bv:=hid (es (ix Z) bK);refine aA.out _ _ (aJ _ bv) (fun d=>?_);clear aA c bK
            (try simp only [Act.put,gD,gE,gH])
            refine fL 16 (.slice bR bY bU) rfl (by kernel_rfl) (fun _ _ _ h=>h) (fun M L=>by kernel_rfl) d ?_;refine fL 17 (em bY) rfl (by kernel_rfl) (fun _ _ _ h=>h) (fun M L=>by go_simp) d ?_;refine fL 18 (.bool false) rfl (by kernel_rfl) (fun _ _ _ h=>h) (fun M L=>by go_simp) d ?_;refine fL 19 (.bool false) rfl (by kernel_rfl) (fun _ _ _ h=>h) (fun M L=>by go_simp) d ?_;refine wpAnyH_done (by kernel_rfl) ?_ _;clear d;go_simp;go_wp2_with fail;go_meet;exact ⟨by rw [ae.out];rfl,bv⟩
        . have ae:Hid (jw l q R=true):=p.trans (by unfold kI;simp [au])
          have db:(f.kind == 2)=false:=by simp [au]
          clear au az cN fr2 fr3 fr6 fr7 ao;refine wp_region_held_drew (S:=(fun M=>M.cell? (ep wr.heap.size 0)=some (.string q.name)/\M.cell? (ep wr.heap.size 1)=some (.slice E (Ln q.uses) T)/\M.cell? (ep wr.heap.size 2)=some (em q.data)/\M.cell? (ep wr.heap.size 3)=some (.slice (some (ep bj ag)) (Ln q.code) bc)/\M.cell? (ep wr.heap.size 4)=some (.slice (some (ep ch fo)) (Ln q.fixes) b9)/\M.cell? (ep wr.heap.size 5)=some (.slice al (Ln q.entries) b7)/\M.cell? (ep wr.heap.size 6)=some (em q.main)/\M.cell? (ep S.heap.size 0)=some (em y)/\M.cell? (ep S.heap.size 1)=some (em f.kind)/\M.cell? (ep S.heap.size 2)=some (em f.m)/\M.cell? ⟨bj,ag+y*3+1,none⟩=some (em A))) (by kernel_rfl) (aJ _ (ix Z)) (fun d=>?_);refine fL 0 (eL S.heap.size 1) rfl (by kernel_rfl) (fun _ _ _ h=>h) (fun M L=>by kernel_rfl) d ?_;refine fL 1 (em f.kind) rfl (by kernel_rfl) (fun _ _ _ h=>h) (fun M L=>by obtain ⟨b3,D,b6,fX,bw,s5,s6,bJ,bk,bm,bQ⟩:=L;go_simp) d ?_
          refine fL 2 (.bool false) rfl (by kernel_rfl) (fun _ _ _ h=>h) (fun M L=>by go_simp) d ?_;refine fL 3 (.bool false) rfl (by kernel_rfl) (fun _ _ _ h=>h) (fun M L=>by kernel_rfl) d ?_;refine kH 4 rfl (by kernel_rfl) (fun _ _ _ h=>h) d ?_;refine kH 5 rfl (by kernel_rfl) (fun _ _ _ h=>h) d ?_;refine kH 6 rfl (by kernel_rfl) (fun _ _ _ h=>h) d ?_;refine kH 7 rfl (by kernel_rfl) (fun _ _ _ h=>h) d ?_;refine kH 8 rfl (by kernel_rfl) (fun _ _ _ h=>h) d ?_;refine kH 9 rfl (by kernel_rfl) (fun _ _ _ h=>h) d ?_;refine kH 10 rfl (by kernel_rfl) (fun _ _ _ h=>h) d ?_;refine kH 11 rfl (by kernel_rfl) (fun _ _ _ h=>h) d ?_;refine kH 12 rfl (by kernel_rfl) (fun _ _ _ h=>h) d ?_;refine kH 13 rfl (by kernel_rfl) (fun _ _ _ h=>h) d ?_;refine kH 14 rfl (by kernel_rfl) (fun _ _ _ h=>h) d ?_
          refine kH 15 rfl (by kernel_rfl) (fun _ _ _ h=>h) d ?_;refine kH 16 rfl (by kernel_rfl) (fun _ _ _ h=>h) d ?_;refine kH 17 rfl (by kernel_rfl) (fun _ _ _ h=>h) d ?_;refine kH 18 rfl (by kernel_rfl) (fun _ _ _ h=>h) d ?_;refine fL 19 (.bool false) rfl (by kernel_rfl) (fun _ _ _ h=>h) (fun M L=>by kernel_rfl) d ?_;refine wpAnyH_done (by kernel_rfl) ?_ _;clear d;go_simp;have bv:=hid (ix Z);go_wp2_with fail;go_meet;exact ⟨by rw [ae.out];rfl,bv⟩
       case rest=>
        obtain ⟨rfl,hbc⟩:=hcut;have bv:=hbc;have co:=hbc.out.size;clear aq aJ cp cj aI ak A hbc
        cases a7:jw l q R with
        | false=>
          have ae:Hid (O=false):=z.trans (lu (i:=j) a0 (n.trans (lu (i:=R) bX a7)));clear a7;go_wp2_with fail;go_ret;exact ⟨ret_bool ae.symm,es bZ bv⟩
        | true=>
          have ae:=hid a7;clear a7;go_wp2_with fail;go_roundw
          case rel=>exact ⟨R+1,by omega,by go_num,lw b2 ae,(es aM (es (by rw [aN.out];exact ey _ _) bv))⟩
          case measure=>simp [intOf];omega
     . obtain rfl:R=Ln q.fixes:=by omega
       have P:Hid (mc l j=true):=n.trans (iO.2 b2);clear s aB a2;go_wp2_with fail;go_roundw
       case rel=>exact ⟨j+1,by omega,by go_num,lw ar P,a8⟩
       case measure=>simp [intOf];omega
  . obtain rfl:j=Ln l:=by omega
    have P:Hid (O=true):=z.trans (iO.2 ar);go_wp2_with fail;go_ret;exact ⟨ret_bool P.symm,ad⟩
end Go.Proofs.YtndkhgakfodldaaGreatDoor
