import Derived.Test.YtndkhgakfodldaaGreatDoorJf
import Derived.Sort.KeysCollected
namespace Go.Proofs.YtndkhgakfodldaaGreatDoor
set_option maxRecDepth 100000
open Go.RowKit Go.Maps Go.Sort Go.WideMaps
set_option linter.unusedSimpArgs false
set_option linter.unusedVariables false
theorem jl{P:Prop}(h:P:=by
 refine wpAnyH_done ah ?_ _;clear A4;go_simp;go_wp2_with fail;go_meet;exact ⟨bw,B7⟩):P:=h
structure OsAt (w:World) (a:OA) (l:List Ob) (ev:Nat->Value):Prop where
 bound:l.length<=17592186044416
 get:∀ i (h:i<l.length),∃ b off x1 y1 x3 y3 x4 y4 x5 y5,a=some (qa b off)/\b<w.heap.size/\w.cell? ⟨b,off+i*7,none⟩=some (.string l[i].name)/\w.cell? ⟨b,off+i*7+1,none⟩=some (.slice x1 l[i].uses.length y1)/\w.cell? ⟨b,off+i*7+2,none⟩=some (qi l[i].data)/\w.cell? ⟨b,off+i*7+3,none⟩=some (.slice x3 l[i].code.length y3)/\w.cell? ⟨b,off+i*7+4,none⟩=some (.slice x4 l[i].fixes.length y4)/\w.cell? ⟨b,off+i*7+5,none⟩=some (.slice x5 l[i].entries.length y5)/\w.cell? ⟨b,off+i*7+6,none⟩=some (qi l[i].main)/\
  OvAt w l[i] x1 x3 x4 x5/\l[i].uses.length<=y1/\ev i = .slice x5 l[i].entries.length y5
theorem OsAt.later {w w':World} {a:OA} {l:List Ob} {ev:Nat->Value} (h:OsAt w a l ev) (hb:qb w w'):OsAt w' a l ev:=⟨h.bound,fun i hi=>by
 obtain ⟨b,off,x1,y1,x3,y3,x4,y4,x5,y5,ha,hl,c0,c1,c2,c3,c4,c5,c6,ho,hc,he⟩:=h.get i hi;have hz:=hb.size
 exact ⟨b,off,x1,y1,x3,y3,x4,y4,x5,y5,ha,ae,(hb.cell (p:=(qa b _)) hl).trans c0,(hb.cell (p:=(qa b _)) hl).trans c1,(hb.cell (p:=(qa b _)) hl).trans c2,(hb.cell (p:=(qa b _)) hl).trans c3,(hb.cell (p:=(qa b _)) hl).trans c4,(hb.cell (p:=(qa b _)) hl).trans c5,(hb.cell (p:=(qa b _)) hl).trans c6,ho.later hb,hc,he⟩⟩
def cdL (l:List Ob):Int:=(l.map (fun o=>(o.code.length:Int))).sum
def dtL (l:List Ob):Int:=(l.map Ob.data).sum
theorem zkk {l:List Ob} {j:Nat} (h:j<l.length):cdL (l.take (j+1))=cdL (l.take j)+l[j].code.length:=by
 unfold cdL;rw [vag h,vbw,List.sum_append];simp
theorem zkl {l:List Ob} {j:Nat} (h:j<l.length):dtL (l.take (j+1))=dtL (l.take j)+l[j].data:=by
 unfold dtL;rw [vag h,vbw,List.sum_append];simp
def z7y (l:List Ob):Prop:=l.length<=4/\∀ o ∈ l,1<=o.code.length/\o.code.length<=2048/\0<=o.data/\o.data<=512
theorem zfd {l:List Ob} (h:z7y l):∀ j,j<=l.length->0<=cdL (l.take j)/\cdL (l.take j)<=2048*j/\0<=dtL (l.take j)/\dtL (l.take j)<=512*j
 | 0,_=>by simp [cdL,dtL]
 | j+1,hj=>by
   have ih:=zfd h j ae;have:=h.2 l[j] (vah ae);rw [zkk ae,zkl ae];omega
def nmO (l:List Ob):List (L8):=l.map (fun o=>o.name.data.toList)
theorem zou (l:List Ob):(nmO l).length=l.length:=by simp [nmO]
theorem z19 {l:List Ob} {j:Nat} (h:j<l.length):nmO (l.take (j+1))=nmO (l.take j)++[l[j].name.data.toList]:=by
 unfold nmO;rw [vag h,vbw]
 rfl
def pv (l:List Ob) (ev:Nat->Value) (i:Nat):Value:=.agg #[qi i,qi ((l.length:Int)+1+cdL (l.take i)),qi (dtL (l.take i)),ev i]
def pv0:Value:=.agg #[qi 0,qi 0,qi 0,qs]
def lkO (l:List Ob) (a:L8):Nat->Option Nat
 | 0=>none
 | j+1=>match l[j]? with
   | some o=>if o.name.data.toList=a then some j else lkO l a j
   | none=>lkO l a j
theorem zov {l:List Ob} {j:Nat} (h:j<l.length) (a:L8):lkO l a (j+1)=if l[j].name.data.toList=a then some j else lkO l a j:=by
 rw [lkO,vad h]
theorem zsi {l:List Ob} (a:L8):∀ j,j<=l.length->(lkO l a j).isSome=(nmO (l.take j)).contains a
 | 0,_=>by simp [lkO,nmO]
 | j + 1,hj=>by
   rw [zov ae,z19 ae]
   by_cases e:l[j].name.data.toList=a
   . rw [if_pos e];simp [e]
   . rw [if_neg e,zsi a j ae]
     have e':¬ a=l[j].name.data.toList:=fun h=>e h.symm
     simp [e']
theorem zqo {l:List Ob} (a:L8):∀ j i,j<=l.length->lkO l a j=some i->i<j/\∃ h:i<l.length,l[i].name.data.toList=a
 | 0,i,_,h=>by simp [lkO] at h
 | j + 1,i,hj,h=>by
   rw [zov ae] at h
   by_cases e:l[j].name.data.toList=a
   . rw [if_pos e] at h
     obtain rfl:j=i:=vab h;exact ⟨ae,ae,e⟩
   . rw [if_neg e] at h
     obtain ⟨h1,h2⟩:=zqo a j i ae h;exact ⟨ae,h2⟩
theorem zuu:Keyed Tryz.prog 9:=string_keyed Tryz.underlying9
theorem z4w (w:World):(zeroValue 227).run Tryz.prog w = .ok pv0 w:=ah
def zkm (w:World) (b:Nat) (l:List Ob) (ev:Nat->Value) (j:Nat):Prop:=∃ (n:Nat) (D:DataW Value),n<=j/\w.ownsMap Tryz.prog 9 zrh b n D/\∀ a,has D (.string a)=(lkO l a j).isSome/\D.atKey (.string a) (.held pv0) = .held ((lkO l a j).elim pv0 (pv l ev))
section
variable {w w':World} {b:Nat} {l:List Ob} {ev:Nat->Value} {j:Nat}
theorem zkm.lt (h:zkm w b l ev j):b<w.heap.size:=by obtain ⟨n,D,_,h1,_⟩:=h;exact h1.lt
theorem zkm.later (h:zkm w b l ev j) (hb:qb w w'):zkm w' b l ev j:=by
 obtain ⟨n,D,h0,h1,h2⟩:=h;have A0:=h1.lt;obtain ⟨es,clock,B6,r⟩:=h1;exact ⟨n,D,h0,⟨es,clock,(hb.block b A0).trans B6,r⟩,h2⟩
theorem zkm.made (w:World) (l:List Ob) (ev:Nat->Value):zkm (w.alloc (.map #[] 0)) w.heap.size l ev 0:=⟨0,.map [],vaa _,vev w _ _ _,fun _=>⟨rfl,rfl⟩⟩
theorem zkm.put (h:zkm w b l ev j) (hj:j<l.length) (h4:l.length<=4) (hs:l[j].name.size<=maxLen) :
 ∃ w',(Instr.mapUpdate 157 (.map (some b)) (.string l[j].name) (pv l ev j)).run Tryz.prog w = .ok () w'/\zkm w' b l ev (j+1)/\w.grownBy w' (some b):=by
 obtain ⟨n,D,h0,h1,h2⟩:=h;obtain ⟨w',r1,r2,r3⟩:=h1.update zuu Tryz.underlying157 aP (keyOf_string_mk Tryz.underlying9 hs) (val:=pv l ev j) (d:=.held (pv l ev j)) (ps:=[]) rfl;refine ⟨w',r1,⟨n+1,_,ae,r2,fun a=>?_⟩,r3⟩;rw [zov hj]
 by_cases e:l[j].name.data.toList=a
 . subst e
   rw [if_pos rfl];exact ⟨has_put_same (k:=.string l[j].name.data.toList) h1.isMap trivial _,atKey_put_same (k:=.string l[j].name.data.toList) h1.isMap trivial _ _⟩
 . have Ai:Lit.string a≠.string l[j].name.data.toList:=fun h=>e (by injection h with h;exact h.symm)
   rw [if_neg e,has_put_other Ai,atKey_put_other Ai];exact h2 a
theorem zkm.look (h:zkm w b l ev j) {s:ByteArray} (hs:s.size<=maxLen) :
 (Instr.lookup 157 (.map (some b)) (.string s) false).run Tryz.prog w = .ok ((lkO l s.data.toList j).elim pv0 (pv l ev)) w:=by
 obtain ⟨n,D,h0,h1,h2⟩:=h;obtain ⟨v,ps,hrun,hv⟩:=h1.lookup zuu Tryz.underlying157 (z4w w) (zd:=.held pv0) (zp:=[]) rfl (keyOf_string_mk Tryz.underlying9 hs);rw [(h2 _).2] at hv;simp only [zrh,vbf,vdd,vdb] at hv;rw [hrun,hv.1]
theorem zkm.look_ok (h:zkm w b l ev j) {s:ByteArray} (hs:s.size<=maxLen) :
 (Instr.lookup 157 (.map (some b)) (.string s) true).run Tryz.prog w = .ok (.tuple #[(lkO l s.data.toList j).elim pv0 (pv l ev),.bool (lkO l s.data.toList j).isSome]) w:=by
 obtain ⟨n,D,h0,h1,h2⟩:=h;obtain ⟨v,ps,hrun,hv⟩:=h1.look_ok zuu Tryz.underlying157 (z4w w) (zd:=.held pv0) (zp:=[]) rfl (keyOf_string_mk Tryz.underlying9 hs);rw [(h2 _).2] at hv;simp only [zrh,vbf,vdd,vdb] at hv;rw [hrun,hv.1,(h2 _).1]
end
theorem zyh:∀ (ks l:List (L8)),ks.Nodup->(∀ a ∈ ks,a ∈ l)->ks.length<=l.length
 | [],_,_,_=>vaf _
 | x :: ks,l,nd,h=>by
   obtain ⟨h1,h2⟩:=vdr.1 nd;have hx:=h x aA;have:=zyh ks (l.erase x) h2 (fun a ha=>(List.mem_erase_of_ne (fun e:a=x=>h1 (by rw [← e];exact ha))).2 (h a (by simp [ha])));rw [List.length_erase_of_mem hx] at this;have hp:0<l.length:=List.length_pos_of_mem hx
   simp;omega
theorem z7z:∀ (l:List (L8)),∃ ks:List (L8),ks.Nodup/\(∀ a,a ∈ ks↔a ∈ l)/\(¬ l.Nodup->ks.length<l.length)
 | []=>⟨[],aA,aA,aA⟩
 | x :: l=>by
   obtain ⟨ks,h1,h2,h3⟩:=z7z l;have Ev:=zyh ks l h1 (fun a ha=>(h2 a).1 ha)
   by_cases hx:x ∈ l
   . refine ⟨ks,h1,fun a=>?_,fun _=>aF⟩
     rw [h2,vby];exact ⟨Or.inr,fun h=>h.elim (fun e=>e ▸ hx) id⟩
   . refine ⟨x :: ks,vdr.2 ⟨fun h=>hx ((h2 x).1 h),h1⟩,fun a=>dU,fun hn=>?_⟩
     have:=h3 (fun h=>hn (vdr.2 ⟨hx,h⟩))
     simp;omega
theorem zne {w:World} {H:Type} {R:Value->Option (DataW H × List MemPlace)} {b n:Nat} {D:DataW H} (h:w.ownsMap Tryz.prog 9 R b n D) {l:List (L8)} (hl:l.Nodup) (hm:∀ a,has D (.string a)=l.contains a):l.Perm (strKeys D):=
 Collected.perm (left:=fun _=>false) ⟨hl,fun x=>by rw [hm x];simp⟩ h zuu Tryz.underlying9 (fun _=>rfl)
theorem znf {H:Type} (D:DataW H) (h:IsMap D):Maps.size D=(strKeys D).length:=by obtain ⟨es,rfl⟩:=h;simp [Maps.size,strKeys]
theorem zkm.len {w:World} {b:Nat} {l:List Ob} {ev:Nat->Value} (h:zkm w b l ev l.length) :
 ∃ m:Nat,(∀ ty,(Builtin.len_ #[157] ty #[.map (some b)]).run Tryz.prog w = .ok (qi m) w)/\((nmO l).Nodup->m=l.length)/\(¬ (nmO l).Nodup->m<l.length):=by
 obtain ⟨n,D,h0,h1,h2⟩:=h
 have hm:∀ a,has D (.string a)=(nmO l).contains a:=fun a=>by rw [(h2 a).1,zsi a _ (vaa _),vau]
 refine ⟨Maps.size D,fun ty=>h1.len Tryz.underlying157 ty,fun hn=>?_,fun hn=>?_⟩
 . rw [znf D h1.isMap,← (zne h1 hn hm).length_eq,zou]
 . obtain ⟨ks,k1,k2,k3⟩:=z7z (nmO l)
   have hp:=zne h1 k1 (fun a=>by rw [hm,vci];simp [k2]);rw [znf D h1.isMap,← hp.length_eq,← zou l];exact k3 hn
set_option maxHeartbeats 6400000
theorem z1w {x:Int} (h1 : -1000000000<=x) (h2:x<=1000000000):IntKind.i64.wrap x=x:=aK
abbrev obC (x:Ob) (x1:OA) (y1:Nat) (x3:OA) (y3:Nat) (x4:OA) (y4:Nat) (x5:OA) (y5:Nat):Obj:=kzD x.name x1 x.uses.length y1 x.data x3 x.code.length y3 x4 x.fixes.length y4 x5 x.entries.length y5 x.main
theorem zjq (l:List Ob) (ev:Nat->Value) (a:OA) (cap:Nat) (w:World) (hO:OsAt w a l ev) (hN:z7y l) :
 qc 102 #[.slice a l.length cap] w fun e w'=>∃ b,e = .returned (.map (some b))/\zkm w' b l ev l.length/\qb w w':=by
 have Bz:=hO.bound;have h4:=hN.1;have HO:=hid hO;have HN:=hid hN;have HF:=hid (zfd hN);have I6:=@run_makeMap Tryz.prog;have HM:=hid (zkm.made w l ev);have ER:IntKind.i64.wrap ((l.length:Int)+1)=l.length+1:=z1w ae ae;clear hO hN;go_enter Tryz.func102,Tryz.ntmps102;go_wp2_with fail;clear ER
 go_loopw [4,5,6,7,14] (fun c d _ _ i wr=>∃ (j:Nat) (cj dj:Int),j<=l.length/\i=qi j/\c=qi cj/\d=qi dj/\cj=(l.length:Int)+1+cdL (l.take j)/\dj=dtL (l.take j)/\zkm wr w.heap.size l ev j/\qb w wr) (fun _ _ _ _ i _=>l.length - (intOf i).toNat)
 case atStart=>exact ⟨0,_,_,vaf _,rfl,rfl,rfl,by simp [cdL],by simp [dtL],HM.out,al1 _ _⟩
 case round=>
  clear HM;obtain ⟨j,cj,dj,hj,rfl,rfl,rfl,hc,hd,hP,hb⟩:=hrel;have HC:=hid hc;have HD:=hid hd;have PL:=HF.out j hj;rw [← hd] at PL
  have G0:0<=cj/\cj<=10000:=ae
  have Ug:0<=dj/\dj<=10000:=ae
  clear hc hd PL
  by_cases A0:j<l.length
  . obtain ⟨b,off,x1,y1,x3,y3,x4,y4,x5,y5,rfl,Bd,c0,c1,c2,c3,c4,c5,c6,ho,_,he⟩:=(HO.out.later hb).get j A0
    obtain ⟨CJ,Ch,Cj,DE⟩:=HN.out.2 l[j] (vah A0);obtain ⟨w2,hrun,Kx,Eb⟩:=(hP.later (al1 wr (obC l[j] x1 y1 x3 y3 x4 y4 x5 y5))).put A0 h4 ho.wn;have G1:=hid (zkk A0);have SV:=hid (zkl A0);unfold pv at hrun;rw [he,← HC.out,← HD.out] at hrun;have Ab:qb w w2:=(thenB hb (al1 _ _)).grown Eb (by have:=hb.size;simp;omega) (fun k hk=>by cases hk;exact vaa _);have BQ:=hid Kx;have I3:w2.heap[wr.heap.size]? = some (obC l[j] x1 y1 x3 y3 x4 y4 x5 y5):=(Eb.block wr.heap.size aA (by simp;have:=hP.lt;omega)).trans (heap_newP wr _);clear hP Kx Eb he ho;generalize l[j]=x at *;obtain ⟨z0,z1,z2,z3,z4,z5,z6,_⟩:=zam I3;have J9:=lt_of_heap I3;have Cw:IntKind.i64.wrap (cj+x.code.length)=cj+x.code.length:=z1w ae ae;have BW:IntKind.i64.wrap (dj+x.data)=dj+x.data:=z1w ae ae
    clear I3;go_wp2_with fail;go_roundw
    case rel=>exact ⟨j+1,_,_,ae,aR,rfl,rfl,by rw [HC.out,G1.out];omega,by rw [HD.out,SV.out],BQ.out,Ab⟩
    case measure=>simp [intOf];omega
  . obtain rfl:j=l.length:=by omega
    have HP:=hid hP;clear hP;go_wp2_with fail;go_ret;exact ⟨_,rfl,HP.out,hb⟩
def ze2 (l:List Ob) (i:Nat) (u:ByteArray):Bool:=match lkO l u.data.toList l.length with | some k=>decide (k<i) | none=>false
def ze3 (l:List Ob) (i:Nat):Bool:=match l[i]? with | some o=>o.uses.all (ze2 l i) | none=>true
def zhi (l:List Ob):Bool:=zfv l.length (ze3 l)
theorem zyi {α:Type} (q:α->Bool) {l:List α} {j:Nat} (h:j<l.length):(l.take (j+1)).all q=((l.take j).all q&&q l[j]):=by
 rw [vag h,vbp];simp
theorem z5p {α:Type} (q:α->Bool) {l:List α} {j:Nat} (h:j<l.length) (hq:q l[j]=false):l.all q=false:=by
 rw [vcs];exact ⟨l[j],vah h,by simp [hq]⟩
theorem zsj (l:List Ob) (ev:Nat->Value) (a:OA) (cap pb:Nat) (w:World) (hO:OsAt w a l ev) (h4:l.length<=4) (hP:zkm w pb l ev l.length) :
 qc 106 #[.map (some pb),.slice a l.length cap] w fun e w'=>e = .returned (.bool (zhi l))/\qb w w':=by
 have Bz:=hO.bound;have HO:=hid hO;have HP:=hid hP;clear hO hP
 obtain ⟨r,hr⟩:∃ r,r=zhi l:=⟨_,rfl⟩
 rw [← hr];have HR:=hid hr;clear hr;go_enter Tryz.func106,Tryz.ntmps106;go_wp2_with fail
 go_loopw [5,6,8,9,10,13] (fun _ _ _ _ _ i wr=>∃ j:Nat,j<=l.length/\i=qi j/\(∀ k,k<j->ze3 l k=true)/\qb w wr) (fun _ _ _ _ _ i _=>l.length - (intOf i).toNat)
 case atStart=>exact ⟨0,vaf _,rfl,fun k h=>absurd h (vbe _),Below.refl _ _⟩
 case round=>
  obtain ⟨j,hj,rfl,A7,hb⟩:=hrel;have HA:=hid A7;have HB:=hid hb;clear A7
  by_cases A0:j<l.length
  . obtain ⟨b,off,x1,y1,x3,y3,x4,y4,x5,y5,rfl,Bd,c0,c1,c2,c3,c4,c5,c6,ho,_,_⟩:=(HO.out.later hb).get j A0
    have F4:Hid (ze3 l j=l[j].uses.all (ze2 l j)):=by show ze3 l j=_;unfold ze3;rw [vad A0]
    have HU:=hid ho.uses;have FO:=ho.uses.bound;clear hb ho;generalize l[j]=x at *;go_wp2_with fail;clear c0 c1 c2 c3 c4 c5 c6 Bd
    go_loopw [8,9,10,21] (fun _ _ _ i AV=>∃ q:Nat,q<=x.uses.length/\i=qi q/\(x.uses.take q).all (ze2 l j)=true/\qb wr AV) (fun _ _ _ i _=>x.uses.length - (intOf i).toNat)
    case atStart=>exact ⟨0,vaf _,rfl,rfl,al1 _ _⟩
    case round=>
     obtain ⟨q,hq,rfl,hallu,Ab⟩:=hrel;have HQ:=hid hallu;have Ad:=hid Ab;have Bv:=hid (thenB HB.out Ab);clear hallu
     by_cases CI:q<x.uses.length
     . obtain ⟨ub,uo,rfl,JS,huc,GS⟩:=(HU.out.later Ab).str q CI
       have Br:=((HP.out.later Bv.out)).look_ok GS;have C3:=hid (zyi (ze2 l j) CI);have GH:=hid (fun h=>z5p (ze2 l j) CI h);clear Ab
       have Jl:∀ k,lkO l x.uses[q].data.toList l.length=some k->k<l.length:=fun k h=>(zqo _ _ _ (vaa _) h).1
       have JG:Hid (ze2 l j x.uses[q]=match lkO l x.uses[q].data.toList l.length with | some k=>decide (k<j) | none=>false):=rfl;generalize x.uses[q]=u at *;generalize lkO l u.data.toList l.length=o at *
       cases o with
       | none=>
         have HF:Hid (r=false):=HR.out.trans (za5 (i:=j) ae (F4.out.trans (GH.out JG.out)));simp only [Option.elim,Option.isSome,pv0] at Br;clear Jl;exact i6
       | some k=>
         have hk:=Jl k rfl;obtain ⟨_,_,_,_,_,_,_,_,xk,yk,_,_,_,_,_,_,_,_,_,_,_,hek⟩:=HO.out.get k hk;simp only [Option.elim,Option.isSome,pv] at Br;rw [hek] at Br;clear Jl hek
         by_cases PC:k<j
         . have HT:Hid ((x.uses.take (q+1)).all (ze2 l j)=true):=C3.out.trans (by rw [HQ.out,JG.out];simp [PC])
           have LP:¬ (j:Int)<=k:=ae
           go_wp2_with fail;go_roundw
           case rel=>exact ⟨q+1,ae,aR,HT.out,Ad.out.alloc (by have:=Ad.out.size;omega) _⟩
           case measure=>simp [intOf];omega
         . have HF:Hid (r=false):=HR.out.trans (za5 (i:=j) ae (F4.out.trans (GH.out (JG.out.trans (decide_eq_false PC)))))
           have LP:(j:Int)<=k:=ae
           exact i6
     . obtain rfl:q=x.uses.length:=by omega
       have HT:Hid (ze3 l j=true):=F4.out.trans (by have:=HQ.out;rw [vau] at this;exact this);clear Ab;exact gv
  . exact ir
set_option maxHeartbeats 3200000
theorem tkl {P:Program} {ops:Array Oper} {Q:Exit->Act->World->Prop} {md:Region.Mode} {S:World->Prop} (i:Nat) {oi:Oper} (v:Value) {AB:Nat} {Ar:Array Bool} {a:Act} {w:World} (hi:ops[i]? = some oi)
 (hc:(Region.noSelect ops&&(Region.free md ops Ar i&&((Region.ready md ops Ar).contains i&&Region.wanted oi (yielded ops a.tmps))))=true)
 (hQ:∀ c a w,Q (.panic c) (a.put oi.dst v) w->Q (.panic c) a w) (hy:∀ w,S w->(execOp a.eval oi).run P w = .ok (.value v) w) (hS:S w)
 (h:wpAnyH P md ops Q S AB (Ar.setIfInBounds i true) (a.put oi.dst v) w):wpAnyH P md ops Q S (AB+1) Ar a w:=by
 simp only [vac] at hc;exact wpAnyH_take hi hc.1 hc.2.1 hc.2.2.1 hQ (Or.inl ⟨hc.2.2.2,hy⟩) hS h
abbrev z9u:Obj:=.cells #[qi 0,qi 0,qi 0,qs] 227
abbrev plV (l:List Ob) (k:Nat) (xk:OA) (nk yk:Nat):Value:=.agg #[qi k,qi ((l.length:Int)+1+cdL (l.take k)),qi (dtL (l.take k)),.slice xk nk yk]
abbrev obV (o:Ob) (x1:OA) (y1:Nat) (x3:OA) (y3:Nat) (x4:OA) (y4:Nat) (x5:OA) (y5:Nat):Value:=.agg #[.string o.name,.slice x1 o.uses.length y1,qi o.data,.slice x3 o.code.length y3,.slice x4 o.fixes.length y4,.slice x5 o.entries.length y5,qi o.main]
theorem zkn (w:World):qb w w.drew:=(Below.refl _ _).drew
theorem zyj {w:World} {b:Nat} {x0 x1 x2 x3:Value} {t:TypeId} (h:w.heap[b]? = some (.cells #[x0,x1,x2,x3] t (0,0))) :
 w.cell? (qa b 0)=some x0/\w.cell? (qa b 1)=some x1/\w.cell? (qa b 2)=some x2/\w.cell? (qa b 3)=some x3/\∀ i,w.frozen? (qa b i)=false:=by
 refine ⟨?_,?_,?_,?_,fun i=>veq h i⟩<;>(rw [vep h];rfl)
def z4x (o:Ob) (m:Int) (s:ByteArray):Prop:=(m=0/\s=o.name)\/∃ i:Nat,m=(i:Int)+1/\∃ h:i<o.uses.length,o.uses[i]=s
theorem zjr (l:List Ob) (ev:Nat->Value) (pb:Nat) (w:World) (hP:zkm w pb l ev l.length) (o:Ob) (x1:OA) (y1:Nat) (x3:OA) (y3:Nat) (x4:OA) (y4:Nat) (x5:OA) (y5:Nat) (ho:OvAt w o x1 x3 x4 x5) (m:Int) (s:ByteArray) (hs:z4x o m s) (k:Nat) (hk:lkO l s.data.toList l.length=some k) (xk:OA) (nk yk:Nat) (Ih:ev k = .slice xk nk yk) :
 qc 146 #[.map (some pb),obV o x1 y1 x3 y3 x4 y4 x5 y5,qi m] w fun e w'=>e = .returned (plV l k xk nk yk)/\qb w w':=by
 obtain ⟨W,hW⟩:∃ W,W=(w.alloc (obC o x1 y1 x3 y3 x4 y4 x5 y5)).alloc z9u:=⟨_,rfl⟩
 have hb:qb w W:=by rw [hW];exact bl2 _ _ _
 have CL:W.heap[w.heap.size]? = some (obC o x1 y1 x3 y3 x4 y4 x5 y5):=by rw [hW];exact zab (heap_newP w _)
 have Bk:W.heap[w.heap.size+1]? = some z9u:=by rw [hW];simpa using heap_newP (w.alloc (obC o x1 y1 x3 y3 x4 y4 x5 y5)) z9u
 have HP:=hid (hP.later hb);have HU:=hid (ho.uses.later hb);have FO:=ho.uses.bound;have MN:=ho.wn;obtain ⟨z0,z1,z2,z3,z4,z5,z6,_⟩:=zam CL;obtain ⟨r0,r1,r2,r3,rf⟩:=zyj Bk;have Bt:=lt_of_heap CL;have CJ:=lt_of_heap Bk;clear hP ho hb CL Bk;subst hW
 rcases hs with ⟨rfl,rfl⟩ | ⟨i,rfl,hi,rfl⟩
 . have Br:=HP.out.look MN
   rw [hk] at Br;simp only [Option.elim,pv] at Br;rw [Ih] at Br;clear hk Ih;exact ie
 . obtain ⟨ub,uo,rfl,JS,huc,GS⟩:=HU.out.str i hi
   have Br:=HP.out.look GS;rw [hk] at Br;simp only [Option.elim,pv] at Br;rw [Ih] at Br
   have Cw:IntKind.i64.wrap ((i:Int)+1 - 1)=i:=aK
   have Rt:¬ ((i:Int)+1=0):=ae
   clear hk Ih;generalize o.uses[i]=u at *;exact ie
def fixV (kind a c d:Int) (Bf:List Int):Int:=if kind=2 then c+Bf.getD a.toNat 0 else if kind=3 then d+a else c+a
theorem DAt.entI {w:World} {A:Nat->Prop} {a:OA} {l:List Int} (h:DAt w A a l.length (zgf l)) (i:Nat) (hi:i<l.length):∃ b off,a=some (qa b off)/\b<w.heap.size/\w.cell? ⟨b,off+i,none⟩=some (qi l[i]):=by
 obtain ⟨b,off,ha,hb,hc⟩:=h.cell ae;obtain ⟨v,hv,hd⟩:=hc i (.int l[i]) (by simp [zgf,hi]);obtain ⟨rfl,_⟩:=za4 hd;exact ⟨b,off,ha,hb,hv⟩
theorem zyk (n c d kind a:Int) (Bf:List Int) (xk:OA) (yk:Nat) (w:World) (hE:DAt w Tt xk Bf.length (zgf Bf)) (hc:0<=c/\c<=10000) (hd:0<=d/\d<=10000) (ha:0<=a/\a<=2048) (h2:kind=2->a<Bf.length) (LS:∀ x ∈ Bf,0<=x/\x<=2048) :
 qc 147 #[.agg #[qi n,qi c,qi d,.slice xk Bf.length yk],qi kind,qi a] w fun e w'=>e = .returned (qi (fixV kind a c d Bf))/\qb w w':=by
 have PS:=hE.bound;obtain ⟨c1,c2⟩:=hc;obtain ⟨d1,d2⟩:=hd;obtain ⟨a1,a2⟩:=ha
 by_cases k2:kind=2
 . subst k2
   have hl:=h2 rfl
   obtain ⟨i,rfl⟩:∃ i:Nat,a=i:=⟨a.toNat,ae⟩
   have hi:i<Bf.length:=ae
   have HV:Hid (fixV 2 i c d Bf=c+Bf[i]):=by show fixV 2 i c d Bf=_;unfold fixV;rw [if_pos rfl,vbq,vax,vad hi];rfl
   have hx:=LS Bf[i] (vah hi);obtain ⟨eb,eo,rfl,EW,PN⟩:=(hE.later (al1 w (.cells #[qi n,qi c,qi d,.slice xk Bf.length yk] 227))).entI i hi;have Cw:IntKind.i64.wrap (c+Bf[i])=c+Bf[i]:=z1w ae ae;clear hE LS h2;generalize Bf[i]=x at *;go_enter Tryz.func147,Tryz.ntmps147;go_wp2_with fail
   (try go_quiet ((fail)))
   go_wp2_with fail;go_ret;exact ⟨ret_int HV.out.symm,(by first | exact al1 _ _ | exact (al1 _ _).drew | exact below_drewN (al1 _ _) _)⟩
 . have b2:(kind == 2)=false:=by simp [k2]
   by_cases k3:kind=3
   . subst k3
     have HV:Hid (fixV 3 a c d Bf=d+a):=rfl;have Cw:IntKind.i64.wrap (d+a)=d+a:=z1w ae ae;exact iL
   . have b3:(kind == 3)=false:=by simp [k3]
     have HV:Hid (fixV kind a c d Bf=c+a):=by show fixV kind a c d Bf=_;unfold fixV;rw [if_neg k2,if_neg k3]
     have Cw:IntKind.i64.wrap (c+a)=c+a:=z1w ae ae;exact iL
set_option maxHeartbeats 6400000
theorem zsk {P:Program} {ops:Array Oper} {Q:Exit->Act->World->Prop} {md:Region.Mode} {S:World->Prop} (i:Nat) {oi:Oper} {AB:Nat} {Ar:Array Bool} {a:Act} {w:World} (hi:ops[i]? = some oi)
 (hc:(Region.noSelect ops&&(Region.free md ops Ar i&&((Region.ready md ops Ar).contains i && !(Region.wanted oi (yielded ops a.tmps)))))=true)
 (hQ:∀ c a w,Q (.panic c) (a.put oi.dst undef) w->Q (.panic c) a w) (hS:S w)
 (h:wpAnyH P md ops Q S AB (Ar.setIfInBounds i true) (a.put oi.dst undef) w):wpAnyH P md ops Q S (AB+1) Ar a w:=by
 simp only [vac,vdh] at hc;exact wpAnyH_take hi hc.1 hc.2.1 hc.2.2.1 hQ (Or.inr ⟨hc.2.2.2,rfl⟩) hS h
def zms (o:Ob) (m:Int):ByteArray:=if m=0 then o.name else o.uses.getD (m - 1).toNat ⟨#[]⟩
def modO (l:List Ob) (o:Ob) (m:Int):Nat:=(lkO l (zms o m).data.toList l.length).getD 0
def entsO (l:List Ob) (k:Nat):List Int:=match l[k]? with | some o=>o.entries | none=>[]
def zho (l:List Ob) (o:Ob) (f:Gf):Bool:=!(decide (f.kind=2)&&decide (((entsO l (modO l o f.m)).length:Int)<=aAt o f.at_))
def zc8 (l:List Ob) (o:Ob) (j:Nat):Bool:=match o.fixes[j]? with | some f=>zho l o f | none=>true
def zed (l:List Ob) (i:Nat):Bool:=match l[i]? with | some o=>zfv o.fixes.length (zc8 l o) | none=>true
def zjs (l:List Ob):Bool:=zfv l.length (zed l)
structure FixR (o:Ob) (f:Gf):Prop where
 at0:0<=f.at_
 at1:f.at_<o.code.length
 kind:1<=f.kind/\f.kind<=3
 a0:0<=aAt o f.at_
 a1:aAt o f.at_<=2048
 m0:0<=f.m
 m1:f.m<=o.uses.length
theorem zja {o:Ob} (h:oChk o=0):zgg o=false/\zd8 o=true/\zc6 o=true/\zd9 o=true:=by
 unfold oChk at h
 split at h
 . cases h
 . rename_i h1
   split at h
   . rename_i h2
     simp only [vac] at h2;exact ⟨by simpa using h1,h2.1,h2.2.1,h2.2.2⟩
   . cases h
theorem zgh {o:Ob} (h:oChk o=0) {j:Nat} (hj:j<o.fixes.length):FixR o o.fixes[j]:=by
 obtain ⟨hm,_,_,hf⟩:=zja h;unfold zgg at hm;simp only [vat] at hm;have hc:=of_decide_eq_false hm.2.2.2;have:=zan.1 hf j hj;unfold zgz at this;rw [vad hj] at this;simp only [vac] at this;obtain ⟨_,hp,hb⟩:=this;have hp:=of_decide_eq_true hp;unfold zx5 at hb
 by_cases k1:o.fixes[j].kind=1
 . rw [if_pos k1] at hb
   exact iZ
 . rw [if_neg k1] at hb
   by_cases k2:o.fixes[j].kind=2\/o.fixes[j].kind=3
   . rw [if_pos k2] at hb
     exact iZ
   . rw [if_neg k2] at hb;cases hb
theorem zyl {o:Ob} {m:Int} (h0:0<=m) (h1:m<=o.uses.length):z4x o m (zms o m):=by
 unfold zms
 by_cases hm:m=0
 . rw [if_pos hm];exact Or.inl ⟨hm,rfl⟩
 . rw [if_neg hm]
   refine Or.inr ⟨(m - 1).toNat,ae,ae,?_⟩;rw [vax,vad ae]
   rfl
def z2a (l:List Ob):Prop:=∀ i (h:i<l.length) (m:Int),0<=m->m<=l[i].uses.length->(lkO l (zms l[i] m).data.toList l.length).isSome=true
theorem zko {l:List Ob} (h:z2a l) {i:Nat} (hi:i<l.length) {m:Int} (h0:0<=m) (h1:m<=l[i].uses.length):lkO l (zms l[i] m).data.toList l.length=some (modO l l[i] m)/\modO l l[i] m<l.length:=by
 have:=h i hi m h0 h1;unfold modO
 cases e:lkO l (zms l[i] m).data.toList l.length with
 | none=>rw [e] at this;cases this
 | some k=>exact ⟨rfl,(zqo _ _ _ (vaa _) e).1⟩
theorem zfw {l:List Ob} {k:Nat} (h:k<l.length):entsO l k=l[k].entries:=by unfold entsO;rw [vad h]
theorem zuv {o:Ob} {p:Nat} (h:p<o.code.length):aAt o p=o.code[p].a:=by unfold aAt;rw [vbq,vad h]
theorem zk0 {w:World} {b:Nat} {x0 x1 x2:Value} {t:TypeId} (h:w.heap[b]? = some (.cells #[x0,x1,x2] t (0,0))):w.cell? (qa b 0)=some x0/\w.cell? (qa b 1)=some x1/\w.cell? (qa b 2)=some x2:=by
 refine ⟨?_,?_,?_⟩<;>(rw [vep h];rfl)
theorem zsl (l:List Ob) (ev:Nat->Value) (a:OA) (cap pb:Nat) (w:World) (hO:OsAt w a l ev) (h4:l.length<=4) (hP:zkm w pb l ev l.length) (hR:∀ o ∈ l,oChk o=0) (hF:z2a l) :
 qc 107 #[.map (some pb),.slice a l.length cap] w fun e w'=>e = .returned (.bool (zjs l))/\qb w w':=by
 have Bz:=hO.bound;have HO:=hid hO;have HP:=hid hP;have O9:=hid hR;have Lp:=hid hF;clear hO hP hR hF
 obtain ⟨r,hr⟩:∃ r,r=zjs l:=⟨_,rfl⟩
 rw [← hr];have HR:=hid hr;clear hr;go_enter Tryz.func107,Tryz.ntmps107;go_wp2_with fail
 go_loopw [6,8,11] (fun _ _ i wr=>∃ j:Nat,j<=l.length/\i=qi j/\(∀ k,k<j->zed l k=true)/\qb w wr) (fun _ _ i _=>l.length - (intOf i).toNat)
 case atStart=>exact ⟨0,vaf _,rfl,fun k h=>absurd h (vbe _),Below.refl _ _⟩
 case round =>
  obtain ⟨j,hj,rfl,A7,hb⟩:=hrel;have HA:=hid A7;have HB:=hid hb;clear A7
  by_cases A0:j<l.length
  . obtain ⟨b,off,x1,y1,x3,y3,x4,y4,x5,y5,rfl,Bd,c0,c1,c2,c3,c4,c5,c6,ho, -, -⟩:=(HO.out.later hb).get j A0
    have F4:Hid (zed l j=zfv l[j].fixes.length (zc8 l l[j])):=by show zed l j=_;unfold zed;rw [vad A0]
    have CM:=hid ho;have Nv:=ho.fixes.bound;have EK:=hid (fun (q:Nat) (hq:q<l[j].fixes.length)=>zgh (O9.out l[j] (vah A0)) hq);have F2:=hid (fun (m:Int) (h0:0<=m) (h1:m<=l[j].uses.length)=>zko Lp.out A0 h0 h1);clear hb ho;generalize l[j]=x at *;go_wp2_with fail;clear c0 c1 c2 c3 c4 c5 c6 Bd
    go_loopw [8,18] (fun _ i AV=>∃ q:Nat,q<=x.fixes.length/\i=qi q/\(∀ k,k<q->zc8 l x k=true)/\Below (wr.alloc (obC x x1 y1 x3 y3 x4 y4 x5 y5)).heap.size (wr.alloc (obC x x1 y1 x3 y3 x4 y4 x5 y5)) AV) (fun _ i _=>x.fixes.length - (intOf i).toNat)
    case atStart=>exact ⟨0,vaf _,rfl,fun k h=>absurd h (vbe _),Below.refl _ _⟩
    case round=>
     obtain ⟨AV,rfl⟩:∃ x,x=wr:=⟨_,rfl⟩
     obtain ⟨q,hq,rfl,hallq,Ab⟩:=hrel;have HQ:=hid hallq;have Ad:=hid Ab;have A9:=thenB (al1 wr _) Ab;have Bv:=hid (thenB HB.out A9);have D1:=(Ab.block wr.heap.size aA).trans (heap_newP wr (obC x x1 y1 x3 y3 x4 y4 x5 y5));clear hallq
     by_cases CI:q<x.fixes.length
     . obtain ⟨fb,fo,rfl,hfx⟩:=((CM.out.later A9).fixes).gf q CI
       obtain ⟨Hf,fr2,fr3,fr4,fr5,fr6,fr7⟩:=EK.out q CI;obtain ⟨E6,Bm⟩:=F2.out x.fixes[q].m fr6 fr7
       have GR:Hid (zc8 l x q=zho l x x.fixes[q]):=by show zc8 l x q=_;unfold zc8;rw [vad CI]
       obtain ⟨EU,g0,g1,g2, -, -, -⟩:=hfx;have Ho:=hid (zyl (o:=x) fr6 fr7);have JS:=CM.out.uses.bound;have Ew:=CM.out.code.bound;generalize x.fixes[q]=f at *
       obtain ⟨p,hp⟩:∃ p:Nat,f.at_=p:=⟨f.at_.toNat,ae⟩
       have CV:p<x.code.length:=ae
       obtain ⟨cb,co,rfl,Ey⟩:=((CM.out.later A9).code).gi p CV;obtain ⟨Im, -,i1, -, -, -, -⟩:=Ey
       have G5:Hid (aAt x f.at_=x.code[p].a):=by show aAt x f.at_=_;rw [hp];exact zuv CV
       have MS:(p:Int)<x.code.length:=ae
       rw [G5.out] at fr4 fr5;rw [hp] at g0;generalize x.code[p].a=A at *
       obtain ⟨X,hX⟩:∃ X,X=AV.alloc (.cells #[qi p,qi f.kind,qi f.m] 67):=⟨_,rfl⟩
       have BA:qb AV X:=dq
       have HX:=hid hX
       have BO:X.heap[AV.heap.size]? = some (.cells #[qi p,qi f.kind,qi f.m] 67):=ct
       have AZ:=(BA.block _ (lt_of_heap D1)).trans D1;have Fd:=lt_of_heap AZ;have Fj:=lt_of_heap BO
       have HS:=hid (fun W (hW:qb X W)=>(by
        obtain ⟨e0,e1,e2,e3,e4,e5,e6,_⟩:=zam ((hW.block _ Fd).trans AZ);obtain ⟨q0,q1,q2⟩:=zk0 ((hW.block _ Fj).trans BO)
        exact ⟨e0,e1,e2,e3,e4,e5,e6,q0,q1,q2,(hW.cell (p:=⟨cb,co+p*3+1,none⟩) (by have:=BA.size;show cb<_;omega)).trans ((BA.cell (p:=⟨cb,co+p*3+1,none⟩) Im).trans i1)⟩:W.cell? (qa wr.heap.size 0)=some (.string x.name)/\W.cell? (qa wr.heap.size 1)=some (.slice x1 x.uses.length y1)/\W.cell? (qa wr.heap.size 2)=some (qi x.data)/\W.cell? (qa wr.heap.size 3)=some (.slice (some (qa cb co)) x.code.length y3)/\W.cell? (qa wr.heap.size 4)=some (.slice (some (qa fb fo)) x.fixes.length y4)/\W.cell? (qa wr.heap.size 5)=some (.slice x5 x.entries.length y5)/\W.cell? (qa wr.heap.size 6)=some (qi x.main)/\W.cell? (qa AV.heap.size 0)=some (qi p)/\W.cell? (qa AV.heap.size 1)=some (qi f.kind)/\W.cell? (qa AV.heap.size 2)=some (qi f.m)/\W.cell? ⟨cb,co+p*3+1,none⟩=some (qi A)))
       have CT:=hid (thenB Bv.out BA);obtain ⟨_,_,_,_,_,_,_,_,xk,yk, -, -, -, -, -, -, -, -, -,C6, -,hek⟩:=HO.out.get (modO l x f.m) Bm;have HM:=hid (fun W (hW:qb X W)=>zjr l ev pb W (HP.out.later (thenB CT.out hW)) x x1 y1 (some (qa cb co)) y3 (some (qa fb fo)) y4 x5 y5 ((CM.out.later (thenB (thenB (al1 wr _) Ad.out) BA)).later hW) f.m _ Ho.out _ E6 xk _ yk hek);have Dw:=C6.entries.bound;clear C6 hek;clear BA hX AZ D1 BO Ab A9 i1;go_upto_region 7 with fail;rw [← HX.out]
       go_cut [41] from 20 to 41 (fun v wc=>v = .bool (!(zc8 l x q))/\Hid (qb X wc))
       case first=>
        by_cases k2:f.kind=2
        . generalize K4:l[modO l x f.m].entries.length=nk at *
          have Ci:(entsO l (modO l x f.m)).length=nk:=by rw [zfw Bm];exact K4
          have J1:Hid (zho l x f = !decide ((nk:Int)<=A)):=by show zho l x f=_;unfold zho;rw [G5.out,Ci];simp [k2]
          have JK:(f.kind == 2)=true:=by simp [k2]
          clear K4 Ci E6 k2 hp Hf fr2 fr3 fr6 fr7
          by_cases hA:(nk:Int)<=A
          . have HV:Hid (zc8 l x q=false):=GR.out.trans (J1.out.trans (by simp [hA]))
            refine wp_region_held_drew (S:=(fun W=>W.cell? (qa wr.heap.size 0)=some (.string x.name)/\W.cell? (qa wr.heap.size 1)=some (.slice x1 x.uses.length y1)/\W.cell? (qa wr.heap.size 2)=some (qi x.data)/\W.cell? (qa wr.heap.size 3)=some (.slice (some (qa cb co)) x.code.length y3)/\W.cell? (qa wr.heap.size 4)=some (.slice (some (qa fb fo)) x.fixes.length y4)/\W.cell? (qa wr.heap.size 5)=some (.slice x5 x.entries.length y5)/\W.cell? (qa wr.heap.size 6)=some (qi x.main)/\W.cell? (qa AV.heap.size 0)=some (qi p)/\W.cell? (qa AV.heap.size 1)=some (qi f.kind)/\W.cell? (qa AV.heap.size 2)=some (qi f.m)/\W.cell? ⟨cb,co+p*3+1,none⟩=some (qi A))) ah (HS.out _ (zkn X)) (fun A4=>?_);refine tkl 0 (pq AV.heap.size 1) rfl ah (fun _ _ _ h=>h) (fun W hW=>ah) A4 ?_;refine tkl 1 (qi f.kind) rfl ah (fun _ _ _ h=>h) (fun W hW=>aM) A4 ?_
            refine tkl 2 (.bool true) rfl ah (fun _ _ _ h=>h) (fun W hW=>aY) A4 ?_;refine tkl 3 (.bool true) rfl ah (fun _ _ _ h=>h) (fun W hW=>ah) A4 ?_;refine tkl 4 (pq wr.heap.size 3) rfl ah (fun _ _ _ h=>h) (fun W hW=>ah) A4 ?_;refine tkl 5 (.slice (some (qa cb co)) x.code.length y3) rfl ah (fun _ _ _ h=>h) (fun W hW=>aM) A4 ?_;refine tkl 6 (pq AV.heap.size 0) rfl ah (fun _ _ _ h=>h) (fun W hW=>ah) A4 ?_;refine tkl 7 (qi p) rfl ah (fun _ _ _ h=>h) (fun W hW=>aM) A4 ?_;refine tkl 8 (.pointer (some ⟨cb,co+p*3,none⟩)) rfl ah (fun _ _ _ h=>h) (fun W hW=>aY) A4 ?_;refine tkl 9 (.pointer (some ⟨cb,co+p*3+1,none⟩)) rfl ah (fun _ _ _ h=>h) (fun W hW=>ah) A4 ?_
            refine tkl 10 (qi A) rfl ah (fun _ _ _ h=>h) (fun W hW=>aM) A4 ?_;refine tkl 11 (.map (some pb)) rfl ah (fun _ _ _ h=>h) (fun W hW=>ah) A4 ?_;refine tkl 12 (.agg #[.string x.name,.slice x1 x.uses.length y1,qi x.data,.slice (some (qa cb co)) x.code.length y3,.slice (some (qa fb fo)) x.fixes.length y4,.slice x5 x.entries.length y5,qi x.main]) rfl ah (fun _ _ _ h=>h) (fun W hW=>aM) A4 ?_;refine tkl 13 (pq AV.heap.size 2) rfl ah (fun _ _ _ h=>h) (fun W hW=>ah) A4 ?_;refine tkl 14 (qi f.m) rfl ah (fun _ _ _ h=>h) (fun W hW=>aM) A4 ?_;refine wpAnyH_ready (rs:=[15]) ah aA ?_
            refine AllReadyH.cons rfl (fun Kq hK=>?_) AllReadyH.nil;go_simp
            go_wp2_with (go_at_call 146;refine (HM.out _ (zkn X)).mono ?_;rintro e w9 ⟨rfl,BL⟩)
            have B7:=hid (thenB (zkn X) BL);refine hK.out _ _ (HS.out _ B7.out) (fun A4=>?_);clear hK Kq BL
            (try simp only [Act.put,vae,van,vao])
            refine tkl 16 (.slice xk nk yk) rfl ah (fun _ _ _ h=>h) (fun W hW=>ah) A4 ?_;refine tkl 17 (qi nk) rfl ah (fun _ _ _ h=>h) (fun W hW=>aY) A4 ?_;refine tkl 18 (.bool true) rfl ah (fun _ _ _ h=>h) (fun W hW=>aY) A4 ?_;refine tkl 19 (.bool true) rfl ah (fun _ _ _ h=>h) (fun W hW=>aY) A4 ?_;exact jl
          . have HV:Hid (zc8 l x q=true):=GR.out.trans (J1.out.trans (by simp [hA]))
            have So:A<(nk:Int):=ae
            refine wp_region_held_drew (S:=(fun W=>W.cell? (qa wr.heap.size 0)=some (.string x.name)/\W.cell? (qa wr.heap.size 1)=some (.slice x1 x.uses.length y1)/\W.cell? (qa wr.heap.size 2)=some (qi x.data)/\W.cell? (qa wr.heap.size 3)=some (.slice (some (qa cb co)) x.code.length y3)/\W.cell? (qa wr.heap.size 4)=some (.slice (some (qa fb fo)) x.fixes.length y4)/\W.cell? (qa wr.heap.size 5)=some (.slice x5 x.entries.length y5)/\W.cell? (qa wr.heap.size 6)=some (qi x.main)/\W.cell? (qa AV.heap.size 0)=some (qi p)/\W.cell? (qa AV.heap.size 1)=some (qi f.kind)/\W.cell? (qa AV.heap.size 2)=some (qi f.m)/\W.cell? ⟨cb,co+p*3+1,none⟩=some (qi A))) ah (HS.out _ (zkn X)) (fun A4=>?_);refine tkl 0 (pq AV.heap.size 1) rfl ah (fun _ _ _ h=>h) (fun W hW=>ah) A4 ?_;refine tkl 1 (qi f.kind) rfl ah (fun _ _ _ h=>h) (fun W hW=>aM) A4 ?_
            refine tkl 2 (.bool true) rfl ah (fun _ _ _ h=>h) (fun W hW=>aY) A4 ?_;refine tkl 3 (.bool true) rfl ah (fun _ _ _ h=>h) (fun W hW=>ah) A4 ?_;refine tkl 4 (pq wr.heap.size 3) rfl ah (fun _ _ _ h=>h) (fun W hW=>ah) A4 ?_;refine tkl 5 (.slice (some (qa cb co)) x.code.length y3) rfl ah (fun _ _ _ h=>h) (fun W hW=>aM) A4 ?_;refine tkl 6 (pq AV.heap.size 0) rfl ah (fun _ _ _ h=>h) (fun W hW=>ah) A4 ?_;refine tkl 7 (qi p) rfl ah (fun _ _ _ h=>h) (fun W hW=>aM) A4 ?_;refine tkl 8 (.pointer (some ⟨cb,co+p*3,none⟩)) rfl ah (fun _ _ _ h=>h) (fun W hW=>aY) A4 ?_;refine tkl 9 (.pointer (some ⟨cb,co+p*3+1,none⟩)) rfl ah (fun _ _ _ h=>h) (fun W hW=>ah) A4 ?_
            refine tkl 10 (qi A) rfl ah (fun _ _ _ h=>h) (fun W hW=>aM) A4 ?_;refine tkl 11 (.map (some pb)) rfl ah (fun _ _ _ h=>h) (fun W hW=>ah) A4 ?_;refine tkl 12 (.agg #[.string x.name,.slice x1 x.uses.length y1,qi x.data,.slice (some (qa cb co)) x.code.length y3,.slice (some (qa fb fo)) x.fixes.length y4,.slice x5 x.entries.length y5,qi x.main]) rfl ah (fun _ _ _ h=>h) (fun W hW=>aM) A4 ?_;refine tkl 13 (pq AV.heap.size 2) rfl ah (fun _ _ _ h=>h) (fun W hW=>ah) A4 ?_;refine tkl 14 (qi f.m) rfl ah (fun _ _ _ h=>h) (fun W hW=>aM) A4 ?_;refine wpAnyH_ready (rs:=[15]) ah aA ?_
            refine AllReadyH.cons rfl (fun Kq hK=>?_) AllReadyH.nil;go_simp
            go_wp2_with (go_at_call 146;refine (HM.out _ (zkn X)).mono ?_;rintro e w9 ⟨rfl,BL⟩)
            have B7:=hid (thenB (zkn X) BL);refine hK.out _ _ (HS.out _ B7.out) (fun A4=>?_);clear hK Kq BL
            (try simp only [Act.put,vae,van,vao])
            refine tkl 16 (.slice xk nk yk) rfl ah (fun _ _ _ h=>h) (fun W hW=>ah) A4 ?_;refine tkl 17 (qi nk) rfl ah (fun _ _ _ h=>h) (fun W hW=>aY) A4 ?_;refine tkl 18 (.bool false) rfl ah (fun _ _ _ h=>h) (fun W hW=>aY) A4 ?_;refine tkl 19 (.bool false) rfl ah (fun _ _ _ h=>h) (fun W hW=>aY) A4 ?_;exact jl
        . have HV:Hid (zc8 l x q=true):=GR.out.trans (by unfold zho;simp [k2])
          have JK:(f.kind == 2)=false:=by simp [k2]
          clear k2 hp Hf fr2 fr3 fr6 fr7 E6;refine wp_region_held_drew (S:=(fun W=>W.cell? (qa wr.heap.size 0)=some (.string x.name)/\W.cell? (qa wr.heap.size 1)=some (.slice x1 x.uses.length y1)/\W.cell? (qa wr.heap.size 2)=some (qi x.data)/\W.cell? (qa wr.heap.size 3)=some (.slice (some (qa cb co)) x.code.length y3)/\W.cell? (qa wr.heap.size 4)=some (.slice (some (qa fb fo)) x.fixes.length y4)/\W.cell? (qa wr.heap.size 5)=some (.slice x5 x.entries.length y5)/\W.cell? (qa wr.heap.size 6)=some (qi x.main)/\W.cell? (qa AV.heap.size 0)=some (qi p)/\W.cell? (qa AV.heap.size 1)=some (qi f.kind)/\W.cell? (qa AV.heap.size 2)=some (qi f.m)/\W.cell? ⟨cb,co+p*3+1,none⟩=some (qi A))) ah (HS.out _ (zkn X)) (fun A4=>?_);refine tkl 0 (pq AV.heap.size 1) rfl ah (fun _ _ _ h=>h) (fun W hW=>ah) A4 ?_;refine tkl 1 (qi f.kind) rfl ah (fun _ _ _ h=>h) (fun W hW=>aM) A4 ?_
          refine tkl 2 (.bool false) rfl ah (fun _ _ _ h=>h) (fun W hW=>aY) A4 ?_;refine tkl 3 (.bool false) rfl ah (fun _ _ _ h=>h) (fun W hW=>ah) A4 ?_;refine zsk 4 rfl ah (fun _ _ _ h=>h) A4 ?_;refine zsk 5 rfl ah (fun _ _ _ h=>h) A4 ?_;refine zsk 6 rfl ah (fun _ _ _ h=>h) A4 ?_;refine zsk 7 rfl ah (fun _ _ _ h=>h) A4 ?_;refine zsk 8 rfl ah (fun _ _ _ h=>h) A4 ?_;refine zsk 9 rfl ah (fun _ _ _ h=>h) A4 ?_;refine zsk 10 rfl ah (fun _ _ _ h=>h) A4 ?_;refine zsk 11 rfl ah (fun _ _ _ h=>h) A4 ?_;refine zsk 12 rfl ah (fun _ _ _ h=>h) A4 ?_;refine zsk 13 rfl ah (fun _ _ _ h=>h) A4 ?_;refine zsk 14 rfl ah (fun _ _ _ h=>h) A4 ?_
          refine zsk 15 rfl ah (fun _ _ _ h=>h) A4 ?_;refine zsk 16 rfl ah (fun _ _ _ h=>h) A4 ?_;refine zsk 17 rfl ah (fun _ _ _ h=>h) A4 ?_;refine zsk 18 rfl ah (fun _ _ _ h=>h) A4 ?_;refine tkl 19 (.bool false) rfl ah (fun _ _ _ h=>h) (fun W hW=>ah) A4 ?_;refine wpAnyH_done ah ?_ _;clear A4;go_simp;have B7:=hid (zkn X);go_wp2_with fail;go_meet;exact ⟨bw,B7⟩
       case rest=>
        obtain ⟨rfl,hbc⟩:=hcut;have B7:=hbc;have EQ:=hbc.out.size;clear HM HS F2 EK Ho G5 HP hbc
        cases hv:zc8 l x q with
        | false=>
          have HV:Hid (r=false):=HR.out.trans (za5 (i:=j) A0 (F4.out.trans (za5 (i:=q) CI hv)));clear hv;go_wp2_with fail;go_ret;exact ⟨ret_bool HV.out.symm,thenB CT.out B7.out⟩
        | true=>
          have HV:=hid hv;clear hv;go_wp2_with fail;go_roundw
          case rel=>exact ⟨q+1,ae,aR,zbq HQ.out HV.out,(thenB Ad.out (thenB (by rw [HX.out];exact al1 _ _) B7.out))⟩
          case measure=>simp [intOf];omega
     . obtain rfl:q=x.fixes.length:=by omega
       have HT:Hid (zed l j=true):=F4.out.trans (zan.2 HQ.out);clear D1 Ab A9;exact gv
  . exact ir
end Go.Proofs.YtndkhgakfodldaaGreatDoor
