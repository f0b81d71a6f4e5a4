import Derived.Test.YtndkhgakfodldaaGreatDoorJf
import Derived.Sort.KeysCollected
namespace Go.Proofs.YtndkhgakfodldaaGreatDoor
set_option maxRecDepth 100000
open Go.RowKit Go.Maps Go.Sort Go.WideMaps
set_option linter.unusedSimpArgs false
set_option linter.unusedVariables false
structure OsAt (w:World) (a:OA) (l:List Ob) (ev:Nat->Value):Prop where
 bound:l.length<=17592186044416
 get:∀ i (h:i<l.length),∃ b off x1 y1 x3 y3 x4 y4 x5 y5,a=some (qa b off)/\b<w.heap.size/\w.cell? ⟨b,off+i*7,none⟩=some (.string l[i].name)/\w.cell? ⟨b,off+i*7+1,none⟩=some (.slice x1 l[i].uses.length y1)/\w.cell? ⟨b,off+i*7+2,none⟩=some (qi l[i].data)/\w.cell? ⟨b,off+i*7+3,none⟩=some (.slice x3 l[i].code.length y3)/\w.cell? ⟨b,off+i*7+4,none⟩=some (.slice x4 l[i].fixes.length y4)/\w.cell? ⟨b,off+i*7+5,none⟩=some (.slice x5 l[i].entries.length y5)/\w.cell? ⟨b,off+i*7+6,none⟩=some (qi l[i].main)/\
  OvAt w l[i] x1 x3 x4 x5/\l[i].uses.length<=y1/\ev i = .slice x5 l[i].entries.length y5
theorem OsAt.later {w w':World} {a:OA} {l:List Ob} {ev:Nat->Value} (h:OsAt w a l ev) (hb:qb w w'):OsAt w' a l ev:=⟨h.bound,fun i hi=>by
 obtain ⟨b,off,x1,y1,x3,y3,x4,y4,x5,y5,ha,hl,c0,c1,c2,c3,c4,c5,c6,ho,hc,he⟩:=h.get i hi;have hz:=hb.size
 exact ⟨b,off,x1,y1,x3,y3,x4,y4,x5,y5,ha,by omega,(hb.cell (p:=(qa b _)) hl).trans c0,(hb.cell (p:=(qa b _)) hl).trans c1,(hb.cell (p:=(qa b _)) hl).trans c2,(hb.cell (p:=(qa b _)) hl).trans c3,(hb.cell (p:=(qa b _)) hl).trans c4,(hb.cell (p:=(qa b _)) hl).trans c5,(hb.cell (p:=(qa b _)) hl).trans c6,ho.later hb,hc,he⟩⟩
def cdL (l:List Ob):Int:=(l.map (fun o=>(o.code.length:Int))).sum
def dtL (l:List Ob):Int:=(l.map Ob.data).sum
theorem zi6 {l:List Ob} {j:Nat} (h:j<l.length):cdL (l.take (j+1))=cdL (l.take j)+l[j].code.length:=by
 unfold cdL;rw [vaf h,vbw,List.sum_append];simp
theorem zi7 {l:List Ob} {j:Nat} (h:j<l.length):dtL (l.take (j+1))=dtL (l.take j)+l[j].data:=by
 unfold dtL;rw [vaf h,vbw,List.sum_append];simp
def z5h (l:List Ob):Prop:=l.length<=4/\∀ o ∈ l,1<=o.code.length/\o.code.length<=2048/\0<=o.data/\o.data<=512
theorem zek {l:List Ob} (h:z5h l):∀ j,j<=l.length->0<=cdL (l.take j)/\cdL (l.take j)<=2048*j/\0<=dtL (l.take j)/\dtL (l.take j)<=512*j
 | 0,_=>by simp [cdL,dtL]
 | j+1,hj=>by
   have ih:=zek h j (by omega);have:=h.2 l[j] (vag (by omega));rw [zi6 (by omega),zi7 (by omega)];omega
def nmO (l:List Ob):List (L8):=l.map (fun o=>o.name.data.toList)
theorem znb (l:List Ob):(nmO l).length=l.length:=by simp [nmO]
theorem zzz {l:List Ob} {j:Nat} (h:j<l.length):nmO (l.take (j+1))=nmO (l.take j)++[l[j].name.data.toList]:=by
 unfold nmO;rw [vaf h,vbw]
 rfl
def pv (l:List Ob) (ev:Nat->Value) (i:Nat):Value:=.agg #[qi i,qi ((l.length:Int)+1+cdL (l.take i)),qi (dtL (l.take i)),ev i]
def pv0:Value:=.agg #[qi 0,qi 0,qi 0,qs]
def lkO (l:List Ob) (a:L8):Nat->Option Nat
 | 0=>none
 | j+1=>match l[j]? with
   | some o=>if o.name.data.toList=a then some j else lkO l a j
   | none=>lkO l a j
theorem znc {l:List Ob} {j:Nat} (h:j<l.length) (a:L8):lkO l a (j+1)=if l[j].name.data.toList=a then some j else lkO l a j:=by
 rw [lkO,vac h]
theorem zqu {l:List Ob} (a:L8):∀ j,j<=l.length->(lkO l a j).isSome=(nmO (l.take j)).contains a
 | 0,_=>by simp [lkO,nmO]
 | j + 1,hj=>by
   rw [znc (by omega),zzz (by omega)]
   by_cases e:l[j].name.data.toList=a
   . rw [if_pos e];simp [e]
   . rw [if_neg e,zqu a j (by omega)]
     have e':¬ a=l[j].name.data.toList:=fun h=>e h.symm
     simp [e']
theorem zo2 {l:List Ob} (a:L8):∀ j i,j<=l.length->lkO l a j=some i->i<j/\∃ h:i<l.length,l[i].name.data.toList=a
 | 0,i,_,h=>by simp [lkO] at h
 | j + 1,i,hj,h=>by
   rw [znc (by omega)] at h
   by_cases e:l[j].name.data.toList=a
   . rw [if_pos e] at h
     obtain rfl:j=i:=vai h;exact ⟨by omega,by omega,e⟩
   . rw [if_neg e] at h
     obtain ⟨h1,h2⟩:=zo2 a j i (by omega) h;exact ⟨by omega,h2⟩
theorem zsw:Keyed Tryz.prog 9:=string_keyed Tryz.underlying9
theorem z2e (w:World):(zeroValue 227).run Tryz.prog w = .ok pv0 w:=by kernel_rfl
def zi8 (w:World) (b:Nat) (l:List Ob) (ev:Nat->Value) (j:Nat):Prop:=∃ (n:Nat) (D:DataW Value),n<=j/\w.ownsMap Tryz.prog 9 zpu b n D/\∀ a,has D (.string a)=(lkO l a j).isSome/\D.atKey (.string a) (.held pv0) = .held ((lkO l a j).elim pv0 (pv l ev))
section
variable {w w':World} {b:Nat} {l:List Ob} {ev:Nat->Value} {j:Nat}
theorem zi8.lt (h:zi8 w b l ev j):b<w.heap.size:=by obtain ⟨n,D,_,h1,_⟩:=h;exact h1.lt
theorem zi8.later (h:zi8 w b l ev j) (hb:qb w w'):zi8 w' b l ev j:=by
 obtain ⟨n,D,h0,h1,h2⟩:=h;have A0:=h1.lt;obtain ⟨es,clock,AZ,r⟩:=h1;exact ⟨n,D,h0,⟨es,clock,(hb.block b A0).trans AZ,r⟩,h2⟩
theorem zi8.made (w:World) (l:List Ob) (ev:Nat->Value):zi8 (w.alloc (.map #[] 0)) w.heap.size l ev 0:=⟨0,.map [],vaa _,veu w _ _ _,fun _=>⟨rfl,rfl⟩⟩
theorem zi8.put (h:zi8 w b l ev j) (hj:j<l.length) (h4:l.length<=4) (hs:l[j].name.size<=maxLen) :
 ∃ w',(Instr.mapUpdate 157 (.map (some b)) (.string l[j].name) (pv l ev j)).run Tryz.prog w = .ok () w'/\zi8 w' b l ev (j+1)/\w.grownBy w' (some b):=by
 obtain ⟨n,D,h0,h1,h2⟩:=h;obtain ⟨w',r1,r2,r3⟩:=h1.update zsw Tryz.underlying157 (by unfold maxLen;omega) (keyOf_string_mk Tryz.underlying9 hs) (val:=pv l ev j) (d:=.held (pv l ev j)) (ps:=[]) rfl;refine ⟨w',r1,⟨n+1,_,by omega,r2,fun a=>?_⟩,r3⟩;rw [znc hj]
 by_cases e:l[j].name.data.toList=a
 . subst e
   rw [if_pos rfl];exact ⟨has_put_same (k:=.string l[j].name.data.toList) h1.isMap trivial _,atKey_put_same (k:=.string l[j].name.data.toList) h1.isMap trivial _ _⟩
 . have Aj:Lit.string a≠.string l[j].name.data.toList:=fun h=>e (by injection h with h;exact h.symm)
   rw [if_neg e,has_put_other Aj,atKey_put_other Aj];exact h2 a
theorem zi8.look (h:zi8 w b l ev j) {s:ByteArray} (hs:s.size<=maxLen) :
 (Instr.lookup 157 (.map (some b)) (.string s) false).run Tryz.prog w = .ok ((lkO l s.data.toList j).elim pv0 (pv l ev)) w:=by
 obtain ⟨n,D,h0,h1,h2⟩:=h;obtain ⟨v,ps,hrun,hv⟩:=h1.lookup zsw Tryz.underlying157 (z2e w) (zd:=.held pv0) (zp:=[]) rfl (keyOf_string_mk Tryz.underlying9 hs);rw [(h2 _).2] at hv;simp only [zpu,vbf,vdd,vda] at hv;rw [hrun,hv.1]
theorem zi8.look_ok (h:zi8 w b l ev j) {s:ByteArray} (hs:s.size<=maxLen) :
 (Instr.lookup 157 (.map (some b)) (.string s) true).run Tryz.prog w = .ok (.tuple #[(lkO l s.data.toList j).elim pv0 (pv l ev),.bool (lkO l s.data.toList j).isSome]) w:=by
 obtain ⟨n,D,h0,h1,h2⟩:=h;obtain ⟨v,ps,hrun,hv⟩:=h1.look_ok zsw Tryz.underlying157 (z2e w) (zd:=.held pv0) (zp:=[]) rfl (keyOf_string_mk Tryz.underlying9 hs);rw [(h2 _).2] at hv;simp only [zpu,vbf,vdd,vda] at hv;rw [hrun,hv.1,(h2 _).1]
end
theorem zwc:∀ (ks l:List (L8)),ks.Nodup->(∀ a ∈ ks,a ∈ l)->ks.length<=l.length
 | [],_,_,_=>vae _
 | x :: ks,l,nd,h=>by
   obtain ⟨h1,h2⟩:=vdp.1 nd;have hx:=h x (by simp);have:=zwc ks (l.erase x) h2 (fun a ha=>(List.mem_erase_of_ne (fun e:a=x=>h1 (by rw [← e];exact ha))).2 (h a (by simp [ha])));rw [List.length_erase_of_mem hx] at this;have hp:0<l.length:=List.length_pos_of_mem hx
   simp;omega
theorem z5i:∀ (l:List (L8)),∃ ks:List (L8),ks.Nodup/\(∀ a,a ∈ ks↔a ∈ l)/\(¬ l.Nodup->ks.length<l.length)
 | []=>⟨[],by simp,by simp,by simp⟩
 | x :: l=>by
   obtain ⟨ks,h1,h2,h3⟩:=z5i l;have Ee:=zwc ks l h1 (fun a ha=>(h2 a).1 ha)
   by_cases hx:x ∈ l
   . refine ⟨ks,h1,fun a=>?_,fun _=>by simp;omega⟩
     rw [h2,vby];exact ⟨Or.inr,fun h=>h.elim (fun e=>e ▸ hx) id⟩
   . refine ⟨x :: ks,vdp.2 ⟨fun h=>hx ((h2 x).1 h),h1⟩,fun a=>by simp [h2],fun hn=>?_⟩
     have:=h3 (fun h=>hn (vdp.2 ⟨hx,h⟩))
     simp;omega
theorem zl1 {w:World} {H:Type} {R:Value->Option (DataW H × List MemPlace)} {b n:Nat} {D:DataW H} (h:w.ownsMap Tryz.prog 9 R b n D) {l:List (L8)} (hl:l.Nodup) (hm:∀ a,has D (.string a)=l.contains a):l.Perm (strKeys D):=
 Collected.perm (left:=fun _=>false) ⟨hl,fun x=>by rw [hm x];simp⟩ h zsw Tryz.underlying9 (fun _=>rfl)
theorem zl2 {H:Type} (D:DataW H) (h:IsMap D):Maps.size D=(strKeys D).length:=by obtain ⟨es,rfl⟩:=h;simp [Maps.size,strKeys]
theorem zi8.len {w:World} {b:Nat} {l:List Ob} {ev:Nat->Value} (h:zi8 w b l ev l.length) :
 ∃ m:Nat,(∀ ty,(Builtin.len_ #[157] ty #[.map (some b)]).run Tryz.prog w = .ok (qi m) w)/\((nmO l).Nodup->m=l.length)/\(¬ (nmO l).Nodup->m<l.length):=by
 obtain ⟨n,D,h0,h1,h2⟩:=h
 have hm:∀ a,has D (.string a)=(nmO l).contains a:=fun a=>by rw [(h2 a).1,zqu a _ (vaa _),vat]
 refine ⟨Maps.size D,fun ty=>h1.len Tryz.underlying157 ty,fun hn=>?_,fun hn=>?_⟩
 . rw [zl2 D h1.isMap,← (zl1 h1 hn hm).length_eq,znb]
 . obtain ⟨ks,k1,k2,k3⟩:=z5i (nmO l)
   have hp:=zl1 h1 k1 (fun a=>by rw [hm,vcj];simp [k2]);rw [zl2 D h1.isMap,← hp.length_eq,← znb l];exact k3 hn
set_option maxHeartbeats 6400000
theorem zzl {x:Int} (h1 : -1000000000<=x) (h2:x<=1000000000):IntKind.i64.wrap x=x:=by simp only [IntKind.wrap,IntKind.bits,IntKind.signed];simp;omega
abbrev obC (x:Ob) (x1:OA) (y1:Nat) (x3:OA) (y3:Nat) (x4:OA) (y4:Nat) (x5:OA) (y5:Nat):Obj:=kzD x.name x1 x.uses.length y1 x.data x3 x.code.length y3 x4 x.fixes.length y4 x5 x.entries.length y5 x.main
theorem zif (l:List Ob) (ev:Nat->Value) (a:OA) (cap:Nat) (w:World) (hO:OsAt w a l ev) (hN:z5h l) :
 qc 102 #[.slice a l.length cap] w fun e w'=>∃ b,e = .returned (.map (some b))/\zi8 w' b l ev l.length/\qb w w':=by
 have Bt:=hO.bound;have h4:=hN.1;have HO:=hid hO;have HN:=hid hN;have HF:=hid (zek hN);have GC:=@run_makeMap Tryz.prog;have HM:=hid (zi8.made w l ev);have Ed:IntKind.i64.wrap ((l.length:Int)+1)=l.length+1:=zzl (by omega) (by omega);clear hO hN;go_enter Tryz.func102,Tryz.ntmps102;go_wp2_with fail;clear Ed
 go_loopw [4,5,6,7,14] (fun c d _ _ i wr=>∃ (j:Nat) (cj dj:Int),j<=l.length/\i=qi j/\c=qi cj/\d=qi dj/\cj=(l.length:Int)+1+cdL (l.take j)/\dj=dtL (l.take j)/\zi8 wr w.heap.size l ev j/\qb w wr) (fun _ _ _ _ i _=>l.length - (intOf i).toNat)
 case atStart=>exact ⟨0,_,_,vae _,rfl,rfl,rfl,by simp [cdL],by simp [dtL],HM.out,al1 _ _⟩
 case round=>
  clear HM;obtain ⟨j,cj,dj,hj,rfl,rfl,rfl,hc,hd,hP,hb⟩:=hrel;have HC:=hid hc;have HD:=hid hd;have Oq:=HF.out j hj;rw [← hd] at Oq
  have F7:0<=cj/\cj<=10000:=by omega
  have Td:0<=dj/\dj<=10000:=by omega
  clear hc hd Oq
  by_cases A0:j<l.length
  . obtain ⟨b,off,x1,y1,x3,y3,x4,y4,x5,y5,rfl,B9,c0,c1,c2,c3,c4,c5,c6,ho,_,he⟩:=(HO.out.later hb).get j A0
    obtain ⟨Cz,Cg,C8,Df⟩:=HN.out.2 l[j] (vag A0);obtain ⟨w2,hrun,Jy,DC⟩:=(hP.later (al1 wr (obC l[j] x1 y1 x3 y3 x4 y4 x5 y5))).put A0 h4 ho.wn;have F8:=hid (zi6 A0);have RF:=hid (zi7 A0);unfold pv at hrun;rw [he,← HC.out,← HD.out] at hrun;have Aa:qb w w2:=(thenB hb (al1 _ _)).grown DC (by have:=hb.size;simp;omega) (fun k hk=>by cases hk;exact vaa _);have BM:=hid Jy;have Gz:w2.heap[wr.heap.size]? = some (obC l[j] x1 y1 x3 y3 x4 y4 x5 y5):=(DC.block wr.heap.size (by simp) (by simp;have:=hP.lt;omega)).trans (heap_newP wr _);clear hP Jy DC he ho;generalize l[j]=x at *;obtain ⟨z0,z1,z2,z3,z4,z5,z6,_⟩:=zaj Gz;have I8:=lt_of_heap Gz;have Cm:IntKind.i64.wrap (cj+x.code.length)=cj+x.code.length:=zzl (by omega) (by omega);have DT:IntKind.i64.wrap (dj+x.data)=dj+x.data:=zzl (by omega) (by omega)
    clear Gz;go_wp2_with fail;go_roundw
    case rel=>exact ⟨j+1,_,_,by omega,by go_num,rfl,rfl,by rw [HC.out,F8.out];omega,by rw [HD.out,RF.out],BM.out,Aa⟩
    case measure=>simp [intOf];omega
  . obtain rfl:j=l.length:=by omega
    have HP:=hid hP;clear hP;go_wp2_with fail;go_ret;exact ⟨_,rfl,HP.out,hb⟩
def zea (l:List Ob) (i:Nat) (u:ByteArray):Bool:=match lkO l u.data.toList l.length with | some k=>decide (k<i) | none=>false
def zeb (l:List Ob) (i:Nat):Bool:=match l[i]? with | some o=>o.uses.all (zea l i) | none=>true
def zgj (l:List Ob):Bool:=ze1 l.length (zeb l)
theorem zwd {α:Type} (q:α->Bool) {l:List α} {j:Nat} (h:j<l.length):(l.take (j+1)).all q=((l.take j).all q&&q l[j]):=by
 rw [vaf h,vbo];simp
theorem z27 {α:Type} (q:α->Bool) {l:List α} {j:Nat} (h:j<l.length) (hq:q l[j]=false):l.all q=false:=by
 rw [vcp];exact ⟨l[j],vag h,by simp [hq]⟩
theorem zqv (l:List Ob) (ev:Nat->Value) (a:OA) (cap pb:Nat) (w:World) (hO:OsAt w a l ev) (h4:l.length<=4) (hP:zi8 w pb l ev l.length) :
 qc 106 #[.map (some pb),.slice a l.length cap] w fun e w'=>e = .returned (.bool (zgj l))/\qb w w':=by
 have Bt:=hO.bound;have HO:=hid hO;have HP:=hid hP;clear hO hP
 obtain ⟨r,hr⟩:∃ r,r=zgj l:=⟨_,rfl⟩
 rw [← hr];have HR:=hid hr;clear hr;go_enter Tryz.func106,Tryz.ntmps106;go_wp2_with fail
 go_loopw [5,6,8,9,10,13] (fun _ _ _ _ _ i wr=>∃ j:Nat,j<=l.length/\i=qi j/\(∀ k,k<j->zeb l k=true)/\qb w wr) (fun _ _ _ _ _ i _=>l.length - (intOf i).toNat)
 case atStart=>exact ⟨0,vae _,rfl,fun k h=>absurd h (vbe _),Below.refl _ _⟩
 case round=>
  obtain ⟨j,hj,rfl,A6,hb⟩:=hrel;have HA:=hid A6;have HB:=hid hb;clear A6
  by_cases A0:j<l.length
  . obtain ⟨b,off,x1,y1,x3,y3,x4,y4,x5,y5,rfl,B9,c0,c1,c2,c3,c4,c5,c6,ho,_,_⟩:=(HO.out.later hb).get j A0
    have Er:Hid (zeb l j=l[j].uses.all (zea l j)):=by show zeb l j=_;unfold zeb;rw [vac A0]
    have HU:=hid ho.uses;have EV:=ho.uses.bound;clear hb ho;generalize l[j]=x at *;go_wp2_with fail;clear c0 c1 c2 c3 c4 c5 c6 B9
    go_loopw [8,9,10,21] (fun _ _ _ i AQ=>∃ q:Nat,q<=x.uses.length/\i=qi q/\(x.uses.take q).all (zea l j)=true/\qb wr AQ) (fun _ _ _ i _=>x.uses.length - (intOf i).toNat)
    case atStart=>exact ⟨0,vae _,rfl,rfl,al1 _ _⟩
    case round=>
     obtain ⟨q,hq,rfl,hallu,Aa⟩:=hrel;have HQ:=hid hallu;have Ad:=hid Aa;have Bp:=hid (thenB HB.out Aa);clear hallu
     by_cases Cy:q<x.uses.length
     . obtain ⟨ub,uo,rfl,J0,huc,FT⟩:=(HU.out.later Aa).str q Cy
       have Bm:=((HP.out.later Bp.out)).look_ok FT;have BW:=hid (zwd (zea l j) Cy);have FK:=hid (fun h=>z27 (zea l j) Cy h);clear Aa
       have Ik:∀ k,lkO l x.uses[q].data.toList l.length=some k->k<l.length:=fun k h=>(zo2 _ _ _ (vaa _) h).1
       have IL:Hid (zea l j x.uses[q]=match lkO l x.uses[q].data.toList l.length with | some k=>decide (k<j) | none=>false):=rfl;generalize x.uses[q]=u at *;generalize lkO l u.data.toList l.length=o at *
       cases o with
       | none=>
         have HF:Hid (r=false):=HR.out.trans (za1 (i:=j) (by omega) (Er.out.trans (FK.out IL.out)));simp only [Option.elim,Option.isSome,pv0] at Bm;clear Ik;go_wp2_with fail;go_ret;exact ⟨ret_bool HF.out.symm,Bp.out.alloc (by have:=Bp.out.size;omega) _⟩
       | some k=>
         have hk:=Ik k rfl;obtain ⟨_,_,_,_,_,_,_,_,xk,yk,_,_,_,_,_,_,_,_,_,_,_,hek⟩:=HO.out.get k hk;simp only [Option.elim,Option.isSome,pv] at Bm;rw [hek] at Bm;clear Ik hek
         by_cases Og:k<j
         . have HT:Hid ((x.uses.take (q+1)).all (zea l j)=true):=BW.out.trans (by rw [HQ.out,IL.out];simp [Og])
           have KL:¬ (j:Int)<=k:=by omega
           go_wp2_with fail;go_roundw
           case rel=>exact ⟨q+1,by omega,by go_num,HT.out,Ad.out.alloc (by have:=Ad.out.size;omega) _⟩
           case measure=>simp [intOf];omega
         . have HF:Hid (r=false):=HR.out.trans (za1 (i:=j) (by omega) (Er.out.trans (FK.out (IL.out.trans (decide_eq_false Og)))))
           have KL:(j:Int)<=k:=by omega
           go_wp2_with fail;go_ret;exact ⟨ret_bool HF.out.symm,Bp.out.alloc (by have:=Bp.out.size;omega) _⟩
     . obtain rfl:q=x.uses.length:=by omega
       have HT:Hid (zeb l j=true):=Er.out.trans (by have:=HQ.out;rw [vat] at this;exact this);clear Aa;go_wp2_with fail;go_roundw
       case rel=>exact ⟨j+1,by omega,by go_num,zbj HA.out HT.out,Bp.out⟩
       case measure=>simp [intOf];omega
  . obtain rfl:j=l.length:=by omega
    have HT:Hid (r=true):=HR.out.trans (zak.2 HA.out);go_wp2_with fail;go_ret;exact ⟨ret_bool HT.out.symm,HB.out⟩
set_option maxHeartbeats 3200000
theorem tkl {P:Program} {ops:Array Oper} {Q:Exit->Act->World->Prop} {md:Region.Mode} {S:World->Prop} (i:Nat) {oi:Oper} (v:Value) {Az:Nat} {Ap:Array Bool} {a:Act} {w:World} (hi:ops[i]? = some oi)
 (hc:(Region.noSelect ops&&(Region.free md ops Ap i&&((Region.ready md ops Ap).contains i&&Region.wanted oi (yielded ops a.tmps))))=true)
 (hQ:∀ c a w,Q (.panic c) (a.put oi.dst v) w->Q (.panic c) a w) (hy:∀ w,S w->(execOp a.eval oi).run P w = .ok (.value v) w) (hS:S w)
 (h:wpAnyH P md ops Q S Az (Ap.setIfInBounds i true) (a.put oi.dst v) w):wpAnyH P md ops Q S (Az+1) Ap a w:=by
 simp only [vab] at hc;exact wpAnyH_take hi hc.1 hc.2.1 hc.2.2.1 hQ (Or.inl ⟨hc.2.2.2,hy⟩) hS h
abbrev z7f:Obj:=.cells #[qi 0,qi 0,qi 0,qs] 227
abbrev plV (l:List Ob) (k:Nat) (xk:OA) (nk yk:Nat):Value:=.agg #[qi k,qi ((l.length:Int)+1+cdL (l.take k)),qi (dtL (l.take k)),.slice xk nk yk]
abbrev obV (o:Ob) (x1:OA) (y1:Nat) (x3:OA) (y3:Nat) (x4:OA) (y4:Nat) (x5:OA) (y5:Nat):Value:=.agg #[.string o.name,.slice x1 o.uses.length y1,qi o.data,.slice x3 o.code.length y3,.slice x4 o.fixes.length y4,.slice x5 o.entries.length y5,qi o.main]
theorem zi9 (w:World):qb w w.drew:=(Below.refl _ _).drew
theorem zwe {w:World} {b:Nat} {x0 x1 x2 x3:Value} {t:TypeId} (h:w.heap[b]? = some (.cells #[x0,x1,x2,x3] t (0,0))) :
 w.cell? (qa b 0)=some x0/\w.cell? (qa b 1)=some x1/\w.cell? (qa b 2)=some x2/\w.cell? (qa b 3)=some x3/\∀ i,w.frozen? (qa b i)=false:=by
 refine ⟨?_,?_,?_,?_,fun i=>veq h i⟩<;>(rw [vep h];rfl)
def z2f (o:Ob) (m:Int) (s:ByteArray):Prop:=(m=0/\s=o.name)\/∃ i:Nat,m=(i:Int)+1/\∃ h:i<o.uses.length,o.uses[i]=s
theorem zig (l:List Ob) (ev:Nat->Value) (pb:Nat) (w:World) (hP:zi8 w pb l ev l.length) (o:Ob) (x1:OA) (y1:Nat) (x3:OA) (y3:Nat) (x4:OA) (y4:Nat) (x5:OA) (y5:Nat) (ho:OvAt w o x1 x3 x4 x5) (m:Int) (s:ByteArray) (hs:z2f o m s) (k:Nat) (hk:lkO l s.data.toList l.length=some k) (xk:OA) (nk yk:Nat) (GL:ev k = .slice xk nk yk) :
 qc 146 #[.map (some pb),obV o x1 y1 x3 y3 x4 y4 x5 y5,qi m] w fun e w'=>e = .returned (plV l k xk nk yk)/\qb w w':=by
 obtain ⟨W,hW⟩:∃ W,W=(w.alloc (obC o x1 y1 x3 y3 x4 y4 x5 y5)).alloc z7f:=⟨_,rfl⟩
 have hb:qb w W:=by rw [hW];exact bl2 _ _ _
 have CB:W.heap[w.heap.size]? = some (obC o x1 y1 x3 y3 x4 y4 x5 y5):=by rw [hW];exact zab (heap_newP w _)
 have Bg:W.heap[w.heap.size+1]? = some z7f:=by rw [hW];simpa using heap_newP (w.alloc (obC o x1 y1 x3 y3 x4 y4 x5 y5)) z7f
 have HP:=hid (hP.later hb);have HU:=hid (ho.uses.later hb);have EV:=ho.uses.bound;have LJ:=ho.wn;obtain ⟨z0,z1,z2,z3,z4,z5,z6,_⟩:=zaj CB;obtain ⟨r0,r1,r2,r3,rf⟩:=zwe Bg;have Bn:=lt_of_heap CB;have Cz:=lt_of_heap Bg;clear hP ho hb CB Bg;subst hW
 rcases hs with ⟨rfl,rfl⟩ | ⟨i,rfl,hi,rfl⟩
 . have Bm:=HP.out.look LJ
   rw [hk] at Bm;simp only [Option.elim,pv] at Bm;rw [GL] at Bm;clear hk GL;go_enter Tryz.func146,Tryz.ntmps146;go_wp2_with fail;refine bodyPost_ret (v:=plV l k xk nk yk) (by simp [results,Tryz.results146,go_sem,r0,r1,r2,r3,Cz]) rfl ⟨rfl,bl2 _ _ _⟩
 . obtain ⟨ub,uo,rfl,J0,huc,FT⟩:=HU.out.str i hi
   have Bm:=HP.out.look FT;rw [hk] at Bm;simp only [Option.elim,pv] at Bm;rw [GL] at Bm
   have Cm:IntKind.i64.wrap ((i:Int)+1 - 1)=i:=by simp only [IntKind.wrap,IntKind.bits,IntKind.signed];simp;omega
   have Qc:¬ ((i:Int)+1=0):=by omega
   clear hk GL;generalize o.uses[i]=u at *;go_enter Tryz.func146,Tryz.ntmps146;go_wp2_with fail;refine bodyPost_ret (v:=plV l k xk nk yk) (by simp [results,Tryz.results146,go_sem,r0,r1,r2,r3,Cz]) rfl ⟨rfl,bl2 _ _ _⟩
def fixV (kind a c d:Int) (Ba:List Int):Int:=if kind=2 then c+Ba.getD a.toNat 0 else if kind=3 then d+a else c+a
theorem DAt.entI {w:World} {A:Nat->Prop} {a:OA} {l:List Int} (h:DAt w A a l.length (zfm l)) (i:Nat) (hi:i<l.length):∃ b off,a=some (qa b off)/\b<w.heap.size/\w.cell? ⟨b,off+i,none⟩=some (qi l[i]):=by
 obtain ⟨b,off,ha,hb,hc⟩:=h.cell (by omega);obtain ⟨v,hv,hd⟩:=hc i (.int l[i]) (by simp [zfm,hi]);obtain ⟨rfl,_⟩:=zaz hd;exact ⟨b,off,ha,hb,hv⟩
theorem zwf (n c d kind a:Int) (Ba:List Int) (xk:OA) (yk:Nat) (w:World) (hE:DAt w Tt xk Ba.length (zfm Ba)) (hc:0<=c/\c<=10000) (hd:0<=d/\d<=10000) (ha:0<=a/\a<=2048) (h2:kind=2->a<Ba.length) (KO:∀ x ∈ Ba,0<=x/\x<=2048) :
 qc 147 #[.agg #[qi n,qi c,qi d,.slice xk Ba.length yk],qi kind,qi a] w fun e w'=>e = .returned (qi (fixV kind a c d Ba))/\qb w w':=by
 have Oz:=hE.bound;obtain ⟨c1,c2⟩:=hc;obtain ⟨d1,d2⟩:=hd;obtain ⟨a1,a2⟩:=ha
 by_cases k2:kind=2
 . subst k2
   have hl:=h2 rfl
   obtain ⟨i,rfl⟩:∃ i:Nat,a=i:=⟨a.toNat,by omega⟩
   have hi:i<Ba.length:=by omega
   have HV:Hid (fixV 2 i c d Ba=c+Ba[i]):=by show fixV 2 i c d Ba=_;unfold fixV;rw [if_pos rfl,vbp,vav,vac hi];rfl
   have hx:=KO Ba[i] (vag hi);obtain ⟨eb,eo,rfl,Ei,Ou⟩:=(hE.later (al1 w (.cells #[qi n,qi c,qi d,.slice xk Ba.length yk] 227))).entI i hi;have Cm:IntKind.i64.wrap (c+Ba[i])=c+Ba[i]:=zzl (by omega) (by omega);clear hE KO h2;generalize Ba[i]=x at *;go_enter Tryz.func147,Tryz.ntmps147;go_wp2_with fail
   (try go_quiet ((fail)))
   go_wp2_with fail;go_ret;exact ⟨ret_int HV.out.symm,(by first | exact al1 _ _ | exact (al1 _ _).drew | exact below_drewN (al1 _ _) _)⟩
 . have b2:(kind == 2)=false:=by simp [k2]
   by_cases k3:kind=3
   . subst k3
     have HV:Hid (fixV 3 a c d Ba=d+a):=rfl;have Cm:IntKind.i64.wrap (d+a)=d+a:=zzl (by omega) (by omega);clear hE KO h2;go_enter Tryz.func147,Tryz.ntmps147;go_wp2_with fail;go_ret;exact ⟨ret_int HV.out.symm,al1 _ _⟩
   . have b3:(kind == 3)=false:=by simp [k3]
     have HV:Hid (fixV kind a c d Ba=c+a):=by show fixV kind a c d Ba=_;unfold fixV;rw [if_neg k2,if_neg k3]
     have Cm:IntKind.i64.wrap (c+a)=c+a:=zzl (by omega) (by omega);clear hE KO h2;go_enter Tryz.func147,Tryz.ntmps147;go_wp2_with fail;go_ret;exact ⟨ret_int HV.out.symm,al1 _ _⟩
set_option maxHeartbeats 6400000
theorem zqw {P:Program} {ops:Array Oper} {Q:Exit->Act->World->Prop} {md:Region.Mode} {S:World->Prop} (i:Nat) {oi:Oper} {Az:Nat} {Ap:Array Bool} {a:Act} {w:World} (hi:ops[i]? = some oi)
 (hc:(Region.noSelect ops&&(Region.free md ops Ap i&&((Region.ready md ops Ap).contains i && !(Region.wanted oi (yielded ops a.tmps)))))=true)
 (hQ:∀ c a w,Q (.panic c) (a.put oi.dst undef) w->Q (.panic c) a w) (hS:S w)
 (h:wpAnyH P md ops Q S Az (Ap.setIfInBounds i true) (a.put oi.dst undef) w):wpAnyH P md ops Q S (Az+1) Ap a w:=by
 simp only [vab,vdz] at hc;exact wpAnyH_take hi hc.1 hc.2.1 hc.2.2.1 hQ (Or.inr ⟨hc.2.2.2,rfl⟩) hS h
def zlc (o:Ob) (m:Int):ByteArray:=if m=0 then o.name else o.uses.getD (m - 1).toNat ⟨#[]⟩
def modO (l:List Ob) (o:Ob) (m:Int):Nat:=(lkO l (zlc o m).data.toList l.length).getD 0
def entsO (l:List Ob) (k:Nat):List Int:=match l[k]? with | some o=>o.entries | none=>[]
def zgp (l:List Ob) (o:Ob) (f:Gf):Bool:=!(decide (f.kind=2)&&decide (((entsO l (modO l o f.m)).length:Int)<=aAt o f.at_))
def zcr (l:List Ob) (o:Ob) (j:Nat):Bool:=match o.fixes[j]? with | some f=>zgp l o f | none=>true
def zdn (l:List Ob) (i:Nat):Bool:=match l[i]? with | some o=>ze1 o.fixes.length (zcr l o) | none=>true
def zih (l:List Ob):Bool:=ze1 l.length (zdn l)
structure FixR (o:Ob) (f:Gf):Prop where
 at0:0<=f.at_
 at1:f.at_<o.code.length
 kind:1<=f.kind/\f.kind<=3
 a0:0<=aAt o f.at_
 a1:aAt o f.at_<=2048
 m0:0<=f.m
 m1:f.m<=o.uses.length
theorem zhx {o:Ob} (h:oChk o=0):zfn o=false/\zdi o=true/\zcp o=true/\zdj o=true:=by
 unfold oChk at h
 split at h
 . cases h
 . rename_i h1
   split at h
   . rename_i h2
     simp only [vab] at h2;exact ⟨by simpa using h1,h2.1,h2.2.1,h2.2.2⟩
   . cases h
theorem zfo {o:Ob} (h:oChk o=0) {j:Nat} (hj:j<o.fixes.length):FixR o o.fixes[j]:=by
 obtain ⟨hm,_,_,hf⟩:=zhx h;unfold zfn at hm;simp only [vas] at hm;have hc:=of_decide_eq_false hm.2.2.2;have:=zak.1 hf j hj;unfold zf3 at this;rw [vac hj] at this;simp only [vab] at this;obtain ⟨_,hp,hb⟩:=this;have hp:=of_decide_eq_true hp;unfold zv0 at hb
 by_cases k1:o.fixes[j].kind=1
 . rw [if_pos k1] at hb
   unfold okF at hb;simp only [vab,decide_eq_true_eq] at hb;exact ⟨hp.1,hp.2,by omega,hb.1,by omega,hb.2.2.1,by omega⟩
 . rw [if_neg k1] at hb
   by_cases k2:o.fixes[j].kind=2\/o.fixes[j].kind=3
   . rw [if_pos k2] at hb
     unfold okF at hb;simp only [vab,decide_eq_true_eq] at hb;exact ⟨hp.1,hp.2,by omega,hb.1,by omega,hb.2.2.1,by omega⟩
   . rw [if_neg k2] at hb;cases hb
theorem zwg {o:Ob} {m:Int} (h0:0<=m) (h1:m<=o.uses.length):z2f o m (zlc o m):=by
 unfold zlc
 by_cases hm:m=0
 . rw [if_pos hm];exact Or.inl ⟨hm,rfl⟩
 . rw [if_neg hm]
   refine Or.inr ⟨(m - 1).toNat,by omega,by omega,?_⟩;rw [vav,vac (by omega)]
   rfl
def zz0 (l:List Ob):Prop:=∀ i (h:i<l.length) (m:Int),0<=m->m<=l[i].uses.length->(lkO l (zlc l[i] m).data.toList l.length).isSome=true
theorem zja {l:List Ob} (h:zz0 l) {i:Nat} (hi:i<l.length) {m:Int} (h0:0<=m) (h1:m<=l[i].uses.length):lkO l (zlc l[i] m).data.toList l.length=some (modO l l[i] m)/\modO l l[i] m<l.length:=by
 have:=h i hi m h0 h1;unfold modO
 cases e:lkO l (zlc l[i] m).data.toList l.length with
 | none=>rw [e] at this;cases this
 | some k=>exact ⟨rfl,(zo2 _ _ _ (vaa _) e).1⟩
theorem ze2 {l:List Ob} {k:Nat} (h:k<l.length):entsO l k=l[k].entries:=by unfold entsO;rw [vac h]
theorem zsx {o:Ob} {p:Nat} (h:p<o.code.length):aAt o p=o.code[p].a:=by unfold aAt;rw [vbp,vac h]
theorem zjl {w:World} {b:Nat} {x0 x1 x2:Value} {t:TypeId} (h:w.heap[b]? = some (.cells #[x0,x1,x2] t (0,0))):w.cell? (qa b 0)=some x0/\w.cell? (qa b 1)=some x1/\w.cell? (qa b 2)=some x2:=by
 refine ⟨?_,?_,?_⟩<;>(rw [vep h];rfl)
theorem zqx (l:List Ob) (ev:Nat->Value) (a:OA) (cap pb:Nat) (w:World) (hO:OsAt w a l ev) (h4:l.length<=4) (hP:zi8 w pb l ev l.length) (hR:∀ o ∈ l,oChk o=0) (hF:zz0 l) :
 qc 107 #[.map (some pb),.slice a l.length cap] w fun e w'=>e = .returned (.bool (zih l))/\qb w w':=by
 have Bt:=hO.bound;have HO:=hid hO;have HP:=hid hP;have MW:=hid hR;have Kl:=hid hF;clear hO hP hR hF
 obtain ⟨r,hr⟩:∃ r,r=zih l:=⟨_,rfl⟩
 rw [← hr];have HR:=hid hr;clear hr;go_enter Tryz.func107,Tryz.ntmps107;go_wp2_with fail
 go_loopw [6,8,11] (fun _ _ i wr=>∃ j:Nat,j<=l.length/\i=qi j/\(∀ k,k<j->zdn l k=true)/\qb w wr) (fun _ _ i _=>l.length - (intOf i).toNat)
 case atStart=>exact ⟨0,vae _,rfl,fun k h=>absurd h (vbe _),Below.refl _ _⟩
 case round =>
  obtain ⟨j,hj,rfl,A6,hb⟩:=hrel;have HA:=hid A6;have HB:=hid hb;clear A6
  by_cases A0:j<l.length
  . obtain ⟨b,off,x1,y1,x3,y3,x4,y4,x5,y5,rfl,B9,c0,c1,c2,c3,c4,c5,c6,ho, -, -⟩:=(HO.out.later hb).get j A0
    have Er:Hid (zdn l j=ze1 l[j].fixes.length (zcr l l[j])):=by show zdn l j=_;unfold zdn;rw [vac A0]
    have CC:=hid ho;have Mj:=ho.fixes.bound;have Ea:=hid (fun (q:Nat) (hq:q<l[j].fixes.length)=>zfo (MW.out l[j] (vag A0)) hq);have Ep:=hid (fun (m:Int) (h0:0<=m) (h1:m<=l[j].uses.length)=>zja Kl.out A0 h0 h1);clear hb ho;generalize l[j]=x at *;go_wp2_with fail;clear c0 c1 c2 c3 c4 c5 c6 B9
    go_loopw [8,18] (fun _ i AQ=>∃ q:Nat,q<=x.fixes.length/\i=qi q/\(∀ k,k<q->zcr l x k=true)/\Below (wr.alloc (obC x x1 y1 x3 y3 x4 y4 x5 y5)).heap.size (wr.alloc (obC x x1 y1 x3 y3 x4 y4 x5 y5)) AQ) (fun _ i _=>x.fixes.length - (intOf i).toNat)
    case atStart=>exact ⟨0,vae _,rfl,fun k h=>absurd h (vbe _),Below.refl _ _⟩
    case round=>
     obtain ⟨AQ,rfl⟩:∃ x,x=wr:=⟨_,rfl⟩
     obtain ⟨q,hq,rfl,hallq,Aa⟩:=hrel;have HQ:=hid hallq;have Ad:=hid Aa;have A9:=thenB (al1 wr _) Aa;have Bp:=hid (thenB HB.out A9);have CJ:=(Aa.block wr.heap.size (by simp)).trans (heap_newP wr (obC x x1 y1 x3 y3 x4 y4 x5 y5));clear hallq
     by_cases Cy:q<x.fixes.length
     . obtain ⟨fb,fo,rfl,hfx⟩:=((CC.out.later A9).fixes).gf q Cy
       obtain ⟨G6,fr2,fr3,fr4,fr5,fr6,fr7⟩:=Ea.out q Cy;obtain ⟨Dx,Bi⟩:=Ep.out x.fixes[q].m fr6 fr7
       have FS:Hid (zcr l x q=zgp l x x.fixes[q]):=by show zcr l x q=_;unfold zcr;rw [vac Cy]
       obtain ⟨Eg,g0,g1,g2, -, -, -⟩:=hfx;have Gg:=hid (zwg (o:=x) fr6 fr7);have J0:=CC.out.uses.bound;have DY:=CC.out.code.bound;generalize x.fixes[q]=f at *
       obtain ⟨p,hp⟩:∃ p:Nat,f.at_=p:=⟨f.at_.toNat,by omega⟩
       have CG:p<x.code.length:=by omega
       obtain ⟨cb,co,rfl,DZ⟩:=((CC.out.later A9).code).gi p CG;obtain ⟨GQ, -,i1, -, -, -, -⟩:=DZ
       have Fd:Hid (aAt x f.at_=x.code[p].a):=by show aAt x f.at_=_;rw [hp];exact zsx CG
       have LK:(p:Int)<x.code.length:=by omega
       rw [Fd.out] at fr4 fr5;rw [hp] at g0;generalize x.code[p].a=A at *
       obtain ⟨X,hX⟩:∃ X,X=AQ.alloc (.cells #[qi p,qi f.kind,qi f.m] 67):=⟨_,rfl⟩
       have Bu:qb AQ X:=by rw [hX];exact al1 _ _
       have HX:=hid hX
       have BH:X.heap[AQ.heap.size]? = some (.cells #[qi p,qi f.kind,qi f.m] 67):=by rw [hX];exact heap_newP _ _
       have AW:=(Bu.block _ (lt_of_heap CJ)).trans CJ;have EA:=lt_of_heap AW;have EF:=lt_of_heap BH
       have HS:=hid (fun W (hW:qb X W)=>(by
        obtain ⟨e0,e1,e2,e3,e4,e5,e6,_⟩:=zaj ((hW.block _ EA).trans AW);obtain ⟨q0,q1,q2⟩:=zjl ((hW.block _ EF).trans BH)
        exact ⟨e0,e1,e2,e3,e4,e5,e6,q0,q1,q2,(hW.cell (p:=⟨cb,co+p*3+1,none⟩) (by have:=Bu.size;show cb<_;omega)).trans ((Bu.cell (p:=⟨cb,co+p*3+1,none⟩) GQ).trans i1)⟩:W.cell? (qa wr.heap.size 0)=some (.string x.name)/\W.cell? (qa wr.heap.size 1)=some (.slice x1 x.uses.length y1)/\W.cell? (qa wr.heap.size 2)=some (qi x.data)/\W.cell? (qa wr.heap.size 3)=some (.slice (some (qa cb co)) x.code.length y3)/\W.cell? (qa wr.heap.size 4)=some (.slice (some (qa fb fo)) x.fixes.length y4)/\W.cell? (qa wr.heap.size 5)=some (.slice x5 x.entries.length y5)/\W.cell? (qa wr.heap.size 6)=some (qi x.main)/\W.cell? (qa AQ.heap.size 0)=some (qi p)/\W.cell? (qa AQ.heap.size 1)=some (qi f.kind)/\W.cell? (qa AQ.heap.size 2)=some (qi f.m)/\W.cell? ⟨cb,co+p*3+1,none⟩=some (qi A)))
       have CF:=hid (thenB Bp.out Bu);obtain ⟨_,_,_,_,_,_,_,_,xk,yk, -, -, -, -, -, -, -, -, -,C0, -,hek⟩:=HO.out.get (modO l x f.m) Bi;have HM:=hid (fun W (hW:qb X W)=>zig l ev pb W (HP.out.later (thenB CF.out hW)) x x1 y1 (some (qa cb co)) y3 (some (qa fb fo)) y4 x5 y5 ((CC.out.later (thenB (thenB (al1 wr _) Ad.out) Bu)).later hW) f.m _ Gg.out _ Dx xk _ yk hek);have D7:=C0.entries.bound;clear C0 hek;clear Bu hX AW CJ BH Aa A9 i1;go_upto_region 7 with fail;rw [← HX.out]
       go_cut [41] from 20 to 41 (fun v wc=>v = .bool (!(zcr l x q))/\Hid (qb X wc))
       case first=>
        by_cases k2:f.kind=2
        . generalize J7:l[modO l x f.m].entries.length=nk at *
          have C7:(entsO l (modO l x f.m)).length=nk:=by rw [ze2 Bi];exact J7
          have I0:Hid (zgp l x f = !decide ((nk:Int)<=A)):=by show zgp l x f=_;unfold zgp;rw [Fd.out,C7];simp [k2]
          have IQ:(f.kind == 2)=true:=by simp [k2]
          clear J7 C7 Dx k2 hp G6 fr2 fr3 fr6 fr7
          by_cases hA:(nk:Int)<=A
          . have HV:Hid (zcr l x q=false):=FS.out.trans (I0.out.trans (by simp [hA]))
            refine wp_region_held_drew (S:=(fun W=>W.cell? (qa wr.heap.size 0)=some (.string x.name)/\W.cell? (qa wr.heap.size 1)=some (.slice x1 x.uses.length y1)/\W.cell? (qa wr.heap.size 2)=some (qi x.data)/\W.cell? (qa wr.heap.size 3)=some (.slice (some (qa cb co)) x.code.length y3)/\W.cell? (qa wr.heap.size 4)=some (.slice (some (qa fb fo)) x.fixes.length y4)/\W.cell? (qa wr.heap.size 5)=some (.slice x5 x.entries.length y5)/\W.cell? (qa wr.heap.size 6)=some (qi x.main)/\W.cell? (qa AQ.heap.size 0)=some (qi p)/\W.cell? (qa AQ.heap.size 1)=some (qi f.kind)/\W.cell? (qa AQ.heap.size 2)=some (qi f.m)/\W.cell? ⟨cb,co+p*3+1,none⟩=some (qi A))) (by kernel_rfl) (HS.out _ (zi9 X)) (fun A4=>?_);refine tkl 0 (pq AQ.heap.size 1) rfl (by kernel_rfl) (fun _ _ _ h=>h) (fun W hW=>by kernel_rfl) A4 ?_;refine tkl 1 (qi f.kind) rfl (by kernel_rfl) (fun _ _ _ h=>h) (fun W hW=>by obtain ⟨s0,s1,s2,s3,s4,s5,s6,f0,f1,f2,i1⟩:=hW;go_simp) A4 ?_
            refine tkl 2 (.bool true) rfl (by kernel_rfl) (fun _ _ _ h=>h) (fun W hW=>by go_simp) A4 ?_;refine tkl 3 (.bool true) rfl (by kernel_rfl) (fun _ _ _ h=>h) (fun W hW=>by kernel_rfl) A4 ?_;refine tkl 4 (pq wr.heap.size 3) rfl (by kernel_rfl) (fun _ _ _ h=>h) (fun W hW=>by kernel_rfl) A4 ?_;refine tkl 5 (.slice (some (qa cb co)) x.code.length y3) rfl (by kernel_rfl) (fun _ _ _ h=>h) (fun W hW=>by obtain ⟨s0,s1,s2,s3,s4,s5,s6,f0,f1,f2,i1⟩:=hW;go_simp) A4 ?_;refine tkl 6 (pq AQ.heap.size 0) rfl (by kernel_rfl) (fun _ _ _ h=>h) (fun W hW=>by kernel_rfl) A4 ?_;refine tkl 7 (qi p) rfl (by kernel_rfl) (fun _ _ _ h=>h) (fun W hW=>by obtain ⟨s0,s1,s2,s3,s4,s5,s6,f0,f1,f2,i1⟩:=hW;go_simp) A4 ?_;refine tkl 8 (.pointer (some ⟨cb,co+p*3,none⟩)) rfl (by kernel_rfl) (fun _ _ _ h=>h) (fun W hW=>by go_simp) A4 ?_;refine tkl 9 (.pointer (some ⟨cb,co+p*3+1,none⟩)) rfl (by kernel_rfl) (fun _ _ _ h=>h) (fun W hW=>by kernel_rfl) A4 ?_
            refine tkl 10 (qi A) rfl (by kernel_rfl) (fun _ _ _ h=>h) (fun W hW=>by obtain ⟨s0,s1,s2,s3,s4,s5,s6,f0,f1,f2,i1⟩:=hW;go_simp) A4 ?_;refine tkl 11 (.map (some pb)) rfl (by kernel_rfl) (fun _ _ _ h=>h) (fun W hW=>by kernel_rfl) A4 ?_;refine tkl 12 (.agg #[.string x.name,.slice x1 x.uses.length y1,qi x.data,.slice (some (qa cb co)) x.code.length y3,.slice (some (qa fb fo)) x.fixes.length y4,.slice x5 x.entries.length y5,qi x.main]) rfl (by kernel_rfl) (fun _ _ _ h=>h) (fun W hW=>by obtain ⟨s0,s1,s2,s3,s4,s5,s6,f0,f1,f2,i1⟩:=hW;go_simp) A4 ?_;refine tkl 13 (pq AQ.heap.size 2) rfl (by kernel_rfl) (fun _ _ _ h=>h) (fun W hW=>by kernel_rfl) A4 ?_;refine tkl 14 (qi f.m) rfl (by kernel_rfl) (fun _ _ _ h=>h) (fun W hW=>by obtain ⟨s0,s1,s2,s3,s4,s5,s6,f0,f1,f2,i1⟩:=hW;go_simp) A4 ?_;refine wpAnyH_ready (rs:=[15]) (by kernel_rfl) (by simp) ?_
            refine AllReadyH.cons rfl (fun Kq hK=>?_) AllReadyH.nil;go_simp
            go_wp2_with (go_at_call 146;refine (HM.out _ (zi9 X)).mono ?_;rintro e w9 ⟨rfl,BE⟩)
            have BT:=hid (thenB (zi9 X) BE);refine hK.out _ _ (HS.out _ BT.out) (fun A4=>?_);clear hK Kq BE
            (try simp only [Act.put,vad,van,vao])
            refine tkl 16 (.slice xk nk yk) rfl (by kernel_rfl) (fun _ _ _ h=>h) (fun W hW=>by kernel_rfl) A4 ?_;refine tkl 17 (qi nk) rfl (by kernel_rfl) (fun _ _ _ h=>h) (fun W hW=>by go_simp) A4 ?_;refine tkl 18 (.bool true) rfl (by kernel_rfl) (fun _ _ _ h=>h) (fun W hW=>by go_simp) A4 ?_;refine tkl 19 (.bool true) rfl (by kernel_rfl) (fun _ _ _ h=>h) (fun W hW=>by go_simp) A4 ?_;refine wpAnyH_done (by kernel_rfl) ?_ _;clear A4;go_simp;go_wp2_with fail;go_meet;exact ⟨by rw [HV.out];rfl,BT⟩
          . have HV:Hid (zcr l x q=true):=FS.out.trans (I0.out.trans (by simp [hA]))
            have R6:A<(nk:Int):=by omega
            refine wp_region_held_drew (S:=(fun W=>W.cell? (qa wr.heap.size 0)=some (.string x.name)/\W.cell? (qa wr.heap.size 1)=some (.slice x1 x.uses.length y1)/\W.cell? (qa wr.heap.size 2)=some (qi x.data)/\W.cell? (qa wr.heap.size 3)=some (.slice (some (qa cb co)) x.code.length y3)/\W.cell? (qa wr.heap.size 4)=some (.slice (some (qa fb fo)) x.fixes.length y4)/\W.cell? (qa wr.heap.size 5)=some (.slice x5 x.entries.length y5)/\W.cell? (qa wr.heap.size 6)=some (qi x.main)/\W.cell? (qa AQ.heap.size 0)=some (qi p)/\W.cell? (qa AQ.heap.size 1)=some (qi f.kind)/\W.cell? (qa AQ.heap.size 2)=some (qi f.m)/\W.cell? ⟨cb,co+p*3+1,none⟩=some (qi A))) (by kernel_rfl) (HS.out _ (zi9 X)) (fun A4=>?_);refine tkl 0 (pq AQ.heap.size 1) rfl (by kernel_rfl) (fun _ _ _ h=>h) (fun W hW=>by kernel_rfl) A4 ?_;refine tkl 1 (qi f.kind) rfl (by kernel_rfl) (fun _ _ _ h=>h) (fun W hW=>by obtain ⟨s0,s1,s2,s3,s4,s5,s6,f0,f1,f2,i1⟩:=hW;go_simp) A4 ?_
            refine tkl 2 (.bool true) rfl (by kernel_rfl) (fun _ _ _ h=>h) (fun W hW=>by go_simp) A4 ?_;refine tkl 3 (.bool true) rfl (by kernel_rfl) (fun _ _ _ h=>h) (fun W hW=>by kernel_rfl) A4 ?_;refine tkl 4 (pq wr.heap.size 3) rfl (by kernel_rfl) (fun _ _ _ h=>h) (fun W hW=>by kernel_rfl) A4 ?_;refine tkl 5 (.slice (some (qa cb co)) x.code.length y3) rfl (by kernel_rfl) (fun _ _ _ h=>h) (fun W hW=>by obtain ⟨s0,s1,s2,s3,s4,s5,s6,f0,f1,f2,i1⟩:=hW;go_simp) A4 ?_;refine tkl 6 (pq AQ.heap.size 0) rfl (by kernel_rfl) (fun _ _ _ h=>h) (fun W hW=>by kernel_rfl) A4 ?_;refine tkl 7 (qi p) rfl (by kernel_rfl) (fun _ _ _ h=>h) (fun W hW=>by obtain ⟨s0,s1,s2,s3,s4,s5,s6,f0,f1,f2,i1⟩:=hW;go_simp) A4 ?_;refine tkl 8 (.pointer (some ⟨cb,co+p*3,none⟩)) rfl (by kernel_rfl) (fun _ _ _ h=>h) (fun W hW=>by go_simp) A4 ?_;refine tkl 9 (.pointer (some ⟨cb,co+p*3+1,none⟩)) rfl (by kernel_rfl) (fun _ _ _ h=>h) (fun W hW=>by kernel_rfl) A4 ?_
            refine tkl 10 (qi A) rfl (by kernel_rfl) (fun _ _ _ h=>h) (fun W hW=>by obtain ⟨s0,s1,s2,s3,s4,s5,s6,f0,f1,f2,i1⟩:=hW;go_simp) A4 ?_;refine tkl 11 (.map (some pb)) rfl (by kernel_rfl) (fun _ _ _ h=>h) (fun W hW=>by kernel_rfl) A4 ?_;refine tkl 12 (.agg #[.string x.name,.slice x1 x.uses.length y1,qi x.data,.slice (some (qa cb co)) x.code.length y3,.slice (some (qa fb fo)) x.fixes.length y4,.slice x5 x.entries.length y5,qi x.main]) rfl (by kernel_rfl) (fun _ _ _ h=>h) (fun W hW=>by obtain ⟨s0,s1,s2,s3,s4,s5,s6,f0,f1,f2,i1⟩:=hW;go_simp) A4 ?_;refine tkl 13 (pq AQ.heap.size 2) rfl (by kernel_rfl) (fun _ _ _ h=>h) (fun W hW=>by kernel_rfl) A4 ?_;refine tkl 14 (qi f.m) rfl (by kernel_rfl) (fun _ _ _ h=>h) (fun W hW=>by obtain ⟨s0,s1,s2,s3,s4,s5,s6,f0,f1,f2,i1⟩:=hW;go_simp) A4 ?_;refine wpAnyH_ready (rs:=[15]) (by kernel_rfl) (by simp) ?_
            refine AllReadyH.cons rfl (fun Kq hK=>?_) AllReadyH.nil;go_simp
            go_wp2_with (go_at_call 146;refine (HM.out _ (zi9 X)).mono ?_;rintro e w9 ⟨rfl,BE⟩)
            have BT:=hid (thenB (zi9 X) BE);refine hK.out _ _ (HS.out _ BT.out) (fun A4=>?_);clear hK Kq BE
            (try simp only [Act.put,vad,van,vao])
            refine tkl 16 (.slice xk nk yk) rfl (by kernel_rfl) (fun _ _ _ h=>h) (fun W hW=>by kernel_rfl) A4 ?_;refine tkl 17 (qi nk) rfl (by kernel_rfl) (fun _ _ _ h=>h) (fun W hW=>by go_simp) A4 ?_;refine tkl 18 (.bool false) rfl (by kernel_rfl) (fun _ _ _ h=>h) (fun W hW=>by go_simp) A4 ?_;refine tkl 19 (.bool false) rfl (by kernel_rfl) (fun _ _ _ h=>h) (fun W hW=>by go_simp) A4 ?_;refine wpAnyH_done (by kernel_rfl) ?_ _;clear A4;go_simp;go_wp2_with fail;go_meet;exact ⟨by rw [HV.out];rfl,BT⟩
        . have HV:Hid (zcr l x q=true):=FS.out.trans (by unfold zgp;simp [k2])
          have IQ:(f.kind == 2)=false:=by simp [k2]
          clear k2 hp G6 fr2 fr3 fr6 fr7 Dx;refine wp_region_held_drew (S:=(fun W=>W.cell? (qa wr.heap.size 0)=some (.string x.name)/\W.cell? (qa wr.heap.size 1)=some (.slice x1 x.uses.length y1)/\W.cell? (qa wr.heap.size 2)=some (qi x.data)/\W.cell? (qa wr.heap.size 3)=some (.slice (some (qa cb co)) x.code.length y3)/\W.cell? (qa wr.heap.size 4)=some (.slice (some (qa fb fo)) x.fixes.length y4)/\W.cell? (qa wr.heap.size 5)=some (.slice x5 x.entries.length y5)/\W.cell? (qa wr.heap.size 6)=some (qi x.main)/\W.cell? (qa AQ.heap.size 0)=some (qi p)/\W.cell? (qa AQ.heap.size 1)=some (qi f.kind)/\W.cell? (qa AQ.heap.size 2)=some (qi f.m)/\W.cell? ⟨cb,co+p*3+1,none⟩=some (qi A))) (by kernel_rfl) (HS.out _ (zi9 X)) (fun A4=>?_);refine tkl 0 (pq AQ.heap.size 1) rfl (by kernel_rfl) (fun _ _ _ h=>h) (fun W hW=>by kernel_rfl) A4 ?_;refine tkl 1 (qi f.kind) rfl (by kernel_rfl) (fun _ _ _ h=>h) (fun W hW=>by obtain ⟨s0,s1,s2,s3,s4,s5,s6,f0,f1,f2,i1⟩:=hW;go_simp) A4 ?_
          refine tkl 2 (.bool false) rfl (by kernel_rfl) (fun _ _ _ h=>h) (fun W hW=>by go_simp) A4 ?_;refine tkl 3 (.bool false) rfl (by kernel_rfl) (fun _ _ _ h=>h) (fun W hW=>by kernel_rfl) A4 ?_;refine zqw 4 rfl (by kernel_rfl) (fun _ _ _ h=>h) A4 ?_;refine zqw 5 rfl (by kernel_rfl) (fun _ _ _ h=>h) A4 ?_;refine zqw 6 rfl (by kernel_rfl) (fun _ _ _ h=>h) A4 ?_;refine zqw 7 rfl (by kernel_rfl) (fun _ _ _ h=>h) A4 ?_;refine zqw 8 rfl (by kernel_rfl) (fun _ _ _ h=>h) A4 ?_;refine zqw 9 rfl (by kernel_rfl) (fun _ _ _ h=>h) A4 ?_;refine zqw 10 rfl (by kernel_rfl) (fun _ _ _ h=>h) A4 ?_;refine zqw 11 rfl (by kernel_rfl) (fun _ _ _ h=>h) A4 ?_;refine zqw 12 rfl (by kernel_rfl) (fun _ _ _ h=>h) A4 ?_;refine zqw 13 rfl (by kernel_rfl) (fun _ _ _ h=>h) A4 ?_;refine zqw 14 rfl (by kernel_rfl) (fun _ _ _ h=>h) A4 ?_
          refine zqw 15 rfl (by kernel_rfl) (fun _ _ _ h=>h) A4 ?_;refine zqw 16 rfl (by kernel_rfl) (fun _ _ _ h=>h) A4 ?_;refine zqw 17 rfl (by kernel_rfl) (fun _ _ _ h=>h) A4 ?_;refine zqw 18 rfl (by kernel_rfl) (fun _ _ _ h=>h) A4 ?_;refine tkl 19 (.bool false) rfl (by kernel_rfl) (fun _ _ _ h=>h) (fun W hW=>by kernel_rfl) A4 ?_;refine wpAnyH_done (by kernel_rfl) ?_ _;clear A4;go_simp;have BT:=hid (zi9 X);go_wp2_with fail;go_meet;exact ⟨by rw [HV.out];rfl,BT⟩
       case rest=>
        obtain ⟨rfl,hbc⟩:=hcut;have BT:=hbc;have Gs:=hbc.out.size;clear HM HS Ep Ea Gg Fd HP hbc
        cases hv:zcr l x q with
        | false=>
          have HV:Hid (r=false):=HR.out.trans (za1 (i:=j) A0 (Er.out.trans (za1 (i:=q) Cy hv)));clear hv;go_wp2_with fail;go_ret;exact ⟨ret_bool HV.out.symm,thenB CF.out BT.out⟩
        | true=>
          have HV:=hid hv;clear hv;go_wp2_with fail;go_roundw
          case rel=>exact ⟨q+1,by omega,by go_num,zbj HQ.out HV.out,(thenB Ad.out (thenB (by rw [HX.out];exact al1 _ _) BT.out))⟩
          case measure=>simp [intOf];omega
     . obtain rfl:q=x.fixes.length:=by omega
       have HT:Hid (zdn l j=true):=Er.out.trans (zak.2 HQ.out);clear CJ Aa A9;go_wp2_with fail;go_roundw
       case rel=>exact ⟨j+1,by omega,by go_num,zbj HA.out HT.out,Bp.out⟩
       case measure=>simp [intOf];omega
  . obtain rfl:j=l.length:=by omega
    have HT:Hid (r=true):=HR.out.trans (zak.2 HA.out);go_wp2_with fail;go_ret;exact ⟨ret_bool HT.out.symm,HB.out⟩
end Go.Proofs.YtndkhgakfodldaaGreatDoor
