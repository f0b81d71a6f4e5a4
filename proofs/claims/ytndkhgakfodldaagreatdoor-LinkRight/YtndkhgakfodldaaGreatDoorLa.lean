import Derived.Test.YtndkhgakfodldaaGreatDoorNo
import Derived.Sort.KeysCollected
namespace Go.Proofs.YtndkhgakfodldaaGreatDoor
set_option maxRecDepth 100000
open Go.RowKit Go.Maps Go.Sort Go.WideMaps
set_option linter.unusedSimpArgs false
set_option linter.unusedVariables false
structure OsAt (w:World) (a:OA) (l:List Ob) (ev:Nat->Value):Prop where
 bound:l.length<=17592186044416
 get:∀ i (h:i<l.length),∃ b off x1 y1 x3 y3 x4 y4 x5 y5,a=some (qa b off)/\b<w.heap.size/\w.cell? ⟨b,off+i*7,none⟩=some (.string l[i].name)/\w.cell? ⟨b,off+i*7+1,none⟩=some (.slice x1 l[i].uses.length y1)/\w.cell? ⟨b,off+i*7+2,none⟩=some (qi l[i].data)/\w.cell? ⟨b,off+i*7+3,none⟩=some (.slice x3 l[i].code.length y3)/\w.cell? ⟨b,off+i*7+4,none⟩=some (.slice x4 l[i].fixes.length y4)/\w.cell? ⟨b,off+i*7+5,none⟩=some (.slice x5 l[i].entries.length y5)/\w.cell? ⟨b,off+i*7+6,none⟩=some (qi l[i].main)/\
  OvAt w l[i] x1 x3 x4 x5/\l[i].uses.length<=y1/\ev i = .slice x5 l[i].entries.length y5
theorem OsAt.later {w w':World} {a:OA} {l:List Ob} {ev:Nat->Value} (h:OsAt w a l ev) (hb:qb w w'):OsAt w' a l ev:=⟨h.bound,fun i hi=>by
 obtain ⟨b,off,x1,y1,x3,y3,x4,y4,x5,y5,ha,hl,c0,c1,c2,c3,c4,c5,c6,ho,hc,he⟩:=h.get i hi;have hz:=hb.size
 exact ⟨b,off,x1,y1,x3,y3,x4,y4,x5,y5,ha,by omega,(hb.cell (p:=(qa b _)) hl).trans c0,(hb.cell (p:=(qa b _)) hl).trans c1,(hb.cell (p:=(qa b _)) hl).trans c2,(hb.cell (p:=(qa b _)) hl).trans c3,(hb.cell (p:=(qa b _)) hl).trans c4,(hb.cell (p:=(qa b _)) hl).trans c5,(hb.cell (p:=(qa b _)) hl).trans c6,ho.later hb,hc,he⟩⟩
def cdL (l:List Ob):Int:=(l.map (fun o=>(o.code.length:Int))).sum
def dtL (l:List Ob):Int:=(l.map Ob.data).sum
theorem zjr {l:List Ob} {j:Nat} (h:j<l.length):cdL (l.take (j+1))=cdL (l.take j)+l[j].code.length:=by
 unfold cdL;rw [vaf h,vbr,List.sum_append];simp
theorem zn8 {l:List Ob} {j:Nat} (h:j<l.length):dtL (l.take (j+1))=dtL (l.take j)+l[j].data:=by
 unfold dtL;rw [vaf h,vbr,List.sum_append];simp
def z6n (l:List Ob):Prop:=l.length<=4/\∀ o ∈ l,1<=o.code.length/\o.code.length<=2048/\0<=o.data/\o.data<=512
theorem zf0 {l:List Ob} (h:z6n l):∀ j,j<=l.length->0<=cdL (l.take j)/\cdL (l.take j)<=2048*j/\0<=dtL (l.take j)/\dtL (l.take j)<=512*j
 | 0,_=>by simp [cdL,dtL]
 | j+1,hj=>by
   have ih:=zf0 h j (by omega);have:=h.2 l[j] (vaj (by omega));rw [zjr (by omega),zn8 (by omega)];omega
def nmO (l:List Ob):List (L8):=l.map (fun o=>o.name.data.toList)
theorem zn9 (l:List Ob):(nmO l).length=l.length:=by simp [nmO]
theorem z1b {l:List Ob} {j:Nat} (h:j<l.length):nmO (l.take (j+1))=nmO (l.take j)++[l[j].name.data.toList]:=by
 unfold nmO;rw [vaf h,vbr]
 rfl
def pv (l:List Ob) (ev:Nat->Value) (i:Nat):Value:=.agg #[qi i,qi ((l.length:Int)+1+cdL (l.take i)),qi (dtL (l.take i)),ev i]
def pv0:Value:=.agg #[qi 0,qi 0,qi 0,qs]
def lkO (l:List Ob) (a:L8):Nat->Option Nat
 | 0=>none
 | j+1=>match l[j]? with
   | some o=>if o.name.data.toList=a then some j else lkO l a j
   | none=>lkO l a j
theorem zoa {l:List Ob} {j:Nat} (h:j<l.length) (a:L8):lkO l a (j+1)=if l[j].name.data.toList=a then some j else lkO l a j:=by
 rw [lkO,vae h]
theorem zrv {l:List Ob} (a:L8):∀ j,j<=l.length->(lkO l a j).isSome=(nmO (l.take j)).contains a
 | 0,_=>by simp [lkO,nmO]
 | j + 1,hj=>by
   rw [zoa (by omega),z1b (by omega)]
   by_cases e:l[j].name.data.toList=a
   . rw [if_pos e];simp [e]
   . rw [if_neg e,zrv a j (by omega)]
     have e':¬ a=l[j].name.data.toList:=fun h=>e h.symm
     simp [e']
theorem zt5 {l:List Ob} (a:L8):∀ j i,j<=l.length->lkO l a j=some i->i<j/\∃ h:i<l.length,l[i].name.data.toList=a
 | 0,i,_,h=>by simp [lkO] at h
 | j + 1,i,hj,h=>by
   rw [zoa (by omega)] at h
   by_cases e:l[j].name.data.toList=a
   . rw [if_pos e] at h
     obtain rfl:j=i:=vab h;exact ⟨by omega,by omega,e⟩
   . rw [if_neg e] at h
     obtain ⟨h1,h2⟩:=zt5 a j i (by omega) h;exact ⟨by omega,h2⟩
theorem zt6:Keyed Tryz.prog 9:=string_keyed Tryz.underlying9
theorem z3t (w:World):(zeroValue 227).run Tryz.prog w = .ok pv0 w:=by kernel_rfl
def zjs (w:World) (b:Nat) (l:List Ob) (ev:Nat->Value) (j:Nat):Prop:=∃ (n:Nat) (D:DataW Value),n<=j/\w.ownsMap Tryz.prog 9 zq1 b n D/\∀ a,has D (.string a)=(lkO l a j).isSome/\D.atKey (.string a) (.held pv0) = .held ((lkO l a j).elim pv0 (pv l ev))
section
variable {w w':World} {b:Nat} {l:List Ob} {ev:Nat->Value} {j:Nat}
theorem zjs.lt (h:zjs w b l ev j):b<w.heap.size:=by obtain ⟨n,D,_,h1,_⟩:=h;exact h1.lt
theorem zjs.later (h:zjs w b l ev j) (hb:qb w w'):zjs w' b l ev j:=by
 obtain ⟨n,D,h0,h1,h2⟩:=h;have A4:=h1.lt;obtain ⟨es,clock,AY,r⟩:=h1;exact ⟨n,D,h0,⟨es,clock,(hb.block b A4).trans AY,r⟩,h2⟩
theorem zjs.made (w:World) (l:List Ob) (ev:Nat->Value):zjs (w.alloc (.map #[] 0)) w.heap.size l ev 0:=⟨0,.map [],vaa _,vel w _ _ _,fun _=>⟨rfl,rfl⟩⟩
theorem zjs.put (h:zjs w b l ev j) (hj:j<l.length) (h4:l.length<=4) (hs:l[j].name.size<=maxLen) :
 ∃ w',(Instr.mapUpdate 157 (.map (some b)) (.string l[j].name) (pv l ev j)).run Tryz.prog w = .ok () w'/\zjs w' b l ev (j+1)/\w.grownBy w' (some b):=by
 obtain ⟨n,D,h0,h1,h2⟩:=h;obtain ⟨w',r1,r2,r3⟩:=h1.update zt6 Tryz.underlying157 (by unfold maxLen;omega) (keyOf_string_mk Tryz.underlying9 hs) (val:=pv l ev j) (d:=.held (pv l ev j)) (ps:=[]) rfl;refine ⟨w',r1,⟨n+1,_,by omega,r2,fun a=>?_⟩,r3⟩;rw [zoa hj]
 by_cases e:l[j].name.data.toList=a
 . subst e
   rw [if_pos rfl];exact ⟨has_put_same (k:=.string l[j].name.data.toList) h1.isMap trivial _,atKey_put_same (k:=.string l[j].name.data.toList) h1.isMap trivial _ _⟩
 . have Ak:Lit.string a≠.string l[j].name.data.toList:=fun h=>e (by injection h with h;exact h.symm)
   rw [if_neg e,has_put_other Ak,atKey_put_other Ak];exact h2 a
theorem zjs.look (h:zjs w b l ev j) {s:ByteArray} (hs:s.size<=maxLen) :
 (Instr.lookup 157 (.map (some b)) (.string s) false).run Tryz.prog w = .ok ((lkO l s.data.toList j).elim pv0 (pv l ev)) w:=by
 obtain ⟨n,D,h0,h1,h2⟩:=h;obtain ⟨v,ps,hrun,hv⟩:=h1.lookup zt6 Tryz.underlying157 (z3t w) (zd:=.held pv0) (zp:=[]) rfl (keyOf_string_mk Tryz.underlying9 hs);rw [(h2 _).2] at hv;simp only [zq1,vbe,vcz,vcy] at hv;rw [hrun,hv.1]
theorem zjs.look_ok (h:zjs w b l ev j) {s:ByteArray} (hs:s.size<=maxLen) :
 (Instr.lookup 157 (.map (some b)) (.string s) true).run Tryz.prog w = .ok (.tuple #[(lkO l s.data.toList j).elim pv0 (pv l ev),.bool (lkO l s.data.toList j).isSome]) w:=by
 obtain ⟨n,D,h0,h1,h2⟩:=h;obtain ⟨v,ps,hrun,hv⟩:=h1.look_ok zt6 Tryz.underlying157 (z3t w) (zd:=.held pv0) (zp:=[]) rfl (keyOf_string_mk Tryz.underlying9 hs);rw [(h2 _).2] at hv;simp only [zq1,vbe,vcz,vcy] at hv;rw [hrun,hv.1,(h2 _).1]
end
theorem zxl:∀ (ks l:List (L8)),ks.Nodup->(∀ a ∈ ks,a ∈ l)->ks.length<=l.length
 | [],_,_,_=>vag _
 | x :: ks,l,nd,h=>by
   obtain ⟨h1,h2⟩:=vdy.1 nd;have hx:=h x (by simp);have:=zxl ks (l.erase x) h2 (fun a ha=>(List.mem_erase_of_ne (fun e:a=x=>h1 (by rw [← e];exact ha))).2 (h a (by simp [ha])));rw [List.length_erase_of_mem hx] at this;have hp:0<l.length:=List.length_pos_of_mem hx
   simp;omega
theorem z62:∀ (l:List (L8)),∃ ks:List (L8),ks.Nodup/\(∀ a,a ∈ ks↔a ∈ l)/\(¬ l.Nodup->ks.length<l.length)
 | []=>⟨[],by simp,by simp,by simp⟩
 | x :: l=>by
   obtain ⟨ks,h1,h2,h3⟩:=z62 l;have E8:=zxl ks l h1 (fun a ha=>(h2 a).1 ha)
   by_cases hx:x ∈ l
   . refine ⟨ks,h1,fun a=>?_,fun _=>by simp;omega⟩
     rw [h2,vca];exact ⟨Or.inr,fun h=>h.elim (fun e=>e ▸ hx) id⟩
   . refine ⟨x :: ks,vdy.2 ⟨fun h=>hx ((h2 x).1 h),h1⟩,fun a=>by simp [h2],fun hn=>?_⟩
     have:=h3 (fun h=>hn (vdy.2 ⟨hx,h⟩))
     simp;omega
theorem zmo {w:World} {H:Type} {R:Value->Option (DataW H × List MemPlace)} {b n:Nat} {D:DataW H} (h:w.ownsMap Tryz.prog 9 R b n D) {l:List (L8)} (hl:l.Nodup) (hm:∀ a,has D (.string a)=l.contains a):l.Perm (strKeys D):=
 Collected.perm (left:=fun _=>false) ⟨hl,fun x=>by rw [hm x];simp⟩ h zt6 Tryz.underlying9 (fun _=>rfl)
theorem zmp {H:Type} (D:DataW H) (h:IsMap D):Maps.size D=(strKeys D).length:=by obtain ⟨es,rfl⟩:=h;simp [Maps.size,strKeys]
theorem zjs.len {w:World} {b:Nat} {l:List Ob} {ev:Nat->Value} (h:zjs w b l ev l.length) :
 ∃ m:Nat,(∀ ty,(Builtin.len_ #[157] ty #[.map (some b)]).run Tryz.prog w = .ok (qi m) w)/\((nmO l).Nodup->m=l.length)/\(¬ (nmO l).Nodup->m<l.length):=by
 obtain ⟨n,D,h0,h1,h2⟩:=h
 have hm:∀ a,has D (.string a)=(nmO l).contains a:=fun a=>by rw [(h2 a).1,zrv a _ (vaa _),vau]
 refine ⟨Maps.size D,fun ty=>h1.len Tryz.underlying157 ty,fun hn=>?_,fun hn=>?_⟩
 . rw [zmp D h1.isMap,← (zmo h1 hn hm).length_eq,zn9]
 . obtain ⟨ks,k1,k2,k3⟩:=z62 (nmO l)
   have hp:=zmo h1 k1 (fun a=>by rw [hm,vcj];simp [k2]);rw [zmp D h1.isMap,← hp.length_eq,← zn9 l];exact k3 hn
set_option maxHeartbeats 6400000
theorem z4l {x:Int} (h1 : -1000000000<=x) (h2:x<=1000000000):IntKind.i64.wrap x=x:=by simp only [IntKind.wrap,IntKind.bits,IntKind.signed];simp;omega
abbrev obC (x:Ob) (x1:OA) (y1:Nat) (x3:OA) (y3:Nat) (x4:OA) (y4:Nat) (x5:OA) (y5:Nat):Obj:=kzD x.name x1 x.uses.length y1 x.data x3 x.code.length y3 x4 x.fixes.length y4 x5 x.entries.length y5 x.main
theorem zi0 (l:List Ob) (ev:Nat->Value) (a:OA) (cap:Nat) (w:World) (hO:OsAt w a l ev) (hN:z6n l) :
 qc 102 #[.slice a l.length cap] w fun e w'=>∃ b,e = .returned (.map (some b))/\zjs w' b l ev l.length/\qb w w':=by
 have BH:=hO.bound;have h4:=hN.1;have HO:=hid hO;have HN:=hid hN;have HF:=hid (zf0 hN);have GN:=@run_makeMap Tryz.prog;have HM:=hid (zjs.made w l ev);have Eo:IntKind.i64.wrap ((l.length:Int)+1)=l.length+1:=z4l (by omega) (by omega);clear hO hN;go_enter Tryz.func102,Tryz.ntmps102;go_wp2_with fail;clear Eo
 go_loopw [4,5,6,7,14] (fun c d _ _ i wr=>∃ (j:Nat) (cj dj:Int),j<=l.length/\i=qi j/\c=qi cj/\d=qi dj/\cj=(l.length:Int)+1+cdL (l.take j)/\dj=dtL (l.take j)/\zjs wr w.heap.size l ev j/\qb w wr) (fun _ _ _ _ i _=>l.length - (intOf i).toNat)
 case atStart=>exact ⟨0,_,_,vag _,rfl,rfl,rfl,by simp [cdL],by simp [dtL],HM.out,al1 _ _⟩
 case round=>
  clear HM;obtain ⟨j,cj,dj,hj,rfl,rfl,rfl,hc,hd,hP,hb⟩:=hrel;have HC:=hid hc;have HD:=hid hd;have Oq:=HF.out j hj;rw [← hd] at Oq
  have Fw:0<=cj/\cj<=10000:=by omega
  have SF:0<=dj/\dj<=10000:=by omega
  clear hc hd Oq
  by_cases A4:j<l.length
  . obtain ⟨b,off,x1,y1,x3,y3,x4,y4,x5,y5,rfl,C4,c0,c1,c2,c3,c4,c5,c6,ho,_,he⟩:=(HO.out.later hb).get j A4
    obtain ⟨CF,Cb,C6,Do⟩:=HN.out.2 l[j] (vaj A4);obtain ⟨w2,hrun,Js,DR⟩:=(hP.later (al1 wr (obC l[j] x1 y1 x3 y3 x4 y4 x5 y5))).put A4 h4 ho.wn;have Gr:=hid (zjr A4);have Ru:=hid (zn8 A4);unfold pv at hrun;rw [he,← HC.out,← HD.out] at hrun;have Ab:qb w w2:=(thenB hb (al1 _ _)).grown DR (by have:=hb.size;simp;omega) (fun k hk=>by cases hk;exact vaa _);have BE:=hid Js;have GK:w2.heap[wr.heap.size]? = some (obC l[j] x1 y1 x3 y3 x4 y4 x5 y5):=(DR.block wr.heap.size (by simp) (by simp;have:=hP.lt;omega)).trans (heap_newP wr _);clear hP Js DR he ho;generalize l[j]=x at *;obtain ⟨z0,z1,z2,z3,z4,z5,z6,_⟩:=zao GK;have Ih:=lt_of_heap GK;have CK:IntKind.i64.wrap (cj+x.code.length)=cj+x.code.length:=z4l (by omega) (by omega);have BJ:IntKind.i64.wrap (dj+x.data)=dj+x.data:=z4l (by omega) (by omega)
    clear GK;go_wp2_with fail;go_roundw
    case rel=>exact ⟨j+1,_,_,by omega,by go_num,rfl,rfl,by rw [HC.out,Gr.out];omega,by rw [HD.out,Ru.out],BE.out,Ab⟩
    case measure=>simp [intOf];omega
  . obtain rfl:j=l.length:=by omega
    have HP:=hid hP;clear hP;go_wp2_with fail;go_ret;exact ⟨_,rfl,HP.out,hb⟩
def zi1 (l:List Ob) (i:Nat) (u:ByteArray):Bool:=match lkO l u.data.toList l.length with | some k=>decide (k<i) | none=>false
def zj9 (l:List Ob) (i:Nat):Bool:=match l[i]? with | some o=>o.uses.all (zi1 l i) | none=>true
def zka (l:List Ob):Bool:=zfw l.length (zj9 l)
theorem zxm {α:Type} (q:α->Bool) {l:List α} {j:Nat} (h:j<l.length):(l.take (j+1)).all q=((l.take j).all q&&q l[j]):=by
 rw [vaf h,vbm];simp
theorem z4m {α:Type} (q:α->Bool) {l:List α} {j:Nat} (h:j<l.length) (hq:q l[j]=false):l.all q=false:=by
 rw [vcw];exact ⟨l[j],vaj h,by simp [hq]⟩
theorem zrw (l:List Ob) (ev:Nat->Value) (a:OA) (cap pb:Nat) (w:World) (hO:OsAt w a l ev) (h4:l.length<=4) (hP:zjs w pb l ev l.length) :
 qc 106 #[.map (some pb),.slice a l.length cap] w fun e w'=>e = .returned (.bool (zka l))/\qb w w':=by
 have BH:=hO.bound;have HO:=hid hO;have HP:=hid hP;clear hO hP
 obtain ⟨r,hr⟩:∃ r,r=zka l:=⟨_,rfl⟩
 rw [← hr];have HR:=hid hr;clear hr;go_enter Tryz.func106,Tryz.ntmps106;go_wp2_with fail
 go_loopw [5,6,8,9,10,13] (fun _ _ _ _ _ i wr=>∃ j:Nat,j<=l.length/\i=qi j/\(∀ k,k<j->zj9 l k=true)/\qb w wr) (fun _ _ _ _ _ i _=>l.length - (intOf i).toNat)
 case atStart=>exact ⟨0,vag _,rfl,fun k h=>absurd h (vck _),Below.refl _ _⟩
 case round=>
  obtain ⟨j,hj,rfl,A8,hb⟩:=hrel;have HA:=hid A8;have HB:=hid hb;clear A8
  by_cases A4:j<l.length
  . obtain ⟨b,off,x1,y1,x3,y3,x4,y4,x5,y5,rfl,C4,c0,c1,c2,c3,c4,c5,c6,ho,_,_⟩:=(HO.out.later hb).get j A4
    have IL:Hid (zj9 l j=l[j].uses.all (zi1 l j)):=by show zj9 l j=_;unfold zj9;rw [vae A4]
    have HU:=hid ho.uses;have Gb:=ho.uses.bound;clear hb ho;generalize l[j]=x at *;go_wp2_with fail;clear c0 c1 c2 c3 c4 c5 c6 C4
    go_loopw [8,9,10,21] (fun _ _ _ i C1=>∃ q:Nat,q<=x.uses.length/\i=qi q/\(x.uses.take q).all (zi1 l j)=true/\qb wr C1) (fun _ _ _ i _=>x.uses.length - (intOf i).toNat)
    case atStart=>exact ⟨0,vag _,rfl,rfl,al1 _ _⟩
    case round=>
     obtain ⟨q,hq,rfl,hallu,Ab⟩:=hrel;have HQ:=hid hallu;have Af:=hid Ab;have BT:=hid (thenB HB.out Ab);clear hallu
     by_cases Ge:q<x.uses.length
     . obtain ⟨ub,uo,rfl,Lw,huc,Ga⟩:=(HU.out.later Ab).str q Ge
       have Bk:=((HP.out.later BT.out)).look_ok Ga;have BP:=hid (zxm (zi1 l j) Ge);have G1:=hid (fun h=>z4m (zi1 l j) Ge h);clear Ab
       have Iw:∀ k,lkO l x.uses[q].data.toList l.length=some k->k<l.length:=fun k h=>(zt5 _ _ _ (vaa _) h).1
       have Nv:Hid (zi1 l j x.uses[q]=match lkO l x.uses[q].data.toList l.length with | some k=>decide (k<j) | none=>false):=rfl;generalize x.uses[q]=u at *;generalize lkO l u.data.toList l.length=o at *
       cases o with
       | none=>
         have HF:Hid (r=false):=HR.out.trans (zb5 (i:=j) (by omega) (IL.out.trans (G1.out Nv.out)));simp only [Option.elim,Option.isSome,pv0] at Bk;clear Iw;go_wp2_with fail;go_ret;exact ⟨ret_bool HF.out.symm,BT.out.alloc (by have:=BT.out.size;omega) _⟩
       | some k=>
         have hk:=Iw k rfl;obtain ⟨_,_,_,_,_,_,_,_,xk,yk,_,_,_,_,_,_,_,_,_,_,_,hek⟩:=HO.out.get k hk;simp only [Option.elim,Option.isSome,pv] at Bk;rw [hek] at Bk;clear Iw hek
         by_cases Oe:k<j
         . have HT:Hid ((x.uses.take (q+1)).all (zi1 l j)=true):=BP.out.trans (by rw [HQ.out,Nv.out];simp [Oe])
           have KD:¬ (j:Int)<=k:=by omega
           go_wp2_with fail;go_roundw
           case rel=>exact ⟨q+1,by omega,by go_num,HT.out,Af.out.alloc (by have:=Af.out.size;omega) _⟩
           case measure=>simp [intOf];omega
         . have HF:Hid (r=false):=HR.out.trans (zb5 (i:=j) (by omega) (IL.out.trans (G1.out (Nv.out.trans (decide_eq_false Oe)))))
           have KD:(j:Int)<=k:=by omega
           go_wp2_with fail;go_ret;exact ⟨ret_bool HF.out.symm,BT.out.alloc (by have:=BT.out.size;omega) _⟩
     . obtain rfl:q=x.uses.length:=by omega
       have HT:Hid (zj9 l j=true):=IL.out.trans (by have:=HQ.out;rw [vau] at this;exact this);clear Ab;go_wp2_with fail;go_roundw
       case rel=>exact ⟨j+1,by omega,by go_num,zej HA.out HT.out,BT.out⟩
       case measure=>simp [intOf];omega
  . obtain rfl:j=l.length:=by omega
    have HT:Hid (r=true):=HR.out.trans (zba.2 HA.out);go_wp2_with fail;go_ret;exact ⟨ret_bool HT.out.symm,HB.out⟩
set_option maxHeartbeats 3200000
theorem tkl {P:Program} {ops:Array Oper} {Q:Exit->Act->World->Prop} {md:Region.Mode} {S:World->Prop} (i:Nat) {oi:Oper} (v:Value) {AE:Nat} {Ap:Array Bool} {a:Act} {w:World} (hi:ops[i]? = some oi)
 (hc:(Region.noSelect ops&&(Region.free md ops Ap i&&((Region.ready md ops Ap).contains i&&Region.wanted oi (yielded ops a.tmps))))=true)
 (hQ:∀ c a w,Q (.panic c) (a.put oi.dst v) w->Q (.panic c) a w) (hy:∀ w,S w->(execOp a.eval oi).run P w = .ok (.value v) w) (hS:S w)
 (h:wpAnyH P md ops Q S AE (Ap.setIfInBounds i true) (a.put oi.dst v) w):wpAnyH P md ops Q S (AE+1) Ap a w:=by
 simp only [vac] at hc;exact wpAnyH_take hi hc.1 hc.2.1 hc.2.2.1 hQ (Or.inl ⟨hc.2.2.2,hy⟩) hS h
abbrev z8r:Obj:=.cells #[qi 0,qi 0,qi 0,qs] 227
abbrev plV (l:List Ob) (k:Nat) (xk:OA) (nk yk:Nat):Value:=.agg #[qi k,qi ((l.length:Int)+1+cdL (l.take k)),qi (dtL (l.take k)),.slice xk nk yk]
abbrev obV (o:Ob) (x1:OA) (y1:Nat) (x3:OA) (y3:Nat) (x4:OA) (y4:Nat) (x5:OA) (y5:Nat):Value:=.agg #[.string o.name,.slice x1 o.uses.length y1,qi o.data,.slice x3 o.code.length y3,.slice x4 o.fixes.length y4,.slice x5 o.entries.length y5,qi o.main]
theorem zlz (w:World):qb w w.drew:=(Below.refl _ _).drew
theorem zxn {w:World} {b:Nat} {x0 x1 x2 x3:Value} {t:TypeId} (h:w.heap[b]? = some (.cells #[x0,x1,x2,x3] t (0,0))) :
 w.cell? (qa b 0)=some x0/\w.cell? (qa b 1)=some x1/\w.cell? (qa b 2)=some x2/\w.cell? (qa b 3)=some x3/\∀ i,w.frozen? (qa b i)=false:=by
 refine ⟨?_,?_,?_,?_,fun i=>veg h i⟩<;>(rw [vef h];rfl)
def z3u (o:Ob) (m:Int) (s:ByteArray):Prop:=(m=0/\s=o.name)\/∃ i:Nat,m=(i:Int)+1/\∃ h:i<o.uses.length,o.uses[i]=s
theorem zi2 (l:List Ob) (ev:Nat->Value) (pb:Nat) (w:World) (hP:zjs w pb l ev l.length) (o:Ob) (x1:OA) (y1:Nat) (x3:OA) (y3:Nat) (x4:OA) (y4:Nat) (x5:OA) (y5:Nat) (ho:OvAt w o x1 x3 x4 x5) (m:Int) (s:ByteArray) (hs:z3u o m s) (k:Nat) (hk:lkO l s.data.toList l.length=some k) (xk:OA) (nk yk:Nat) (GX:ev k = .slice xk nk yk) :
 qc 146 #[.map (some pb),obV o x1 y1 x3 y3 x4 y4 x5 y5,qi m] w fun e w'=>e = .returned (plV l k xk nk yk)/\qb w w':=by
 obtain ⟨W,hW⟩:∃ W,W=(w.alloc (obC o x1 y1 x3 y3 x4 y4 x5 y5)).alloc z8r:=⟨_,rfl⟩
 have hb:qb w W:=by rw [hW];exact bl2 _ _ _
 have Ct:W.heap[w.heap.size]? = some (obC o x1 y1 x3 y3 x4 y4 x5 y5):=by rw [hW];exact zab (heap_newP w _)
 have Be:W.heap[w.heap.size+1]? = some z8r:=by rw [hW];simpa using heap_newP (w.alloc (obC o x1 y1 x3 y3 x4 y4 x5 y5)) z8r
 have HP:=hid (hP.later hb);have HU:=hid (ho.uses.later hb);have Gb:=ho.uses.bound;have Lu:=ho.wn;obtain ⟨z0,z1,z2,z3,z4,z5,z6,_⟩:=zao Ct;obtain ⟨r0,r1,r2,r3,rf⟩:=zxn Be;have Bm:=lt_of_heap Ct;have CF:=lt_of_heap Be;clear hP ho hb Ct Be;subst hW
 rcases hs with ⟨rfl,rfl⟩ | ⟨i,rfl,hi,rfl⟩
 . have Bk:=HP.out.look Lu
   rw [hk] at Bk;simp only [Option.elim,pv] at Bk;rw [GX] at Bk;clear hk GX;go_enter Tryz.func146,Tryz.ntmps146;go_wp2_with fail;refine bodyPost_ret (v:=plV l k xk nk yk) (by simp [results,Tryz.results146,go_sem,r0,r1,r2,r3,CF]) rfl ⟨rfl,bl2 _ _ _⟩
 . obtain ⟨ub,uo,rfl,Lw,huc,Ga⟩:=HU.out.str i hi
   have Bk:=HP.out.look Ga;rw [hk] at Bk;simp only [Option.elim,pv] at Bk;rw [GX] at Bk
   have CK:IntKind.i64.wrap ((i:Int)+1 - 1)=i:=by simp only [IntKind.wrap,IntKind.bits,IntKind.signed];simp;omega
   have Sp:¬ ((i:Int)+1=0):=by omega
   clear hk GX;generalize o.uses[i]=u at *;go_enter Tryz.func146,Tryz.ntmps146;go_wp2_with fail;refine bodyPost_ret (v:=plV l k xk nk yk) (by simp [results,Tryz.results146,go_sem,r0,r1,r2,r3,CF]) rfl ⟨rfl,bl2 _ _ _⟩
def fixV (kind a c d:Int) (B8:List Int):Int:=if kind=2 then c+B8.getD a.toNat 0 else if kind=3 then d+a else c+a
theorem DAt.entI {w:World} {A:Nat->Prop} {a:OA} {l:List Int} (h:DAt w A a l.length (zfy l)) (i:Nat) (hi:i<l.length):∃ b off,a=some (qa b off)/\b<w.heap.size/\w.cell? ⟨b,off+i,none⟩=some (qi l[i]):=by
 obtain ⟨b,off,ha,hb,hc⟩:=h.cell (by omega);obtain ⟨v,hv,hd⟩:=hc i (.int l[i]) (by simp [zfy,hi]);obtain ⟨rfl,_⟩:=za3 hd;exact ⟨b,off,ha,hb,hv⟩
theorem zxo (n c d kind a:Int) (B8:List Int) (xk:OA) (yk:Nat) (w:World) (hE:DAt w Tt xk B8.length (zfy B8)) (hc:0<=c/\c<=10000) (hd:0<=d/\d<=10000) (ha:0<=a/\a<=2048) (h2:kind=2->a<B8.length) (KG:∀ x ∈ B8,0<=x/\x<=2048) :
 qc 147 #[.agg #[qi n,qi c,qi d,.slice xk B8.length yk],qi kind,qi a] w fun e w'=>e = .returned (qi (fixV kind a c d B8))/\qb w w':=by
 have SM:=hE.bound;obtain ⟨c1,c2⟩:=hc;obtain ⟨d1,d2⟩:=hd;obtain ⟨a1,a2⟩:=ha
 by_cases k2:kind=2
 . subst k2
   have hl:=h2 rfl
   obtain ⟨i,rfl⟩:∃ i:Nat,a=i:=⟨a.toNat,by omega⟩
   have hi:i<B8.length:=by omega
   have HV:Hid (fixV 2 i c d B8=c+B8[i]):=by show fixV 2 i c d B8=_;unfold fixV;rw [if_pos rfl,vbx,vay,vae hi];rfl
   have hx:=KG B8[i] (vaj hi);obtain ⟨eb,eo,rfl,ES,QF⟩:=(hE.later (al1 w (.cells #[qi n,qi c,qi d,.slice xk B8.length yk] 227))).entI i hi;have CK:IntKind.i64.wrap (c+B8[i])=c+B8[i]:=z4l (by omega) (by omega);clear hE KG h2;generalize B8[i]=x at *;go_enter Tryz.func147,Tryz.ntmps147;go_wp2_with fail
   (try go_quiet ((fail)))
   go_wp2_with fail;go_ret;exact ⟨ret_int HV.out.symm,(by first | exact al1 _ _ | exact (al1 _ _).drew | exact below_drewN (al1 _ _) _)⟩
 . have b2:(kind == 2)=false:=by simp [k2]
   by_cases k3:kind=3
   . subst k3
     have HV:Hid (fixV 3 a c d B8=d+a):=rfl;have CK:IntKind.i64.wrap (d+a)=d+a:=z4l (by omega) (by omega);clear hE KG h2;go_enter Tryz.func147,Tryz.ntmps147;go_wp2_with fail;go_ret;exact ⟨ret_int HV.out.symm,al1 _ _⟩
   . have b3:(kind == 3)=false:=by simp [k3]
     have HV:Hid (fixV kind a c d B8=c+a):=by show fixV kind a c d B8=_;unfold fixV;rw [if_neg k2,if_neg k3]
     have CK:IntKind.i64.wrap (c+a)=c+a:=z4l (by omega) (by omega);clear hE KG h2;go_enter Tryz.func147,Tryz.ntmps147;go_wp2_with fail;go_ret;exact ⟨ret_int HV.out.symm,al1 _ _⟩
set_option maxHeartbeats 6400000
theorem zrx {P:Program} {ops:Array Oper} {Q:Exit->Act->World->Prop} {md:Region.Mode} {S:World->Prop} (i:Nat) {oi:Oper} {AE:Nat} {Ap:Array Bool} {a:Act} {w:World} (hi:ops[i]? = some oi)
 (hc:(Region.noSelect ops&&(Region.free md ops Ap i&&((Region.ready md ops Ap).contains i && !(Region.wanted oi (yielded ops a.tmps)))))=true)
 (hQ:∀ c a w,Q (.panic c) (a.put oi.dst undef) w->Q (.panic c) a w) (hS:S w)
 (h:wpAnyH P md ops Q S AE (Ap.setIfInBounds i true) (a.put oi.dst undef) w):wpAnyH P md ops Q S (AE+1) Ap a w:=by
 simp only [vac,Bool.not_eq_true'] at hc;exact wpAnyH_take hi hc.1 hc.2.1 hc.2.2.1 hQ (Or.inr ⟨hc.2.2.2,rfl⟩) hS h
def zry (o:Ob) (m:Int):ByteArray:=if m=0 then o.name else o.uses.getD (m - 1).toNat ⟨#[]⟩
def modO (l:List Ob) (o:Ob) (m:Int):Nat:=(lkO l (zry o m).data.toList l.length).getD 0
def entsO (l:List Ob) (k:Nat):List Int:=match l[k]? with | some o=>o.entries | none=>[]
def zob (l:List Ob) (o:Ob) (f:Gf):Bool:=!(decide (f.kind=2)&&decide (((entsO l (modO l o f.m)).length:Int)<=aAt o f.at_))
def zft (l:List Ob) (o:Ob) (j:Nat):Bool:=match o.fixes[j]? with | some f=>zob l o f | none=>true
def zg2 (l:List Ob) (i:Nat):Bool:=match l[i]? with | some o=>zfw o.fixes.length (zft l o) | none=>true
def zkb (l:List Ob):Bool:=zfw l.length (zg2 l)
structure FixR (o:Ob) (f:Gf):Prop where
 at0:0<=f.at_
 at1:f.at_<o.code.length
 kind:1<=f.kind/\f.kind<=3
 a0:0<=aAt o f.at_
 a1:aAt o f.at_<=2048
 m0:0<=f.m
 m1:f.m<=o.uses.length
theorem zii {o:Ob} (h:oChk o=0):zhu o=false/\zf5 o=true/\zfj o=true/\zgy o=true:=by
 unfold oChk at h
 split at h
 . cases h
 . rename_i h1
   split at h
   . rename_i h2
     simp only [vac] at h2;exact ⟨by simpa using h1,h2.1,h2.2.1,h2.2.2⟩
   . cases h
theorem zkc {o:Ob} (h:oChk o=0) {j:Nat} (hj:j<o.fixes.length):FixR o o.fixes[j]:=by
 obtain ⟨hm,_,_,hf⟩:=zii h;unfold zhu at hm;simp only [vat] at hm;have hc:=of_decide_eq_false hm.2.2.2;have:=zba.1 hf j hj;unfold zom at this;rw [vae hj] at this;simp only [vac] at this;obtain ⟨_,hp,hb⟩:=this;have hp:=of_decide_eq_true hp;unfold z6q at hb
 by_cases k1:o.fixes[j].kind=1
 . rw [if_pos k1] at hb
   unfold okF at hb;simp only [vac,decide_eq_true_eq] at hb;exact ⟨hp.1,hp.2,by omega,hb.1,by omega,hb.2.2.1,by omega⟩
 . rw [if_neg k1] at hb
   by_cases k2:o.fixes[j].kind=2\/o.fixes[j].kind=3
   . rw [if_pos k2] at hb
     unfold okF at hb;simp only [vac,decide_eq_true_eq] at hb;exact ⟨hp.1,hp.2,by omega,hb.1,by omega,hb.2.2.1,by omega⟩
   . rw [if_neg k2] at hb;cases hb
theorem zxp {o:Ob} {m:Int} (h0:0<=m) (h1:m<=o.uses.length):z3u o m (zry o m):=by
 unfold zry
 by_cases hm:m=0
 . rw [if_pos hm];exact Or.inl ⟨hm,rfl⟩
 . rw [if_neg hm]
   refine Or.inr ⟨(m - 1).toNat,by omega,by omega,?_⟩;rw [vay,vae (by omega)]
   rfl
def z1c (l:List Ob):Prop:=∀ i (h:i<l.length) (m:Int),0<=m->m<=l[i].uses.length->(lkO l (zry l[i] m).data.toList l.length).isSome=true
theorem zt7 {l:List Ob} (h:z1c l) {i:Nat} (hi:i<l.length) {m:Int} (h0:0<=m) (h1:m<=l[i].uses.length):lkO l (zry l[i] m).data.toList l.length=some (modO l l[i] m)/\modO l l[i] m<l.length:=by
 have:=h i hi m h0 h1;unfold modO
 cases e:lkO l (zry l[i] m).data.toList l.length with
 | none=>rw [e] at this;cases this
 | some k=>exact ⟨rfl,(zt5 _ _ _ (vaa _) e).1⟩
theorem zjt {l:List Ob} {k:Nat} (h:k<l.length):entsO l k=l[k].entries:=by unfold entsO;rw [vae h]
theorem z3v {o:Ob} {p:Nat} (h:p<o.code.length):aAt o p=o.code[p].a:=by unfold aAt;rw [vbx,vae h]
theorem zxq {w:World} {b:Nat} {x0 x1 x2:Value} {t:TypeId} (h:w.heap[b]? = some (.cells #[x0,x1,x2] t (0,0))):w.cell? (qa b 0)=some x0/\w.cell? (qa b 1)=some x1/\w.cell? (qa b 2)=some x2:=by
 refine ⟨?_,?_,?_⟩<;>(rw [vef h];rfl)
theorem zrz (l:List Ob) (ev:Nat->Value) (a:OA) (cap pb:Nat) (w:World) (hO:OsAt w a l ev) (h4:l.length<=4) (hP:zjs w pb l ev l.length) (hR:∀ o ∈ l,oChk o=0) (hF:z1c l) :
 qc 107 #[.map (some pb),.slice a l.length cap] w fun e w'=>e = .returned (.bool (zkb l))/\qb w w':=by
 have BH:=hO.bound;have HO:=hid hO;have HP:=hid hP;have MR:=hid hR;have Ng:=hid hF;clear hO hP hR hF
 obtain ⟨r,hr⟩:∃ r,r=zkb l:=⟨_,rfl⟩
 rw [← hr];have HR:=hid hr;clear hr;go_enter Tryz.func107,Tryz.ntmps107;go_wp2_with fail
 go_loopw [6,8,11] (fun _ _ i wr=>∃ j:Nat,j<=l.length/\i=qi j/\(∀ k,k<j->zg2 l k=true)/\qb w wr) (fun _ _ i _=>l.length - (intOf i).toNat)
 case atStart=>exact ⟨0,vag _,rfl,fun k h=>absurd h (vck _),Below.refl _ _⟩
 case round =>
  obtain ⟨j,hj,rfl,A8,hb⟩:=hrel;have HA:=hid A8;have HB:=hid hb;clear A8
  by_cases A4:j<l.length
  . obtain ⟨b,off,x1,y1,x3,y3,x4,y4,x5,y5,rfl,C4,c0,c1,c2,c3,c4,c5,c6,ho, -, -⟩:=(HO.out.later hb).get j A4
    have IL:Hid (zg2 l j=zfw l[j].fixes.length (zft l l[j])):=by show zg2 l j=_;unfold zg2;rw [vae A4]
    have F5:=hid ho;have QD:=ho.fixes.bound;have Gy:=hid (fun (q:Nat) (hq:q<l[j].fixes.length)=>zkc (MR.out l[j] (vaj A4)) hq);have I3:=hid (fun (m:Int) (h0:0<=m) (h1:m<=l[j].uses.length)=>zt7 Ng.out A4 h0 h1);clear hb ho;generalize l[j]=x at *;go_wp2_with fail;clear c0 c1 c2 c3 c4 c5 c6 C4
    go_loopw [8,18] (fun _ i C1=>∃ q:Nat,q<=x.fixes.length/\i=qi q/\(∀ k,k<q->zft l x k=true)/\Below (wr.alloc (obC x x1 y1 x3 y3 x4 y4 x5 y5)).heap.size (wr.alloc (obC x x1 y1 x3 y3 x4 y4 x5 y5)) C1) (fun _ i _=>x.fixes.length - (intOf i).toNat)
    case atStart=>exact ⟨0,vag _,rfl,fun k h=>absurd h (vck _),Below.refl _ _⟩
    case round=>
     obtain ⟨C1,rfl⟩:∃ x,x=wr:=⟨_,rfl⟩
     obtain ⟨q,hq,rfl,hallq,Ab⟩:=hrel;have HQ:=hid hallq;have Af:=hid Ab;have A9:=thenB (al1 wr _) Ab;have BT:=hid (thenB HB.out A9);have CM:=(Ab.block wr.heap.size (by simp)).trans (heap_newP wr (obC x x1 y1 x3 y3 x4 y4 x5 y5));clear hallq
     by_cases Ge:q<x.fixes.length
     . obtain ⟨fb,fo,rfl,hfx⟩:=((F5.out.later A9).fixes).gf q Ge
       obtain ⟨KR,fr2,fr3,fr4,fr5,fr6,fr7⟩:=Gy.out q Ge;obtain ⟨E6,hmlt⟩:=I3.out x.fixes[q].m fr6 fr7
       have Nw:Hid (zft l x q=zob l x x.fixes[q]):=by show zft l x q=_;unfold zft;rw [vae Ge]
       obtain ⟨Fv,g0,g1,g2, -, -, -⟩:=hfx;have ID:=hid (zxp (o:=x) fr6 fr7);have Lw:=F5.out.uses.bound;have Dp:=F5.out.code.bound;generalize x.fixes[q]=f at *
       obtain ⟨p,hp⟩:∃ p:Nat,f.at_=p:=⟨f.at_.toNat,by omega⟩
       have E5:p<x.code.length:=by omega
       obtain ⟨cb,co,rfl,Dq⟩:=((F5.out.later A9).code).gi p E5;obtain ⟨Mf, -,i1, -, -, -, -⟩:=Dq
       have Id:Hid (aAt x f.at_=x.code[p].a):=by show aAt x f.at_=_;rw [hp];exact z3v E5
       have Qb:(p:Int)<x.code.length:=by omega
       rw [Id.out] at fr4 fr5;rw [hp] at g0;generalize x.code[p].a=A at *
       obtain ⟨X,hX⟩:∃ X,X=C1.alloc (.cells #[qi p,qi f.kind,qi f.m] 67):=⟨_,rfl⟩
       have C8:qb C1 X:=by rw [hX];exact al1 _ _
       have HX:=hid hX
       have Dn:X.heap[C1.heap.size]? = some (.cells #[qi p,qi f.kind,qi f.m] 67):=by rw [hX];exact heap_newP _ _
       have AV:=(C8.block _ (lt_of_heap CM)).trans CM;have EI:=lt_of_heap AV;have EQ:=lt_of_heap Dn
       have HS:=hid (fun W (hW:qb X W)=>(by
        obtain ⟨e0,e1,e2,e3,e4,e5,e6,_⟩:=zao ((hW.block _ EI).trans AV);obtain ⟨q0,q1,q2⟩:=zxq ((hW.block _ EQ).trans Dn)
        exact ⟨e0,e1,e2,e3,e4,e5,e6,q0,q1,q2,(hW.cell (p:=⟨cb,co+p*3+1,none⟩) (by have:=C8.size;show cb<_;omega)).trans ((C8.cell (p:=⟨cb,co+p*3+1,none⟩) Mf).trans i1)⟩:W.cell? (qa wr.heap.size 0)=some (.string x.name)/\W.cell? (qa wr.heap.size 1)=some (.slice x1 x.uses.length y1)/\W.cell? (qa wr.heap.size 2)=some (qi x.data)/\W.cell? (qa wr.heap.size 3)=some (.slice (some (qa cb co)) x.code.length y3)/\W.cell? (qa wr.heap.size 4)=some (.slice (some (qa fb fo)) x.fixes.length y4)/\W.cell? (qa wr.heap.size 5)=some (.slice x5 x.entries.length y5)/\W.cell? (qa wr.heap.size 6)=some (qi x.main)/\W.cell? (qa C1.heap.size 0)=some (qi p)/\W.cell? (qa C1.heap.size 1)=some (qi f.kind)/\W.cell? (qa C1.heap.size 2)=some (qi f.m)/\W.cell? ⟨cb,co+p*3+1,none⟩=some (qi A)))
       have Fh:=hid (thenB BT.out C8);obtain ⟨_,_,_,_,_,_,_,_,xk,yk, -, -, -, -, -, -, -, -, -,Cr, -,hek⟩:=HO.out.get (modO l x f.m) hmlt;have HM:=hid (fun W (hW:qb X W)=>zi2 l ev pb W (HP.out.later (thenB Fh.out hW)) x x1 y1 (some (qa cb co)) y3 (some (qa fb fo)) y4 x5 y5 ((F5.out.later (thenB (thenB (al1 wr _) Af.out) C8)).later hW) f.m _ ID.out _ E6 xk _ yk hek);have DO:=Cr.entries.bound;clear Cr hek;clear C8 hX AV CM Dn Ab A9 i1;go_upto_region 7 with fail;rw [← HX.out]
       go_cut [41] from 20 to 41 (fun v wc=>v = .bool (!(zft l x q))/\Hid (qb X wc))
       case first=>
        by_cases k2:f.kind=2
        . generalize O7:l[modO l x f.m].entries.length=nk at *
          have C5:(entsO l (modO l x f.m)).length=nk:=by rw [zjt hmlt];exact O7
          have L7:Hid (zob l x f = !decide ((nk:Int)<=A)):=by show zob l x f=_;unfold zob;rw [Id.out,C5];simp [k2]
          have PI:(f.kind == 2)=true:=by simp [k2]
          clear O7 C5 E6 k2 hp KR fr2 fr3 fr6 fr7
          by_cases hA:(nk:Int)<=A
          . have HV:Hid (zft l x q=false):=Nw.out.trans (L7.out.trans (by simp [hA]))
            refine wp_region_held_drew (S:=(fun W=>W.cell? (qa wr.heap.size 0)=some (.string x.name)/\W.cell? (qa wr.heap.size 1)=some (.slice x1 x.uses.length y1)/\W.cell? (qa wr.heap.size 2)=some (qi x.data)/\W.cell? (qa wr.heap.size 3)=some (.slice (some (qa cb co)) x.code.length y3)/\W.cell? (qa wr.heap.size 4)=some (.slice (some (qa fb fo)) x.fixes.length y4)/\W.cell? (qa wr.heap.size 5)=some (.slice x5 x.entries.length y5)/\W.cell? (qa wr.heap.size 6)=some (qi x.main)/\W.cell? (qa C1.heap.size 0)=some (qi p)/\W.cell? (qa C1.heap.size 1)=some (qi f.kind)/\W.cell? (qa C1.heap.size 2)=some (qi f.m)/\W.cell? ⟨cb,co+p*3+1,none⟩=some (qi A))) (by kernel_rfl) (HS.out _ (zlz X)) (fun A0=>?_);refine tkl 0 (pq C1.heap.size 1) rfl (by kernel_rfl) (fun _ _ _ h=>h) (fun W hW=>by kernel_rfl) A0 ?_;refine tkl 1 (qi f.kind) rfl (by kernel_rfl) (fun _ _ _ h=>h) (fun W hW=>by obtain ⟨s0,s1,s2,s3,s4,s5,s6,f0,f1,f2,i1⟩:=hW;go_simp) A0 ?_
            refine tkl 2 (.bool true) rfl (by kernel_rfl) (fun _ _ _ h=>h) (fun W hW=>by go_simp) A0 ?_;refine tkl 3 (.bool true) rfl (by kernel_rfl) (fun _ _ _ h=>h) (fun W hW=>by kernel_rfl) A0 ?_;refine tkl 4 (pq wr.heap.size 3) rfl (by kernel_rfl) (fun _ _ _ h=>h) (fun W hW=>by kernel_rfl) A0 ?_;refine tkl 5 (.slice (some (qa cb co)) x.code.length y3) rfl (by kernel_rfl) (fun _ _ _ h=>h) (fun W hW=>by obtain ⟨s0,s1,s2,s3,s4,s5,s6,f0,f1,f2,i1⟩:=hW;go_simp) A0 ?_;refine tkl 6 (pq C1.heap.size 0) rfl (by kernel_rfl) (fun _ _ _ h=>h) (fun W hW=>by kernel_rfl) A0 ?_;refine tkl 7 (qi p) rfl (by kernel_rfl) (fun _ _ _ h=>h) (fun W hW=>by obtain ⟨s0,s1,s2,s3,s4,s5,s6,f0,f1,f2,i1⟩:=hW;go_simp) A0 ?_;refine tkl 8 (.pointer (some ⟨cb,co+p*3,none⟩)) rfl (by kernel_rfl) (fun _ _ _ h=>h) (fun W hW=>by go_simp) A0 ?_;refine tkl 9 (.pointer (some ⟨cb,co+p*3+1,none⟩)) rfl (by kernel_rfl) (fun _ _ _ h=>h) (fun W hW=>by kernel_rfl) A0 ?_
            refine tkl 10 (qi A) rfl (by kernel_rfl) (fun _ _ _ h=>h) (fun W hW=>by obtain ⟨s0,s1,s2,s3,s4,s5,s6,f0,f1,f2,i1⟩:=hW;go_simp) A0 ?_;refine tkl 11 (.map (some pb)) rfl (by kernel_rfl) (fun _ _ _ h=>h) (fun W hW=>by kernel_rfl) A0 ?_;refine tkl 12 (.agg #[.string x.name,.slice x1 x.uses.length y1,qi x.data,.slice (some (qa cb co)) x.code.length y3,.slice (some (qa fb fo)) x.fixes.length y4,.slice x5 x.entries.length y5,qi x.main]) rfl (by kernel_rfl) (fun _ _ _ h=>h) (fun W hW=>by obtain ⟨s0,s1,s2,s3,s4,s5,s6,f0,f1,f2,i1⟩:=hW;go_simp) A0 ?_;refine tkl 13 (pq C1.heap.size 2) rfl (by kernel_rfl) (fun _ _ _ h=>h) (fun W hW=>by kernel_rfl) A0 ?_;refine tkl 14 (qi f.m) rfl (by kernel_rfl) (fun _ _ _ h=>h) (fun W hW=>by obtain ⟨s0,s1,s2,s3,s4,s5,s6,f0,f1,f2,i1⟩:=hW;go_simp) A0 ?_;refine wpAnyH_ready (rs:=[15]) (by kernel_rfl) (by simp) ?_
            refine AllReadyH.cons rfl (fun Kq hK=>?_) AllReadyH.nil;go_simp
            go_wp2_with (go_at_call 146;refine (HM.out _ (zlz X)).mono ?_;rintro e w9 ⟨rfl,BN⟩)
            have B7:=hid (thenB (zlz X) BN);refine hK.out _ _ (HS.out _ B7.out) (fun A0=>?_);clear hK Kq BN
            (try simp only [Act.put,vad,van,vap])
            refine tkl 16 (.slice xk nk yk) rfl (by kernel_rfl) (fun _ _ _ h=>h) (fun W hW=>by kernel_rfl) A0 ?_;refine tkl 17 (qi nk) rfl (by kernel_rfl) (fun _ _ _ h=>h) (fun W hW=>by go_simp) A0 ?_;refine tkl 18 (.bool true) rfl (by kernel_rfl) (fun _ _ _ h=>h) (fun W hW=>by go_simp) A0 ?_;refine tkl 19 (.bool true) rfl (by kernel_rfl) (fun _ _ _ h=>h) (fun W hW=>by go_simp) A0 ?_;refine wpAnyH_done (by kernel_rfl) ?_ _;clear A0;go_simp;go_wp2_with fail;go_meet;exact ⟨by rw [HV.out];rfl,B7⟩
          . have HV:Hid (zft l x q=true):=Nw.out.trans (L7.out.trans (by simp [hA]))
            have SX:A<(nk:Int):=by omega
            refine wp_region_held_drew (S:=(fun W=>W.cell? (qa wr.heap.size 0)=some (.string x.name)/\W.cell? (qa wr.heap.size 1)=some (.slice x1 x.uses.length y1)/\W.cell? (qa wr.heap.size 2)=some (qi x.data)/\W.cell? (qa wr.heap.size 3)=some (.slice (some (qa cb co)) x.code.length y3)/\W.cell? (qa wr.heap.size 4)=some (.slice (some (qa fb fo)) x.fixes.length y4)/\W.cell? (qa wr.heap.size 5)=some (.slice x5 x.entries.length y5)/\W.cell? (qa wr.heap.size 6)=some (qi x.main)/\W.cell? (qa C1.heap.size 0)=some (qi p)/\W.cell? (qa C1.heap.size 1)=some (qi f.kind)/\W.cell? (qa C1.heap.size 2)=some (qi f.m)/\W.cell? ⟨cb,co+p*3+1,none⟩=some (qi A))) (by kernel_rfl) (HS.out _ (zlz X)) (fun A0=>?_);refine tkl 0 (pq C1.heap.size 1) rfl (by kernel_rfl) (fun _ _ _ h=>h) (fun W hW=>by kernel_rfl) A0 ?_;refine tkl 1 (qi f.kind) rfl (by kernel_rfl) (fun _ _ _ h=>h) (fun W hW=>by obtain ⟨s0,s1,s2,s3,s4,s5,s6,f0,f1,f2,i1⟩:=hW;go_simp) A0 ?_
            refine tkl 2 (.bool true) rfl (by kernel_rfl) (fun _ _ _ h=>h) (fun W hW=>by go_simp) A0 ?_;refine tkl 3 (.bool true) rfl (by kernel_rfl) (fun _ _ _ h=>h) (fun W hW=>by kernel_rfl) A0 ?_;refine tkl 4 (pq wr.heap.size 3) rfl (by kernel_rfl) (fun _ _ _ h=>h) (fun W hW=>by kernel_rfl) A0 ?_;refine tkl 5 (.slice (some (qa cb co)) x.code.length y3) rfl (by kernel_rfl) (fun _ _ _ h=>h) (fun W hW=>by obtain ⟨s0,s1,s2,s3,s4,s5,s6,f0,f1,f2,i1⟩:=hW;go_simp) A0 ?_;refine tkl 6 (pq C1.heap.size 0) rfl (by kernel_rfl) (fun _ _ _ h=>h) (fun W hW=>by kernel_rfl) A0 ?_;refine tkl 7 (qi p) rfl (by kernel_rfl) (fun _ _ _ h=>h) (fun W hW=>by obtain ⟨s0,s1,s2,s3,s4,s5,s6,f0,f1,f2,i1⟩:=hW;go_simp) A0 ?_;refine tkl 8 (.pointer (some ⟨cb,co+p*3,none⟩)) rfl (by kernel_rfl) (fun _ _ _ h=>h) (fun W hW=>by go_simp) A0 ?_;refine tkl 9 (.pointer (some ⟨cb,co+p*3+1,none⟩)) rfl (by kernel_rfl) (fun _ _ _ h=>h) (fun W hW=>by kernel_rfl) A0 ?_
            refine tkl 10 (qi A) rfl (by kernel_rfl) (fun _ _ _ h=>h) (fun W hW=>by obtain ⟨s0,s1,s2,s3,s4,s5,s6,f0,f1,f2,i1⟩:=hW;go_simp) A0 ?_;refine tkl 11 (.map (some pb)) rfl (by kernel_rfl) (fun _ _ _ h=>h) (fun W hW=>by kernel_rfl) A0 ?_;refine tkl 12 (.agg #[.string x.name,.slice x1 x.uses.length y1,qi x.data,.slice (some (qa cb co)) x.code.length y3,.slice (some (qa fb fo)) x.fixes.length y4,.slice x5 x.entries.length y5,qi x.main]) rfl (by kernel_rfl) (fun _ _ _ h=>h) (fun W hW=>by obtain ⟨s0,s1,s2,s3,s4,s5,s6,f0,f1,f2,i1⟩:=hW;go_simp) A0 ?_;refine tkl 13 (pq C1.heap.size 2) rfl (by kernel_rfl) (fun _ _ _ h=>h) (fun W hW=>by kernel_rfl) A0 ?_;refine tkl 14 (qi f.m) rfl (by kernel_rfl) (fun _ _ _ h=>h) (fun W hW=>by obtain ⟨s0,s1,s2,s3,s4,s5,s6,f0,f1,f2,i1⟩:=hW;go_simp) A0 ?_;refine wpAnyH_ready (rs:=[15]) (by kernel_rfl) (by simp) ?_
            refine AllReadyH.cons rfl (fun Kq hK=>?_) AllReadyH.nil;go_simp
            go_wp2_with (go_at_call 146;refine (HM.out _ (zlz X)).mono ?_;rintro e w9 ⟨rfl,BN⟩)
            have B7:=hid (thenB (zlz X) BN);refine hK.out _ _ (HS.out _ B7.out) (fun A0=>?_);clear hK Kq BN
            (try simp only [Act.put,vad,van,vap])
            refine tkl 16 (.slice xk nk yk) rfl (by kernel_rfl) (fun _ _ _ h=>h) (fun W hW=>by kernel_rfl) A0 ?_;refine tkl 17 (qi nk) rfl (by kernel_rfl) (fun _ _ _ h=>h) (fun W hW=>by go_simp) A0 ?_;refine tkl 18 (.bool false) rfl (by kernel_rfl) (fun _ _ _ h=>h) (fun W hW=>by go_simp) A0 ?_;refine tkl 19 (.bool false) rfl (by kernel_rfl) (fun _ _ _ h=>h) (fun W hW=>by go_simp) A0 ?_;refine wpAnyH_done (by kernel_rfl) ?_ _;clear A0;go_simp;go_wp2_with fail;go_meet;exact ⟨by rw [HV.out];rfl,B7⟩
        . have HV:Hid (zft l x q=true):=Nw.out.trans (by unfold zob;simp [k2])
          have PI:(f.kind == 2)=false:=by simp [k2]
          clear k2 hp KR fr2 fr3 fr6 fr7 E6;refine wp_region_held_drew (S:=(fun W=>W.cell? (qa wr.heap.size 0)=some (.string x.name)/\W.cell? (qa wr.heap.size 1)=some (.slice x1 x.uses.length y1)/\W.cell? (qa wr.heap.size 2)=some (qi x.data)/\W.cell? (qa wr.heap.size 3)=some (.slice (some (qa cb co)) x.code.length y3)/\W.cell? (qa wr.heap.size 4)=some (.slice (some (qa fb fo)) x.fixes.length y4)/\W.cell? (qa wr.heap.size 5)=some (.slice x5 x.entries.length y5)/\W.cell? (qa wr.heap.size 6)=some (qi x.main)/\W.cell? (qa C1.heap.size 0)=some (qi p)/\W.cell? (qa C1.heap.size 1)=some (qi f.kind)/\W.cell? (qa C1.heap.size 2)=some (qi f.m)/\W.cell? ⟨cb,co+p*3+1,none⟩=some (qi A))) (by kernel_rfl) (HS.out _ (zlz X)) (fun A0=>?_);refine tkl 0 (pq C1.heap.size 1) rfl (by kernel_rfl) (fun _ _ _ h=>h) (fun W hW=>by kernel_rfl) A0 ?_;refine tkl 1 (qi f.kind) rfl (by kernel_rfl) (fun _ _ _ h=>h) (fun W hW=>by obtain ⟨s0,s1,s2,s3,s4,s5,s6,f0,f1,f2,i1⟩:=hW;go_simp) A0 ?_
          refine tkl 2 (.bool false) rfl (by kernel_rfl) (fun _ _ _ h=>h) (fun W hW=>by go_simp) A0 ?_;refine tkl 3 (.bool false) rfl (by kernel_rfl) (fun _ _ _ h=>h) (fun W hW=>by kernel_rfl) A0 ?_;refine zrx 4 rfl (by kernel_rfl) (fun _ _ _ h=>h) A0 ?_;refine zrx 5 rfl (by kernel_rfl) (fun _ _ _ h=>h) A0 ?_;refine zrx 6 rfl (by kernel_rfl) (fun _ _ _ h=>h) A0 ?_;refine zrx 7 rfl (by kernel_rfl) (fun _ _ _ h=>h) A0 ?_;refine zrx 8 rfl (by kernel_rfl) (fun _ _ _ h=>h) A0 ?_;refine zrx 9 rfl (by kernel_rfl) (fun _ _ _ h=>h) A0 ?_;refine zrx 10 rfl (by kernel_rfl) (fun _ _ _ h=>h) A0 ?_;refine zrx 11 rfl (by kernel_rfl) (fun _ _ _ h=>h) A0 ?_;refine zrx 12 rfl (by kernel_rfl) (fun _ _ _ h=>h) A0 ?_;refine zrx 13 rfl (by kernel_rfl) (fun _ _ _ h=>h) A0 ?_;refine zrx 14 rfl (by kernel_rfl) (fun _ _ _ h=>h) A0 ?_
          refine zrx 15 rfl (by kernel_rfl) (fun _ _ _ h=>h) A0 ?_;refine zrx 16 rfl (by kernel_rfl) (fun _ _ _ h=>h) A0 ?_;refine zrx 17 rfl (by kernel_rfl) (fun _ _ _ h=>h) A0 ?_;refine zrx 18 rfl (by kernel_rfl) (fun _ _ _ h=>h) A0 ?_;refine tkl 19 (.bool false) rfl (by kernel_rfl) (fun _ _ _ h=>h) (fun W hW=>by kernel_rfl) A0 ?_;refine wpAnyH_done (by kernel_rfl) ?_ _;clear A0;go_simp;have B7:=hid (zlz X);go_wp2_with fail;go_meet;exact ⟨by rw [HV.out];rfl,B7⟩
       case rest=>
        obtain ⟨rfl,hbc⟩:=hcut;have B7:=hbc;have ED:=hbc.out.size;clear HM HS I3 Gy ID Id HP hbc
        cases hv:zft l x q with
        | false=>
          have HV:Hid (r=false):=HR.out.trans (zb5 (i:=j) A4 (IL.out.trans (zb5 (i:=q) Ge hv)));clear hv;go_wp2_with fail;go_ret;exact ⟨ret_bool HV.out.symm,thenB Fh.out B7.out⟩
        | true=>
          have HV:=hid hv;clear hv;go_wp2_with fail;go_roundw
          case rel=>exact ⟨q+1,by omega,by go_num,zej HQ.out HV.out,(thenB Af.out (thenB (by rw [HX.out];exact al1 _ _) B7.out))⟩
          case measure=>simp [intOf];omega
     . obtain rfl:q=x.fixes.length:=by omega
       have HT:Hid (zg2 l j=true):=IL.out.trans (zba.2 HQ.out);clear CM Ab A9;go_wp2_with fail;go_roundw
       case rel=>exact ⟨j+1,by omega,by go_num,zej HA.out HT.out,BT.out⟩
       case measure=>simp [intOf];omega
  . obtain rfl:j=l.length:=by omega
    have HT:Hid (r=true):=HR.out.trans (zba.2 HA.out);go_wp2_with fail;go_ret;exact ⟨ret_bool HT.out.symm,HB.out⟩
end Go.Proofs.YtndkhgakfodldaaGreatDoor
