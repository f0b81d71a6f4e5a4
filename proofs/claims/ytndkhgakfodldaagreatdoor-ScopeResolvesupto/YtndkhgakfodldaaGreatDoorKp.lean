import Derived.Test.YtndkhgakfodldaaGreatDoorUr
import Derived.Test.YtndkhgakfodldaaGreatDoorPo
namespace Go.Proofs.YtndkhgakfodldaaGreatDoor
set_option maxRecDepth 100000
open Go.RowKit Go.Maps Go.WideMaps
set_option linter.unusedSimpArgs false
set_option linter.unusedVariables false
theorem zg1:∀ l:List (L8),Fx.zd9 l=false↔l.Nodup:=by
 apply Fx.zch
 . exact ⟨fun _=>.nil,fun _=>rfl⟩
 . intro l s ih
   rw [Fx.zi1,vap,ih,decide_eq_false_iff_not,List.nodup_append]
   constructor
   . rintro ⟨h1,h2⟩
     refine ⟨h1,by simp,fun a ha b hb e=>?_⟩;rw [vcr.1 hb] at e;exact h2 (e ▸ ha)
   . rintro ⟨h1,_,h2⟩
     exact ⟨h1,fun hs=>h2 s hs s (by simp) rfl⟩
theorem zmh:∀ (bs:List Bool) (l:List It),(pick bs l).Sublist l
 | [],l=>by simp [pick]
 | _ :: _,[]=>by simp [pick]
 | b :: bs,x :: l=>by
   have ih:=zmh bs l;unfold pick at ih ⊢;rw [List.zip_cons_cons,List.filterMap_cons]
   cases b with
   | false=>exact ih.cons x
   | true=>exact ih.cons_cons x
end Go.Proofs.YtndkhgakfodldaaGreatDoor

namespace Go.Proofs.YtndkhgakfodldaaGreatDoor
set_option linter.unusedSimpArgs false
set_option linter.unusedVariables false
theorem znq {α β:Type} {f:α->β} {l:List α} (h:(l.map f).Nodup):l.Nodup:=List.Pairwise.of_map f (fun a b h e=>h (congrArg f e)) h
theorem zjf {l:List ByteArray} (h:(Fx.zbk l).Nodup):l.Nodup:=by
 unfold Fx.zbk at h;exact znq h
theorem zjg {l:List It} (h:(Fx.zbs l).Nodup):(l.map (·.name)).Nodup:=by
 have:Fx.zbs l=(l.map (·.name)).map (·.data.toList):=by unfold Fx.zbs;rw [List.map_map];rfl
 rw [this] at h;exact znq h
theorem zh1 {α:Type} {l:List α} {a:α} (h:(l++[a]).Nodup):l.Nodup/\a ∉ l:=by
 rw [List.nodup_append] at h;exact ⟨h.1,fun ha=>h.2.2 a ha a (by simp) rfl⟩
theorem zub (s:ByteArray):∀ ns:List ByteArray,ns.Nodup->zoy ns s=(ns.findIdx? (fun x=>decide (x=s))).map (fun i=>(i:Int)):=by
 apply Fx.zch
 . intro _;rfl
 . intro l x ih h
   obtain ⟨h1,h2⟩:=zh1 h;rw [zop,List.findIdx?_append];unfold zzc
   by_cases e:s=x
   . subst e
     have:l.findIdx? (fun x=>decide (x=s))=none:=by
      rw [vbl];intro y hy;exact decide_eq_false (fun e=>h2 (e ▸ hy))
     rw [if_pos rfl,this];simp
   . rw [if_neg e,ih h1]
     have:[x].findIdx? (fun y=>decide (y=s))=none:=by
      rw [vbl];intro y hy;rw [vcr.1 hy];exact decide_eq_false (fun e'=>e e'.symm)
     rw [this];simp
theorem zsa {l:List It} {name:ByteArray} (h:name ∉ l.map (·.name)):zdj l name=none:=by
 unfold zdj;rw [vcq];intro i hi e;exact h (vcg.2 ⟨i,hi,of_decide_eq_true e⟩)
theorem znr {l:List It} {name:ByteArray} {i:It} (h:zdj l name=some i):i ∈ l:=List.mem_of_find?_eq_some h
theorem zk9 (K:Kn) (mod:ByteArray) (m:Int) (a b:ByteArray):∀ l:List It,(l.map (·.name)).Nodup->zhq K mod m l a b=if a=mod then (match zdj l b with | some i=>some (zko m i) | none=>K a b) else K a b:=by
 apply Fx.zch
 . intro _
   show K a b=_
   split<;>rfl
 . intro l i ih h
   rw [vbr] at h;obtain ⟨h1,h2⟩:=zh1 (a:=i.name) h;rw [zl5];unfold zzb
   by_cases ea:a=mod
   . rw [if_pos ea]
     have ih:=ih h1;rw [if_pos ea] at ih
     by_cases eb:b=i.name
     . have e1:zdj l b=none:=zsa (eb ▸ h2)
       have e2:zdj (l++[i]) b=some i:=by
        unfold zdj at e1 ⊢;rw [List.find?_append,e1];simp [eb]
       rw [if_pos ⟨ea,eb⟩,e2]
     . have e2:zdj (l++[i]) b=zdj l b:=by
        unfold zdj;rw [List.find?_append]
        have:List.find? (fun j=>decide (j.name=b)) [i]=none:=by
         rw [vcq];intro j hj e;rw [vcr.1 hj] at e;exact eb (of_decide_eq_true e).symm
        rw [this,Option.or_none]
       rw [if_neg (fun e=>eb e.2),e2];exact ih
   . rw [if_neg (fun e=>ea e.1),if_neg ea]
     have ih:=ih h1;rw [if_neg ea] at ih;exact ih
theorem zh2 (mod name:ByteArray):∀ (us:List ByteArray) (fs:List Fc) (k:Nat),mod ∉ us->zbz mod name k us fs=none
 | [],_,_,_=>by unfold zbz;rfl
 | _ :: _,[],_,_=>by unfold zbz;rfl
 | u :: us,f :: fs,k,h=>by
   unfold zbz
   have e0:¬ u=mod:=fun e=>h (by rw [← e];exact vbg ..)
   rw [if_neg e0];exact zh2 mod name us fs (k+1) (fun e=>h (vbi _ e))
theorem zla (mod name:ByteArray) (u:ByteArray) (f:Fc):∀ (us:List ByteArray) (fs:List Fc) (k:Nat),us.length=fs.length->
 zbz mod name k (us++[u]) (fs++[f])=(match zbz mod name k us fs with | some g=>some g | none=>if u=mod then (zdj f.items name).map (zko ((k:Int)+fs.length+1)) else none)
 | [],[],k,_=>by
   show zbz mod name k (u :: []) (f :: [])=(if u=mod then (zdj f.items name).map (zko ((k:Int)+(0:Nat)+1)) else none);unfold zbz;split
   . cases hi:zdj f.items name with
     | none=>show zbz mod name (k+1) [] []=none;unfold zbz;rfl
     | some i=>show some (zko ((k:Int)+1) i)=some (zko ((k:Int)+(0:Nat)+1) i);rw [show ((k:Int)+(0:Nat)+1)=(k:Int)+1 from by omega]
   . unfold zbz;rfl
 | [],_ :: _,_,h=>by simp at h
 | _ :: _,[],_,h=>by simp at h
 | v :: us,g :: fs,k,h=>by
   have ih:=zla mod name u f us fs (k+1) (by simpa using h)
   have e:((k+1:Nat):Int)+(fs.length:Int)+1=(k:Int)+((g :: fs).length:Int)+1:=by rw [vax];omega
   rw [e] at ih;show zbz mod name k (v :: (us++[u])) (g :: (fs++[f]))=_;rw [zbz,zbz];split
   . cases hi:zdj g.items name with
     | none=>exact ih
     | some i=>rfl
   . exact ih
theorem zo8 (K:Kn) (a b:ByteArray):∀ l:List Fc,(l.map (·.name)).Nodup->(∀ f ∈ l,(f.items.map (·.name)).Nodup)->zgc K l a b=(match zbz a b 0 (l.map (·.name)) l with | some g=>some g | none=>K a b):=by
 apply Fx.zch
 . intro _ _
   show K a b=(match zbz a b 0 [] [] with | some g=>some g | none=>K a b);unfold zbz
   rfl
 . intro l f ih h hi
   rw [vbr] at h;obtain ⟨h1,h2⟩:=zh1 (a:=f.name) h;have ih:=ih h1 (fun g hg=>hi g (by simp [hg]));rw [zke,zk9 _ _ _ _ _ _ (hi f (by simp)),vbr];show _=(match zbz a b 0 (l.map (·.name)++[f.name]) (l++[f]) with | some g=>some g | none=>K a b);rw [zla a b f.name f (l.map (·.name)) l 0 (by simp)];rw [show ((0:Nat):Int)+(l.length:Int)+1=(l.length:Int)+1 from by omega]
   by_cases e:a=f.name
   . have e0:zbz a b 0 (l.map (·.name)) l=none:=zh2 _ _ _ _ _ (e ▸ h2)
     rw [e0] at ih;rw [if_pos e,e0,if_pos e.symm,ih]
     cases zdj f.items b<;>rfl
   . rw [if_neg e,if_neg (fun h=>e h.symm),ih]
     cases zbz a b 0 (l.map (·.name)) l<;>rfl
theorem zns (mod name:ByteArray) (x:Mg):∀ (us:List ByteArray) (fs:List Fc) (k:Nat),zbz mod name k us fs=some x->∃ f ∈ fs,∃ i ∈ f.items,∃ j:Nat,x=zko ((j:Int)+1) i
 | [],_,_,h=>by unfold zbz at h;cases h
 | _ :: _,[],_,h=>by unfold zbz at h;cases h
 | u :: us,f :: fs,k,h=>by
   rw [zbz] at h
   have rest:zbz mod name (k+1) us fs=some x->∃ g ∈ f :: fs,∃ i ∈ g.items,∃ j:Nat,x=zko ((j:Int)+1) i:=fun h=>by
    obtain ⟨g,hg,r⟩:=zns mod name x us fs (k+1) h;exact ⟨g,vbi _ hg,r⟩
   split at h
   . split at h
     . rename_i i hi
       exact ⟨f,vbg ..,i,znr hi,k,(vac h).symm⟩
     . exact rest h
   . exact rest h
theorem zuc {i:It} (h:Fx.za8 i=true):1<=i.kind/\i.kind<=4:=by
 unfold Fx.za8 at h;rw [van] at h;have h:=h.2;unfold Fx.numOkB at h
 by_cases h1:i.kind=1
 . omega
 . rw [if_neg h1] at h
   by_cases h2:i.kind=2
   . omega
   . rw [if_neg h2] at h
     by_cases h3:i.kind=3
     . omega
     . rw [if_neg h3] at h
       by_cases h4:i.kind=4
       . omega
       . rw [if_neg h4] at h;cases h
theorem zh3 {f:Fc} (h:Fx.zey f=0):Fx.nameOk f.name=true/\Fx.zd9 (Fx.zbs f.items)=false/\f.items.all Fx.za8=true:=by
 unfold Fx.zey at h
 split at h
 . cases h
 . split at h
   . rename_i h1
     rw [van,van,vdp] at h1;exact ⟨h1.1.1,h1.1.2,h1.2⟩
   . cases h
theorem zg2 {a:ByteArray} (h:a.size=0):a=⟨#[]⟩:=by
 obtain ⟨d⟩:=a;have:d.size=0:=h;rw [Array.eq_empty_of_size_eq_zero this]
theorem zud {s:ByteArray} (h:Fx.nameOk s=true):s.size≠0:=fun e=>by
 rw [zg2 e] at h
 revert h
 decide
theorem znt:∀ (l:List Fc) (us:List ByteArray),l.length=us.length->(l.zip us).all zah=true->l.map (·.name)=us/\∀ f ∈ l,Fx.zey f=0
 | [],[],_,_=>⟨rfl,fun f h=>by cases h⟩
 | [],_ :: _,h,_=>by simp at h
 | _ :: _,[],h,_=>by simp at h
 | f :: l,u :: us,h,ha=>by
   rw [List.zip_cons_cons,vbs,van] at ha;obtain ⟨h1,h2⟩:=znt l us (by simpa using h) ha.2;have h3:=ha.1;unfold zah at h3;rw [van] at h3;refine ⟨?_,fun g hg=>?_⟩
   . rw [vbq,h1,of_decide_eq_true h3.2]
   . rcases vbo.1 hg with rfl | hg
     . exact eq_of_beq h3.1
     . exact h2 g hg
theorem zue {m:Mo} {l:List Fc} {ns:List ByteArray} (hm:chkM m=0) (hl:l.length=m.uses.length) (hf:(l.zip m.uses).all zah=true) (hn:Fx.zd9 (Fx.zbk ns)=false) (mod name:ByteArray) :
 Ag (zew ⟨m.uses,l,layItems m,ns⟩ mod name) (zhl (zbo m l) (zoy ns) mod name):=by
 have he:=zfq hm;have ho:=z07 he;obtain ⟨_,hits⟩:=zry m.decls 0 (Int.le_refl _) (fun d hd=>(ho.decls d hd).2);obtain ⟨hnm,hck⟩:=znt l m.uses hl hf
 have hd:Fx.zd9 (Fx.zbk m.uses)=false/\Fx.zd9 (Fx.zbs (layItems m))=false:=by
  unfold chkM at hm;rw [if_neg (by simp [he])] at hm
  cases h1:Fx.zd9 (Fx.zbk m.uses)<;>cases h2:Fx.zd9 (Fx.zbs (layItems m))<;>simp [h1,h2] at hm ⊢
 have hu:m.uses.Nodup:=zjf ((zg1 _).1 hd.1);have hown:((layItems m).map (·.name)).Nodup:=zjg ((zg1 _).1 hd.2);have hK:=zo8 (zwi m) mod name l (hnm ▸ hu) (fun f hf=>zjg ((zg1 _).1 (zh3 (hck f hf)).2.1));rw [hnm] at hK;have hO:=zk9 (fun _ _=>none) ⟨#[]⟩ 0 mod name (layItems m) hown
 have kinds:∀ it ∈ layItems m,1<=it.kind/\it.kind<=4:=fun it hit=>by
  unfold layItems at hit
  rcases vca.1 hit with h1 | h1
  . have:=(hits it h1).kind;omega
  . obtain ⟨j,hj,e⟩:=zor _ _ _ h1
    rw [e];show (1:Int)<=4/\(4:Int)<=4
    decide
 unfold zew zhl
 by_cases hs:mod.size=0
 . rw [if_pos hs,if_pos hs,zub _ _ (zjf ((zg1 _).1 hn))]
   show Ag (match ns.findIdx? (fun x=>decide (x=name)) with | some i=>some ⟨0,0, -1,i⟩ | none=>(zdj (layItems m) name).map (zko 0)) _
   cases hx:ns.findIdx? (fun x=>decide (x=name)) with
   | some i=>exact Or.inl ⟨rfl,rfl,rfl,rfl⟩
   | none=>
     have em:=zg2 hs
     have h0:zbz mod name 0 m.uses l=none:=by
      refine zh2 _ _ _ _ _ (fun hin=>?_);rw [← hnm] at hin;obtain ⟨f,hf1,hf2⟩:=vcg.1 hin;exact zud (zh3 (hck f hf1)).1 (by rw [hf2];exact hs)
     rw [h0] at hK;have hK:zbo m l mod name=zwi m mod name:=hK;have hO:zwi m mod name=_:=hO;rw [if_pos em] at hO;show Ag ((zdj (layItems m) name).map (zko 0)) (zbo m l mod name);rw [hK,hO]
     cases hi:zdj (layItems m) name with
     | none=>exact True.intro
     | some i=>
       have:=kinds i (znr hi);exact Or.inr ⟨this.1,this.2,rfl,by show (0:Int)≠-1;decide⟩
 . rw [if_neg hs,if_neg hs]
   have hO:zwi m mod name=_:=hO;rw [if_neg (fun e=>hs (by rw [e];rfl))] at hO;rw [hO] at hK;have hK:zbo m l mod name=_:=hK;rw [hK];show Ag (zbz mod name 0 m.uses l) _
   cases hx:zbz mod name 0 m.uses l with
   | none=>exact True.intro
   | some g=>
     obtain ⟨f,hf1,i,hi,j,rfl⟩:=zns _ _ _ _ _ _ hx;have:=zuc (vat.1 (zh3 (hck f hf1)).2.2 i hi);exact Or.inr ⟨this.1,this.2,rfl,by show (j:Int)+1≠-1;omega⟩
def svM (m:Mo) (l:List Fc) (ns:List ByteArray):Sv:=⟨m.uses,l,layItems m,ns⟩
def dupR (ns:List ByteArray) (E:Int):Int:=if Fx.zd9 (Fx.zbk ns)=true then zbf 6 E else E
theorem zuf {ns:List ByteArray} {E:Int} (h:E≠0):dupR ns E=E:=by
 unfold dupR;split
 . exact zea h
 . rfl
def prT (m:Mo) (l:List Fc) (p:Pr) (E:Int):Pt × Int:=
 (⟨p.params.length,p.locals.length,(blT (svM m l p.own) p.body (dupR p.own E)).1⟩,(blT (svM m l p.own) p.body (dupR p.own E)).2)
def psT (m:Mo) (l:List Fc):List Pr->Int->List Pt × Int
 | [],E=>([],E)
 | p :: r,E=>((prT m l p E).1 :: (psT m l r (prT m l p E).2).1,(psT m l r (prT m l p E).2).2)
def unT (m:Mo) (l:List Fc):Un × Int:=
 (⟨m.name,m.uses,zav m,(psT m l m.procs 0).1,(blT (svM m l []) m.main (psT m l m.procs 0).2).1⟩,(blT (svM m l []) m.main (psT m l m.procs 0).2).2)
theorem zw4 (m:Mo) (l:List Fc) (p:Pr) {E:Int} (h:E≠0):(prT m l p E).2=E:=by
 show (blT (svM m l p.own) p.body (dupR p.own E)).2=E;rw [zuf h];exact zct _ _ h
theorem zqw (m:Mo) (l:List Fc):∀ (ps:List Pr) {E:Int},E≠0->(psT m l ps E).2=E
 | [],E,_=>rfl
 | p :: r,E,h=>by
   show (psT m l r (prT m l p E).2).2=E;rw [zw4 m l p h];exact zqw m l r h
theorem zqx (m:Mo) (l:List Fc) (p:Pr):∀ (ps:List Pr) (E:Int),psT m l (ps++[p]) E=((psT m l ps E).1++[(prT m l p (psT m l ps E).2).1],(prT m l p (psT m l ps E).2).2)
 | [],E=>rfl
 | q :: r,E=>by
   show ((prT m l q E).1 :: (psT m l (r++[p]) (prT m l q E).2).1,(psT m l (r++[p]) (prT m l q E).2).2)=_;rw [zqx m l p r]
   rfl
theorem zug {m:Mo} (h:m.err=0):(∀ p ∈ m.procs,zaj 6 p.body=true)/\zaj 6 m.main=true:=by
 obtain ⟨_,_,hf⟩:=zmm h;unfold Mo.form at hf;simp only [van,vat] at hf;exact ⟨fun p hp=>hf.2.2.2.2 p.body (by unfold Mo.bodies;simp;exact Or.inl ⟨p,hp,rfl⟩),hf.2.2.2.2 m.main (by unfold Mo.bodies;simp)⟩
theorem zw5 {m:Mo} {l:List Fc} (hm:chkM m=0) (hl:l.length=m.uses.length) (hf:(l.zip m.uses).all zah=true) (p:Pr) (hp:stH 6 p.body):Tog (zgu (zbo m l) p) (prT m l p 0):=by
 unfold zgu
 cases hd:Fx.zd9 (Fx.zbk p.own) with
 | true=>
   rw [if_pos rfl];refine ⟨by decide,?_⟩;show (blT (svM m l p.own) p.body (dupR p.own 0)).2=6
   have:dupR p.own 0=6:=by unfold dupR;rw [if_pos hd];rfl
   rw [this];exact zct _ _ (by decide)
 | false=>
   have e:dupR p.own 0=0:=by unfold dupR;rw [if_neg (by rw [hd];decide)]
   have i:=znc (v:=svM m l p.own) (fun mod name=>zue hm hl hf hd mod name) 6 p.body hp;rw [if_neg (by decide)];show Tog _ ((⟨p.params.length,p.locals.length,(blT (svM m l p.own) p.body (dupR p.own 0)).1⟩:Pt),(blT (svM m l p.own) p.body (dupR p.own 0)).2);rw [e]
   cases hr:zdv (zbo m l) (zoy p.own) p.body with
   | error c=>rw [hr] at i;exact i
   | ok y=>
     rw [hr] at i;have i:blT (svM m l p.own) p.body 0=(y,0):=i;rw [i]
     rfl
theorem znu {m:Mo} {l:List Fc} (hm:chkM m=0) (hl:l.length=m.uses.length) (hf:(l.zip m.uses).all zah=true):∀ ps:List Pr,(∀ p ∈ ps,stH 6 p.body)->Tog (zb2 (zbo m l) ps) (psT m l ps 0)
 | [],_=>rfl
 | p :: r,h=>by
   have h1:=zw5 hm hl hf p (h p (vbg ..));have h2:=znu hm hl hf r (fun q hq=>h q (vbi _ hq));show Tog (zce (zgu (zbo m l) p) fun t=>zce (zb2 (zbo m l) r) fun l=>.ok (t :: l)) ((prT m l p 0).1 :: (psT m l r (prT m l p 0).2).1,(psT m l r (prT m l p 0).2).2)
   cases hr:zgu (zbo m l) p with
   | error e=>
     rw [hr] at h1;refine ⟨h1.1,?_⟩;show (psT m l r (prT m l p 0).2).2=e;rw [h1.2];exact zqw m l r h1.1
   | ok y=>
     rw [hr] at h1;have h1:prT m l p 0=(y,0):=h1;rw [h1]
     cases hq:zb2 (zbo m l) r with
     | error e=>rw [hq] at h2;exact h2
     | ok z=>
       rw [hq] at h2;have h2:psT m l r 0=(z,0):=h2;show (_ :: _,_)=(_,_);simp only [h2]
theorem zw6 {m:Mo} {l:List Fc} (hm:chkM m=0) (hl:l.length=m.uses.length) (hf:(l.zip m.uses).all zah=true):Tog (zf8 m l) (unT m l):=by
 have he:=zfq hm;obtain ⟨f1,f2⟩:=zug he;have hmp:=zc5 he;have h1:=znu hm hl hf m.procs (fun p hp=>zrx 6 p.body (f1 p hp) (hmp.2.2.2.1 p hp).2.2);have h2:=znc (v:=svM m l []) (K:=zbo m l) (L:=zoy []) (fun mod name=>zue hm hl hf rfl mod name) 6 m.main (zrx 6 m.main f2 hmp.2.2.2.2);have h2:Tog (zdv (zbo m l) (fun _=>none) m.main) (blT (svM m l []) m.main 0):=h2;unfold zf8 unT
 cases hr:zb2 (zbo m l) m.procs with
 | error e=>
   rw [hr] at h1;refine ⟨h1.1,?_⟩;show (blT (svM m l []) m.main (psT m l m.procs 0).2).2=e;rw [h1.2];exact zct _ _ h1.1
 | ok y=>
   rw [hr] at h1;have h1:psT m l m.procs 0=(y,0):=h1;rw [h1]
   cases hq:zdv (zbo m l) (fun _=>none) m.main with
   | error e=>rw [hq] at h2;exact h2
   | ok z=>
     rw [hq] at h2;have h2:blT (svM m l []) m.main 0=(z,0):=h2;show (_,_)=(_,_);simp only [h2]
def ziy (m:Mo) (l:List Fc):Except Int Un:=
 if chkM m≠0 then .error (chkM m) else if l.length≠m.uses.length then .error 8 else if (l.zip m.uses).all zah then (if (unT m l).2=0 then .ok (unT m l).1 else .error (unT m l).2) else .error 1
theorem zig (m:Mo) (l:List Fc):ziy m l=resolveM m l:=by
 unfold ziy resolveM
 by_cases hm:chkM m=0
 . by_cases hl:l.length=m.uses.length
   . have n1:¬ (chkM m≠0):=fun h=>h hm
     have n2:¬ (l.length≠m.uses.length):=fun h=>h hl
     simp only [if_neg n1,if_neg n2]
     cases hf:(l.zip m.uses).all zah with
     | false=>rfl
     | true=>
       have h:=zw6 hm hl hf;show (if (unT m l).2=0 then Except.ok (unT m l).1 else .error (unT m l).2)=zf8 m l
       cases hu:zf8 m l with
       | error e=>
         rw [hu] at h;have h:e≠0/\(unT m l).2=e:=h;rw [if_neg (by rw [h.2];exact h.1),h.2]
       | ok y=>
         rw [hu] at h;have h:unT m l=(y,0):=h;rw [h]
         rfl
   . have n1:¬ (chkM m≠0):=fun h=>h hm
     have n2:l.length≠m.uses.length:=hl;simp only [if_neg n1,if_pos n2]
 . have n1:chkM m≠0:=hm
   simp only [if_pos n1]
end Go.Proofs.YtndkhgakfodldaaGreatDoor

namespace Go.Proofs.YtndkhgakfodldaaGreatDoor
set_option maxRecDepth 100000
set_option maxHeartbeats 6400000
open Go.RowKit Go.Maps Go.WideMaps
set_option linter.unusedSimpArgs false
set_option linter.unusedVariables false
def z2b (f:FuncId):Prop:=∀ W:World,Calls Tryz.prog f #[] W fun e W'=>e = .returned (.bool true)/\Below W.heap.size W W'
set_option maxHeartbeats 1600000
def zkr:Fc:=⟨⟨#[99,110,116]⟩,[⟨1,3,0,⟨#[107]⟩⟩,⟨2,0,0,⟨#[115,117,109]⟩⟩,⟨3,4,1,⟨#[116]⟩⟩,⟨4,1,0,⟨#[100,111,119,110]⟩⟩]⟩
theorem zzo:Fx.zey zkr=0:=by kernel_rfl
theorem zzp:chkM zh5=0:=by kernel_rfl
theorem zuh:zf0 zh5=zkr.items:=by kernel_rfl
def z2o (r:Except Int Un):Un:=match r with | .ok u=>u | .error _=>⟨⟨#[]⟩,[],0,[],[]⟩
def zsb:Un:=z2o (resolveM zh5 [])
def zo9:Un:=z2o (resolveM zir [zkr])
theorem zzq:resolveM zh5 [] = .ok zsb:=by kernel_rfl
theorem zzr:resolveM zir [zkr] = .ok zo9:=by kernel_rfl
theorem zw7:resolveM zir [] = .error 8:=by kernel_rfl
theorem zsc:zsb.data=5:=by kernel_rfl
theorem znv:zsb.parts.length=1/\zsb.uses.length=0/\zsb.main.length=0/\zo9.main.length=3/\zo9.uses.length=1/\zo9.parts.length=0:=⟨by kernel_rfl,by kernel_rfl,by kernel_rfl,by kernel_rfl,by kernel_rfl,by kernel_rfl⟩
theorem zw8:(ptsD zsb.parts)[1]? = some (.int 1):=by kernel_rfl
theorem zpa:(zc2 zo9.main)[1]? = some (.int 4)/\(zc2 zo9.main)[2]? = some (.int 1)/\(zc2 zo9.main)[3]? = some (.int 1):=⟨by kernel_rfl,by kernel_rfl,by kernel_rfl⟩
theorem EAt.num {w:World} {A:Nat->Prop} {a:OA} {n:Nat} {ds:List D} (h:EAt w A a n ds) (hn:n≠0):∃ b off,a=some ⟨b,off,none⟩/\b<w.heap.size/\A b/\∀ (j:Nat) (k:Int),ds[j]? = some (.int k)->w.cell? ⟨b,off+j,none⟩=some (.int .i64 k):=by
 rcases h with h | ⟨b,off,cs,ha,hA,hb,hc,hx⟩
 . exact absurd h hn
 . refine ⟨b,off,ha,hb,hA,fun j k hj=>?_⟩
   obtain ⟨v,hv,hd⟩:=hx.get j _ hj;rw [zdf hd] at hv;exact hc j _ hv
theorem zjh (w:World) :
 Calls Tryz.prog 57 #[] w fun e w'=>∃ ad cap,e = .returned (.agg #[.string ⟨#[99,110,116]⟩,.slice ad 4 cap])/\DAt w' Tt ad 4 (zfe zkr.items)/\Below w.heap.size w w':=by
 go_enter Tryz.func57,Tryz.ntmps57;go_wp2_with fail
 obtain ⟨W,hW⟩:∃ W,W=allocsC w [(#[.string ⟨#[99,110,116]⟩,.slice (some ⟨w.heap.size+1,0,none⟩) 4 4],30),(#[.int .i64 1,.int .i64 3,.int .i64 0,.string ⟨#[107]⟩,.int .i64 2,.int .i64 0,.int .i64 0,.string ⟨#[115,117,109]⟩,.int .i64 3,.int .i64 4,.int .i64 1,.string ⟨#[116]⟩,.int .i64 4,.int .i64 1,.int .i64 0,.string ⟨#[100,111,119,110]⟩],98)]:=⟨_,rfl⟩
 have hB:Below w.heap.size w W:=by rw [hW];exact zd5 _ _
 have hD:DAt W Tt (some ⟨w.heap.size+1,0,none⟩) 4 (zfe zkr.items):=by
  rw [hW];refine zcz (zay w _ 1 _ _ rfl) ?_ (by decide) (by decide);exact .cons (zd7 rfl) (.cons (zd7 rfl) (.cons (zd7 rfl) (.cons (zd1 (by decide)) (.cons (zd7 rfl) (.cons (zd7 rfl) (.cons (zd7 rfl) (.cons (zd1 (by decide)) (.cons (zd7 rfl) (.cons (zd7 rfl) (.cons (zd7 rfl) (.cons (zd1 (by decide)) (.cons (zd7 rfl) (.cons (zd7 rfl) (.cons (zd7 rfl) (.cons (zd1 (by decide)) .nil)))))))))))))))
 refine bodyPost_ret (v:=.agg #[.string ⟨#[99,110,116]⟩,.slice (some ⟨w.heap.size+1,0,none⟩) 4 4]) (by simp [results,Tryz.results57,go_sem]) rfl ⟨some ⟨w.heap.size+1,0,none⟩,4,rfl,?_,?_⟩
 . rw [hW] at hD;exact hD
 . rw [hW] at hB;exact hB
theorem zks (f:Fc) (a a':OA) (cap cap':Nat) (w:World) (hA:Fx.zbp w a f.items) (hA':Fx.zbp w a' f.items) (hl:f.items.length<=1000) :
 Calls Tryz.prog 18 #[.agg #[.string f.name,.slice a f.items.length cap],.agg #[.string f.name,.slice a' f.items.length cap']] w fun e w'=>e = .returned (.bool true)/\Below w.heap.size w w':=by
 obtain ⟨W0,hW0⟩:∃ W0,W0=(w.alloc (.cells #[.string f.name,.slice a f.items.length cap] 30)).alloc (.cells #[.string f.name,.slice a' f.items.length cap'] 30):=⟨_,rfl⟩
 have hB:Below w.heap.size w W0:=by rw [hW0];exact bl2 _ _ _
 have hX:W0.heap[w.heap.size]? = some (.cells #[.string f.name,.slice a f.items.length cap] 30):=by rw [hW0];exact zad (heap_newP _ _)
 have hY:W0.heap[w.heap.size+1]? = some (.cells #[.string f.name,.slice a' f.items.length cap'] 30):=by
  rw [hW0];simpa using heap_newP (w.alloc (.cells #[.string f.name,.slice a f.items.length cap] 30)) (.cells #[.string f.name,.slice a' f.items.length cap'] 30)
 have HI:=hid (hA.later hB);have HI':=hid (hA'.later hB);have HB:=hid hB;have HW:=hid hW0;obtain ⟨x0,x1,_⟩:=zbd hX;obtain ⟨y0,y1,_⟩:=zbd hY;have hYlt:=zaa hY;clear hA hA' hB hW0 hX hY;go_enter Tryz.func18,Tryz.ntmps18;go_wp2_with fail;rw [← HW.out];clear HW;go_wp2_with fail;have HX0:=hid x1;have HY0:=hid y1;have hz0:w.heap.size+1<W0.heap.size:=hYlt
 go_loopw [5] (fun i wr=>∃ k:Nat,k<=f.items.length/\i = .int .i64 k/\Below W0.heap.size W0 wr) (fun i _=>f.items.length - (intOf i).toNat)
 case atStart=>exact ⟨0,vad _,rfl,Below.refl _ _⟩
 case round=>
  obtain ⟨k,hk,rfl,hb⟩:=hrel;have HBw:=hid hb;have x2:wr.cell? ⟨w.heap.size,1,none⟩=some (.slice a f.items.length cap):=(hb.cell (p:=⟨w.heap.size,1,none⟩) (by show w.heap.size<_;omega)).trans HX0.out;have y2:wr.cell? ⟨w.heap.size+1,1,none⟩=some (.slice a' f.items.length cap'):=(hb.cell (p:=⟨w.heap.size+1,1,none⟩) (by show w.heap.size+1<_;omega)).trans HY0.out
  by_cases hlt:k<f.items.length
  . obtain ⟨b,off,rfl,hbl,c0,c1,c2,c3⟩:=(HI.out.later hb).place hlt
    obtain ⟨b',off',rfl,hbl',d0,d1,d2,d3⟩:=(HI'.out.later hb).place hlt;clear hb x0 x1 y0 y1;generalize f.items[k]=it at *;obtain ⟨kd,nn,att,xs⟩:=it;simp only at c0 c1 c2 c3 d0 d1 d2 d3
    go_wp2_with (go_quiet (fail))
    go_roundw
    case rel=>exact ⟨k+1,by omega,by go_num,HBw.out.os,HBw.out.tape,HBw.out.output,HBw.out.size,HBw.out.block⟩
    case measure=>simp [intOf];omega
  . obtain rfl:k=f.items.length:=by omega
    have HBf:=hid (HB.out.trans (hb.mono HB.out.size));clear hb;go_wp2_with fail
    go_returns
    exact ⟨rfl,HBf.out⟩
theorem zw9 {w:World} {v:Value} {a1 a2 a3 a4:OA} {c1 c2 c3 c4:Nat} (hM:MoAt w Tt zh5 v a1 c1 a2 c2 a3 c3 a4 c4) :
 Calls Tryz.prog 15 #[v] w fun e w'=>∃ a cap,e = .returned (.tuple #[.agg #[.string ⟨#[99,110,116]⟩,.slice a 4 cap],.int .i64 0])/\(Fx.zbp w' a zkr.items/\Fx.AllFit zkr.items)/\Below w.heap.size w w':=
 (zyg zh5 v a1 c1 a2 c2 a3 c3 a4 c4 w hM).mono fun e w' ⟨h,hb⟩=>by
   rcases h with ⟨h,_⟩ | ⟨_,a,cap,he,hE⟩
   . exact absurd zzp h
   . rw [zuh] at he hE
     exact ⟨a,cap,he,zfz hE,hb⟩
theorem res_cnt {w:World} {v:Value} {a1 a2 a3 a4:OA} {c1 c2 c3 c4:Nat} (hM:MoAt w Tt zh5 v a1 c1 a2 c2 a3 c3 a4 c4) :
 Calls Tryz.prog 21 #[v,.slice none 0 0] w fun e w'=>∃ s x1 n1 y1 b2 o2 y2 x3 n3 y3,e = .returned (.tuple #[.agg #[.string s,.slice x1 n1 y1,.int .i64 5,.slice (some ⟨b2,o2,none⟩) 1 y2,.slice x3 n3 y3],.int .i64 0])/\(b2<w'.heap.size/\w'.cell? ⟨b2,o2+1,none⟩=some (.int .i64 1))/\Below w.heap.size w w':=
 (zfa zh5 v a1 c1 a2 c2 a3 c3 a4 c4 [] none 0 w hM ⟨vaa _,vad _,Or.inl rfl⟩).mono fun e w' ⟨h,hb⟩=>by
   rw [zzq] at h;obtain ⟨x1,y1,x2,y2,x3,y3,he,_,h2,_⟩:=h;rw [znv.1] at h2 he;obtain ⟨b,off,rfl,hlt,_,hc⟩:=h2.num (by decide);rw [zsc] at he;exact ⟨_,x1,_,y1,b,off,y2,x3,_,y3,he,⟨hlt,hc 1 1 zw8⟩,hb⟩
theorem zxa {w:World} {v:Value} {a1 a2 a3 a4:OA} {c1 c2 c3 c4:Nat} (hM:MoAt w Tt zir v a1 c1 a2 c2 a3 c3 a4 c4) :
 Calls Tryz.prog 21 #[v,.slice none 0 0] w fun e w'=>e = .returned (.tuple #[.agg #[.string ⟨#[]⟩,.slice none 0 0,.int .i64 0,.slice none 0 0,.slice none 0 0],.int .i64 8])/\Below w.heap.size w w':=
 (zfa zir v a1 c1 a2 c2 a3 c3 a4 c4 [] none 0 w hM ⟨vaa _,vad _,Or.inl rfl⟩).mono fun e w' ⟨h,hb⟩=>by
   rw [zw7] at h;exact ⟨h.1,hb⟩
theorem zui (w:World):Calls Tryz.prog 55 #[.string zy3] w fun e w'=>∃ v a1 c1 a2 c2 a3 c3 a4 c4,e = .returned (.tuple #[v,.int .i64 0])/\MoAt w' Tt zir v a1 c1 a2 c2 a3 c3 a4 c4/\Below w.heap.size w w':=
 (zvm zy3 w (by decide)).mono fun e w' ⟨h,hb⟩=>by
   rcases h with ⟨h,_⟩ | ⟨m,v,a1,c1,a2,c2,a3,c3,a4,c4,hp,_,he,hM⟩
   . rw [zq9] at h;cases h
   . rw [zq9] at hp
     obtain rfl:=vac hp;exact ⟨v,a1,c1,a2,c2,a3,c3,a4,c4,he,hM,hb⟩
set_option maxHeartbeats 12800000
structure Sg (w W:World) (b1 b3 b5:Nat) (a:OA) (cap:Nat) (s:ByteArray) (x1:OA) (n1 y1:Nat) (b2 o2 y2:Nat) (x3:OA) (n3 y3:Nat) (z1:OA) (d1:Nat) (z2:OA) (d2:Nat) (z3:OA) (d3:Nat) (z4:OA) (d4:Nat):Prop where
 below:Below w.heap.size w W
 h1:W.heap[b1]? = some (.cells #[.string ⟨#[99,110,116]⟩,.slice a 4 cap] 30 (0,0))
 its:Fx.zbp W a zkr.items
 fit:Fx.AllFit zkr.items
 h3:W.heap[b3]? = some (.cells #[.string s,.slice x1 n1 y1,.int .i64 5,.slice (some ⟨b2,o2,none⟩) 1 y2,.slice x3 n3 y3] 42 (0,0))
 l3:b2<W.heap.size
 c3:W.cell? ⟨b2,o2+1,none⟩=some (.int .i64 1)
 h5:W.heap[b5]? = some (.cells #[.string ⟨#[116,111,112]⟩,.slice z1 1 d1,.slice z2 0 d2,.slice z3 0 d3,.slice z4 3 d4] 27 (0,0))
 mo:MoAt W Tt zir (.agg #[.string ⟨#[116,111,112]⟩,.slice z1 1 d1,.slice z2 0 d2,.slice z3 0 d3,.slice z4 3 d4]) z1 d1 z2 d2 z3 d3 z4 d4
theorem Sg.later {w W W':World} {b1 b3 b5:Nat} {a:OA} {cap:Nat} {s:ByteArray} {x1:OA} {n1 y1 b2 o2 y2:Nat} {x3:OA} {n3 y3:Nat} {z1 z2 z3 z4:OA} {d1 d2 d3 d4:Nat} (h:Sg w W b1 b3 b5 a cap s x1 n1 y1 b2 o2 y2 x3 n3 y3 z1 d1 z2 d2 z3 d3 z4 d4) (hb:Below W.heap.size W W'):Sg w W' b1 b3 b5 a cap s x1 n1 y1 b2 o2 y2 x3 n3 y3 z1 d1 z2 d2 z3 d3 z4 d4:=
 ⟨h.below.trans (hb.mono h.below.size),(hb.block _ (zaa h.h1)).trans h.h1,h.its.later hb,h.fit,(hb.block _ (zaa h.h3)).trans h.h3,vai h.l3 hb.size,(hb.cell (p:=⟨b2,o2+1,none⟩) h.l3).trans h.c3,(hb.block _ (zaa h.h5)).trans h.h5,h.mo.later hb⟩
structure Tg (W:World) (b7:Nat) (s:ByteArray) (x1:OA) (n1 y1:Nat) (d:Int) (x2:OA) (n2 y2 b3 o3 y3:Nat):Prop where
 h7:W.heap[b7]? = some (.cells #[.string s,.slice x1 n1 y1,.int .i64 d,.slice x2 n2 y2,.slice (some ⟨b3,o3,none⟩) 3 y3] 42 (0,0))
 l7:b3<W.heap.size
 n:W.cell? ⟨b3,o3+1,none⟩=some (.int .i64 4)
 m:W.cell? ⟨b3,o3+2,none⟩=some (.int .i64 1)
 at':W.cell? ⟨b3,o3+3,none⟩=some (.int .i64 1)
theorem Tg.later {W W':World} {b7:Nat} {s:ByteArray} {x1:OA} {n1 y1:Nat} {d:Int} {x2:OA} {n2 y2 b3 o3 y3:Nat} (h:Tg W b7 s x1 n1 y1 d x2 n2 y2 b3 o3 y3) (hb:Below W.heap.size W W'):Tg W' b7 s x1 n1 y1 d x2 n2 y2 b3 o3 y3:=
 ⟨(hb.block _ (zaa h.h7)).trans h.h7,vai h.l7 hb.size,(hb.cell (p:=⟨b3,o3+1,none⟩) h.l7).trans h.n,(hb.cell (p:=⟨b3,o3+2,none⟩) h.l7).trans h.m,(hb.cell (p:=⟨b3,o3+3,none⟩) h.l7).trans h.at'⟩
theorem zmi {w:World} {v:Value} {a1 a2 a3 a4:OA} {c1 c2 c3 c4:Nat} (hM:MoAt w Tt zir v a1 c1 a2 c2 a3 c3 a4 c4) {al:OA} (cl:Nat) (hF:DAt w Tt al 1 (ztt [zkr])) :
 Calls Tryz.prog 21 #[v,.slice al 1 cl] w fun e w'=>∃ s x1 n1 y1 d x2 n2 y2 b3 o3 y3,e = .returned (.tuple #[.agg #[.string s,.slice x1 n1 y1,.int .i64 d,.slice x2 n2 y2,.slice (some ⟨b3,o3,none⟩) 3 y3],.int .i64 0])/\(w.heap.size<=b3/\b3<w'.heap.size/\w'.cell? ⟨b3,o3+1,none⟩=some (.int .i64 4)/\w'.cell? ⟨b3,o3+2,none⟩=some (.int .i64 1)/\w'.cell? ⟨b3,o3+3,none⟩=some (.int .i64 1))/\Below w.heap.size w w':=
 (zfa zir v a1 c1 a2 c2 a3 c3 a4 c4 [zkr] al cl w hM hF).mono fun e w' ⟨h,hb⟩=>by
   rw [zzr] at h;obtain ⟨x1,y1,x2,y2,x3,y3,he,_,_,h3⟩:=h;rw [znv.2.2.2.1] at h3 he;obtain ⟨b,off,rfl,hlt,hlo,hc⟩:=h3.num (by decide);exact ⟨_,x1,_,y1,_,x2,_,y2,b,off,y3,he,⟨hlo,hlt,hc 1 4 zpa.1,hc 2 1 zpa.2.1,hc 3 1 zpa.2.2⟩,hb⟩
theorem zmj {w:World} {ad:OA} {cp:Nat} (hD:DAt w Tt ad 4 (zfe zkr.items)) (t:TypeId):DAt (w.alloc (.cells #[.string ⟨#[99,110,116]⟩,.slice ad 4 cp] t)) Tt (some ⟨w.heap.size,0,none⟩) 1 (ztt [zkr]):=by
 refine zcz (zay w [(#[.string ⟨#[99,110,116]⟩,.slice ad 4 cp],t)] 0 _ _ rfl) ?_ (by decide) (by decide);exact .cons (zd1 (by decide)) (.cons (hD.moves ⟨by simp,fun b hb _=>⟨trivial,(al1 _ _).block b hb⟩⟩).val .nil)
theorem zuj {w:World} {ad:OA} {cp:Nat} (hD:DAt w Tt ad 4 (zfe zkr.items)) (o:Obj) (t:TypeId):DAt ((w.alloc o).alloc (.cells #[.string ⟨#[99,110,116]⟩,.slice ad 4 cp] t)) Tt (some ⟨w.heap.size+1,0,none⟩) 1 (ztt [zkr]):=by
 have:=zmj (cp:=cp) (hD.moves (w':=w.alloc o) ⟨by simp,fun b hb _=>⟨trivial,(al1 _ _).block b hb⟩⟩) t;simpa using this
theorem ztp {W:World} {b:Nat} {v0 v1 v2 v3 v4:Value} {t:TypeId} (h:W.heap[b]? = some (.cells #[v0,v1,v2,v3,v4] t (0,0))):W.cell? ⟨b,0,none⟩=some v0/\W.cell? ⟨b,1,none⟩=some v1/\W.cell? ⟨b,2,none⟩=some v2/\W.cell? ⟨b,3,none⟩=some v3/\W.cell? ⟨b,4,none⟩=some v4:=
 have h3:=zac h
 ⟨h3.1,h3.2.1,h3.2.2.1,h3.2.2.2.1,h3.2.2.2.2.1⟩
theorem ziz {w W:World} {b1 b3 b5:Nat} {a:OA} {cap:Nat} {s:ByteArray} {x1:OA} {n1 y1 b2 o2 y2:Nat} {x3:OA} {n3 y3:Nat} {z1 z2 z3 z4:OA} {d1 d2 d3 d4:Nat} (h:Sg w W b1 b3 b5 a cap s x1 n1 y1 b2 o2 y2 x3 n3 y3 z1 d1 z2 d2 z3 d3 z4 d4) {b7:Nat} {s8:ByteArray} {p1:OA} {m1 q1:Nat} {dd:Int} {p2:OA} {m2 q2 b8 o8 q3:Nat} (t:Tg W b7 s8 p1 m1 q1 dd p2 m2 q2 b8 o8 q3) :
 W.cell? ⟨b1,0,none⟩=some (.string ⟨#[99,110,116]⟩)/\W.cell? ⟨b1,1,none⟩=some (.slice a 4 cap)/\W.cell? ⟨b3,2,none⟩=some (.int .i64 5)/\W.cell? ⟨b3,3,none⟩=some (.slice (some ⟨b2,o2,none⟩) 1 y2)/\W.cell? ⟨b2,o2+1,none⟩=some (.int .i64 1)/\W.cell? ⟨b7,4,none⟩=some (.slice (some ⟨b8,o8,none⟩) 3 q3)/\W.cell? ⟨b8,o8+1,none⟩=some (.int .i64 4)/\W.cell? ⟨b8,o8+2,none⟩=some (.int .i64 1)/\W.cell? ⟨b8,o8+3,none⟩=some (.int .i64 1):=
 have h1:=zbd h.h1;have h3:=ztp h.h3;have h7:=ztp t.h7
 ⟨h1.1,h1.2.1,h3.2.2.1,h3.2.2.2.1,h.c3,h7.2.2.2.2,t.n,t.m,t.at'⟩
theorem z02 {w8:World} (s8:ByteArray) (p1:OA) (m1 q1:Nat) (dd:Int) (p2:OA) (m2 q2 b8 o8 q3:Nat) (t:TypeId) (ht:t=42) (h:b8<w8.heap.size/\w8.cell? ⟨b8,o8+1,none⟩=some (.int .i64 4)/\w8.cell? ⟨b8,o8+2,none⟩=some (.int .i64 1)/\w8.cell? ⟨b8,o8+3,none⟩=some (.int .i64 1)) :
 Tg (w8.alloc (.cells #[.string s8,.slice p1 m1 q1,.int .i64 dd,.slice p2 m2 q2,.slice (some ⟨b8,o8,none⟩) 3 q3] t)) w8.heap.size s8 p1 m1 q1 dd p2 m2 q2 b8 o8 q3:=by
 subst ht;have hB:=al1 w8 (.cells #[.string s8,.slice p1 m1 q1,.int .i64 dd,.slice p2 m2 q2,.slice (some ⟨b8,o8,none⟩) 3 q3] 42);exact ⟨heap_newP _ _,vai h.1 hB.size,(hB.cell (p:=⟨b8,o8+1,none⟩) h.1).trans h.2.1,(hB.cell (p:=⟨b8,o8+2,none⟩) h.1).trans h.2.2.1,(hB.cell (p:=⟨b8,o8+3,none⟩) h.1).trans h.2.2.2⟩
theorem zuk {w8:World} {b7:Nat} {x0 x1 x2 x3 x4:Value} (s8:ByteArray) (p1:OA) (m1 q1:Nat) (dd:Int) (p2:OA) (m2 q2 b8 o8 q3:Nat) (hz:w8.heap[b7]? = some (.cells #[x0,x1,x2,x3,x4] 42)) (hn:b8≠b7) (h:b8<w8.heap.size/\w8.cell? ⟨b8,o8+1,none⟩=some (.int .i64 4)/\w8.cell? ⟨b8,o8+2,none⟩=some (.int .i64 1)/\w8.cell? ⟨b8,o8+3,none⟩=some (.int .i64 1)) :
 Tg (set5 w8 b7 (.string s8) (.slice p1 m1 q1) (.int .i64 dd) (.slice p2 m2 q2) (.slice (some ⟨b8,o8,none⟩) 3 q3)) b7 s8 p1 m1 q1 dd p2 m2 q2 b8 o8 q3:=by
 have e:(set5 w8 b7 (.string s8) (.slice p1 m1 q1) (.int .i64 dd) (.slice p2 m2 q2) (.slice (some ⟨b8,o8,none⟩) 3 q3)).heap[b8]? = w8.heap[b8]?:=(heap_set_ne hn _).trans ((heap_set_ne hn _).trans ((heap_set_ne hn _).trans ((heap_set_ne hn _).trans (heap_set_ne hn _))));exact ⟨zaf (zaf (zaf (zaf (zaf hz _) _) _) _) _,by simpa using h.1,(vee (w:=w8) (a:=⟨b8,o8+1,none⟩) e).trans h.2.1,(vee (w:=w8) (a:=⟨b8,o8+2,none⟩) e).trans h.2.2.1,(vee (w:=w8) (a:=⟨b8,o8+3,none⟩) e).trans h.2.2.2⟩
theorem zul {w:World} {a:OA} {cap:Nat} (hI:Fx.zbp w a zkr.items) (hf:Fx.AllFit zkr.items) :
 Calls Tryz.prog 19 #[.agg #[.string ⟨#[99,110,116]⟩,.slice a 4 cap]] w fun e w'=>e = .returned (.int .i64 0)/\Below w.heap.size w w':=by
 have:=Fx.zgd zkr a cap w hI (by decide) (by decide) hf;rw [zzo] at this;exact this
theorem zc9 {w w':World} {b:Nat} {x:Obj} (h:w.heap[b]? = some x) (hb:Below w.heap.size w w'):w'.heap[b]? = some x:=(hb.block _ (zaa h)).trans h
theorem z2c (w:World) (o:Obj):(w.alloc o).drew.heap[w.heap.size]? = some o:=heap_newP w o
theorem z03 (w:World) (o p:Obj):((w.alloc o).alloc p).heap[w.heap.size+1]? = some p:=by simpa using heap_newP (w.alloc o) p
theorem zkt (w:World) :
 Calls Tryz.prog 17 #[] w fun e w'=>e = .returned (.bool true)/\Below w.heap.size w w':=by
 go_enter Tryz.func17,Tryz.ntmps17;go_wp2_with fail;refine (counter_any _).mono ?_;rintro e w1 ⟨v,a1,c1,a2,c2,a3,c3,a4,c4,rfl,hM,hb1⟩;have HM:=hid hM;have HB1:=hid hb1;clear hM hb1;go_wp2_with fail;refine (zw9 HM.out).mono ?_;rintro e w2 ⟨a,cap,rfl,hI,hb2⟩;have HB2:=hid (thenB HB1.out hb2);have HI:=hid hI;clear hb2 HM HB1 hI;go_wp2_with fail
 obtain ⟨W2,hW2⟩:∃ W2,W2=w2.alloc (.cells #[.string ⟨#[99,110,116]⟩,.slice a 4 cap] 30):=⟨_,rfl⟩
 have hB2:Below w2.heap.size w2 W2:=by rw [hW2];exact al1 _ _
 have HX2:Hid (W2.heap[w2.heap.size]? = some (.cells #[.string ⟨#[99,110,116]⟩,.slice a 4 cap] 30 (0,0))):=by rw [hW2];exact heap_newP _ _
 have HBW2:=hid (thenB HB2.out hB2);have HI2:=hid (And.intro (HI.out.1.later hB2) HI.out.2);rw [← hW2];clear hW2 hB2 HI HB2;go_wp2_with fail;refine (counter_any _).mono ?_;rintro e w3 ⟨v,a1,c1,a2,c2,a3,c3,a4,c4,rfl,hM,hb3⟩;have HM:=hid hM;have HBW3:=hid (thenB HBW2.out hb3);have HX3:=hid ((hb3.block _ (zaa HX2.out)).trans HX2.out);have HI3:=hid (And.intro (HI2.out.1.later hb3) HI2.out.2);clear hM hb3 HBW2 HX2 HI2;go_wp2_with fail;refine (res_cnt HM.out).mono ?_;rintro e w4 ⟨s,x1,n1,y1,b2,o2,y2,x3,n3,y3,rfl,hC,hb4⟩;have HC:=hid hC;have HBW4:=hid (thenB HBW3.out hb4);have HX4:=hid ((hb4.block _ (zaa HX3.out)).trans HX3.out);have HI4:=hid (And.intro (HI3.out.1.later hb4) HI3.out.2);clear HM hb4 HBW3 HX3 HI3 hC;go_wp2_with fail
 obtain ⟨W4,hW4⟩:∃ W4,W4=w4.alloc (.cells #[.string s,.slice x1 n1 y1,.int .i64 5,.slice (some ⟨b2,o2,none⟩) 1 y2,.slice x3 n3 y3] 42):=⟨_,rfl⟩
 have hB4:Below w4.heap.size w4 W4:=by rw [hW4];exact al1 _ _
 have HU4:Hid (W4.heap[w4.heap.size]? = some (.cells #[.string s,.slice x1 n1 y1,.int .i64 5,.slice (some ⟨b2,o2,none⟩) 1 y2,.slice x3 n3 y3] 42 (0,0))):=by rw [hW4];exact heap_newP _ _
 have HBW5:=hid (thenB HBW4.out hB4);have HX5:=hid ((hB4.block _ (zaa HX4.out)).trans HX4.out);have HI5:=hid (And.intro (HI4.out.1.later hB4) HI4.out.2);have HC5:=hid (And.intro (vai HC.out.1 hB4.size) ((hB4.cell (p:=⟨b2,o2+1,none⟩) HC.out.1).trans HC.out.2));rw [← hW4];clear hW4 hB4 HBW4 HX4 HI4 HC;go_wp2_with fail;refine (zpx _).mono ?_;rintro e w5 ⟨rfl,h5⟩
 have hB5:Below W4.heap.size W4 w5:=by rw [h5];exact Below.refl _ _
 clear h5;go_wp2_with fail;refine (zui w5).mono ?_;rintro e w6 ⟨u,z1,d1,z2,d2,z3,d3,z4,d4,rfl,hM,hb6⟩;have hB6:=thenB hB5 hb6;obtain rfl:u = .agg #[.string ⟨#[116,111,112]⟩,.slice z1 1 d1,.slice z2 0 d2,.slice z3 0 d3,.slice z4 3 d4]:=hM.val;have HM:=hid hM;have HB6:=hid hB6;clear hM hB6 hb6 hB5;go_wp2_with fail
 obtain ⟨W6,hW6⟩:∃ W6,W6=w6.alloc (.cells #[.string ⟨#[116,111,112]⟩,.slice z1 1 d1,.slice z2 0 d2,.slice z3 0 d3,.slice z4 3 d4] 27):=⟨_,rfl⟩
 have hB7:Below w6.heap.size w6 W6:=by rw [hW6];exact al1 _ _
 have hB:=thenB HB6.out hB7
 have HS:Hid (Sg w W6 w2.heap.size w4.heap.size w6.heap.size a cap s x1 n1 y1 b2 o2 y2 x3 n3 y3 z1 d1 z2 d2 z3 d3 z4 d4):=
  ⟨thenB HBW5.out hB,(hB.block _ (zaa HX5.out)).trans HX5.out,HI5.out.1.later hB,HI5.out.2,(hB.block _ (zaa HU4.out)).trans HU4.out,vai HC5.out.1 hB.size,(hB.cell (p:=⟨b2,o2+1,none⟩) HC5.out.1).trans HC5.out.2,by rw [hW6];exact heap_newP _ _,HM.out.later hB7⟩
 rw [← hW6];clear hW6 hB7 hB HB6 HBW5 HX5 HI5 HU4 HC5 HM
 rename_i K hK
 have TAIL:∀ {W9:World} {b7:Nat} {s8:ByteArray} {p1:OA} {m1 q1:Nat} {dd:Int} {p2:OA} {m2 q2 b8 o8 q3:Nat} {t9 t10 t11 t12 t13 t14 t15 t16 t17 t18 t19 t20 t21 t22 t23 t24 t25 t26 t27 t28 t29 t30 t31 t32 t33 t34 t35 t36 t37 t38 t39 t40 t41 t42 t43 t44 t45 t46 t47 t48 t49 t50 t51 t52 t53 t54 t55 t56 t57 t58 t59 t60 t61 t62 t63 t64 t65 t66 t67 t68 t69 t70 t71 t72 t73 t74 t75 t76 t77 t78 t79 t80 t81 t82 t83 t84 t85 t86 t87 t88 t89 t90 t91 t92 t93 t94 t95 t96 t97 t98 t99 t100 t101 t102 t103 t104 t105 t106 t107 t108 t109 t110 t111 t112 t113 t114:Value},Sg w W9 w2.heap.size w4.heap.size w6.heap.size a cap s x1 n1 y1 b2 o2 y2 x3 n3 y3 z1 d1 z2 d2 z3 d3 z4 d4->Tg W9 b7 s8 p1 m1 q1 dd p2 m2 q2 b8 o8 q3->K { tmps:=#[.bool false,.pointer (some ⟨w2.heap.size,0,none⟩),.int .i64 0,.pointer (some ⟨w4.heap.size,0,none⟩),.int .i64 0,.pointer (some ⟨w6.heap.size,0,none⟩),.int .i64 0,.pointer (some ⟨b7,0,none⟩),.int .i64 0,t9,t10,t11,t12,t13,t14,t15,t16,t17,t18,t19,t20,t21,t22,t23,t24,t25,t26,t27,t28,t29,t30,t31,t32,t33,t34,t35,t36,t37,t38,t39,t40,t41,t42,t43,t44,t45,t46,t47,t48,t49,t50,t51,t52,t53,t54,t55,t56,t57,t58,t59,t60,t61,t62,t63,t64,t65,t66,t67,t68,t69,t70,t71,t72,t73,t74,t75,t76,t77,t78,t79,t80,t81,t82,t83,t84,t85,t86,t87,t88,t89,t90,t91,t92,t93,t94,t95,t96,t97,t98,t99,t100,t101,t102,t103,t104,t105,t106,t107,t108,t109,t110,t111,t112,t113,t114],defers:=[] } W9:=by
  clear HS;intro W9 b7 s8 p1 m1 q1 dd p2 m2 q2 b8 o8 q3 t9 t10 t11 t12 t13 t14 t15 t16 t17 t18 t19 t20 t21 t22 t23 t24 t25 t26 t27 t28 t29 t30 t31 t32 t33 t34 t35 t36 t37 t38 t39 t40 t41 t42 t43 t44 t45 t46 t47 t48 t49 t50 t51 t52 t53 t54 t55 t56 t57 t58 t59 t60 t61 t62 t63 t64 t65 t66 t67 t68 t69 t70 t71 t72 t73 t74 t75 t76 t77 t78 t79 t80 t81 t82 t83 t84 t85 t86 t87 t88 t89 t90 t91 t92 t93 t94 t95 t96 t97 t98 t99 t100 t101 t102 t103 t104 t105 t106 t107 t108 t109 t110 t111 t112 t113 t114 hS9 hT9;have HS9:=hid hS9;have HT9:=hid hT9;clear hS9 hT9;refine hK _ _ ?_;clear hK;obtain ⟨y0,y1',y2',y3',y4'⟩:=ztp HS9.out.h5;have Hb7:=hid (zaa HT9.out.h7);go_wp2_with fail;refine (zxa HS9.out.mo).mono ?_;rintro e w10 ⟨rfl,hb10⟩;have HS10:=hid (HS9.out.later hb10);have HT10:=hid (HT9.out.later hb10);clear hb10 HS9 HT9 y0 y1' y2' y3' y4';go_wp2_with fail
  obtain ⟨W10,hW10⟩:∃ W10,W10=w10.alloc (.cells #[.string ⟨#[]⟩,.slice none 0 0,.int .i64 0,.slice none 0 0,.slice none 0 0] 42):=⟨_,rfl⟩
  have hB10:Below w10.heap.size w10 W10:=by rw [hW10];exact al1 _ _
  have HSd:=hid ((HS10.out.later hB10).later (bdrew W10));have HTd:=hid ((HT10.out.later hB10).later (bdrew W10));rw [← hW10];clear hW10 hB10 HS10 HT10;have FF:=hid (ziz HSd.out HTd.out);refine wp_region_held_drew (S:=(fun W=>W.cell? ⟨w2.heap.size,0,none⟩=some (.string ⟨#[99,110,116]⟩)/\W.cell? ⟨w2.heap.size,1,none⟩=some (.slice a 4 cap)/\W.cell? ⟨w4.heap.size,2,none⟩=some (.int .i64 5)/\W.cell? ⟨w4.heap.size,3,none⟩=some (.slice (some ⟨b2,o2,none⟩) 1 y2)/\W.cell? ⟨b2,o2+1,none⟩=some (.int .i64 1)/\W.cell? ⟨b7,4,none⟩=some (.slice (some ⟨b8,o8,none⟩) 3 q3)/\W.cell? ⟨b8,o8+1,none⟩=some (.int .i64 4)/\W.cell? ⟨b8,o8+2,none⟩=some (.int .i64 1)/\W.cell? ⟨b8,o8+3,none⟩=some (.int .i64 1))) (by kernel_rfl) FF.out (fun hHeld=>?_);refine wpAnyH_take (i:=0) (oi:=⟨some 38,_,_,_,_,_⟩) (v:=.int .i64 0) rfl (by kernel_rfl) (by kernel_rfl) (by kernel_rfl) (fun _ _ _ h=>h) (Or.inl ⟨by kernel_rfl,fun W _=>by kernel_rfl⟩) (by assumption) ?_
  refine wpAnyH_take (i:=1) (oi:=⟨some 39,_,_,_,_,_⟩) (v:=.bool true) rfl (by kernel_rfl) (by kernel_rfl) (by kernel_rfl) (fun _ _ _ h=>h) (Or.inl ⟨by kernel_rfl,fun W _=>by kernel_rfl⟩) (by assumption) ?_;refine wpAnyH_take (i:=2) (oi:=⟨some 40,_,_,_,_,_⟩) (v:=.bool true) rfl (by kernel_rfl) (by kernel_rfl) (by kernel_rfl) (fun _ _ _ h=>h) (Or.inl ⟨by kernel_rfl,fun W _=>by kernel_rfl⟩) (by assumption) ?_;refine wpAnyH_take (i:=3) (oi:=⟨some 41,_,_,_,_,_⟩) (v:=.int .i64 0) rfl (by kernel_rfl) (by kernel_rfl) (by kernel_rfl) (fun _ _ _ h=>h) (Or.inl ⟨by kernel_rfl,fun W _=>by kernel_rfl⟩) (by assumption) ?_;refine wpAnyH_take (i:=4) (oi:=⟨some 42,_,_,_,_,_⟩) (v:=.bool true) rfl (by kernel_rfl) (by kernel_rfl) (by kernel_rfl) (fun _ _ _ h=>h) (Or.inl ⟨by kernel_rfl,fun W _=>by kernel_rfl⟩) (by assumption) ?_;refine wpAnyH_take (i:=5) (oi:=⟨some 43,_,_,_,_,_⟩) (v:=.bool true) rfl (by kernel_rfl) (by kernel_rfl) (by kernel_rfl) (fun _ _ _ h=>h) (Or.inl ⟨by kernel_rfl,fun W _=>by kernel_rfl⟩) (by assumption) ?_
  refine wpAnyH_take (i:=6) (oi:=⟨some 44,_,_,_,_,_⟩) (v:=.bool true) rfl (by kernel_rfl) (by kernel_rfl) (by kernel_rfl) (fun _ _ _ h=>h) (Or.inl ⟨by kernel_rfl,fun W _=>by kernel_rfl⟩) (by assumption) ?_;refine wpAnyH_take (i:=7) (oi:=⟨some 45,_,_,_,_,_⟩) (v:=.int .i64 0) rfl (by kernel_rfl) (by kernel_rfl) (by kernel_rfl) (fun _ _ _ h=>h) (Or.inl ⟨by kernel_rfl,fun W _=>by kernel_rfl⟩) (by assumption) ?_;refine wpAnyH_take (i:=8) (oi:=⟨some 46,_,_,_,_,_⟩) (v:=.bool true) rfl (by kernel_rfl) (by kernel_rfl) (by kernel_rfl) (fun _ _ _ h=>h) (Or.inl ⟨by kernel_rfl,fun W _=>by kernel_rfl⟩) (by assumption) ?_;refine wpAnyH_take (i:=9) (oi:=⟨some 47,_,_,_,_,_⟩) (v:=.bool true) rfl (by kernel_rfl) (by kernel_rfl) (by kernel_rfl) (fun _ _ _ h=>h) (Or.inl ⟨by kernel_rfl,fun W _=>by kernel_rfl⟩) (by assumption) ?_;refine wpAnyH_take (i:=10) (oi:=⟨some 48,_,_,_,_,_⟩) (v:=.bool true) rfl (by kernel_rfl) (by kernel_rfl) (by kernel_rfl) (fun _ _ _ h=>h) (Or.inl ⟨by kernel_rfl,fun W _=>by kernel_rfl⟩) (by assumption) ?_
  refine wpAnyH_take (i:=11) (oi:=⟨some 49,_,_,_,_,_⟩) (v:=.int .i64 0) rfl (by kernel_rfl) (by kernel_rfl) (by kernel_rfl) (fun _ _ _ h=>h) (Or.inl ⟨by kernel_rfl,fun W _=>by kernel_rfl⟩) (by assumption) ?_;refine wpAnyH_take (i:=12) (oi:=⟨some 50,_,_,_,_,_⟩) (v:=.bool true) rfl (by kernel_rfl) (by kernel_rfl) (by kernel_rfl) (fun _ _ _ h=>h) (Or.inl ⟨by kernel_rfl,fun W _=>by kernel_rfl⟩) (by assumption) ?_;refine wpAnyH_take (i:=13) (oi:=⟨some 51,_,_,_,_,_⟩) (v:=.bool true) rfl (by kernel_rfl) (by kernel_rfl) (by kernel_rfl) (fun _ _ _ h=>h) (Or.inl ⟨by kernel_rfl,fun W _=>by kernel_rfl⟩) (by assumption) ?_;refine wpAnyH_take (i:=14) (oi:=⟨some 52,_,_,_,_,_⟩) (v:=.bool true) rfl (by kernel_rfl) (by kernel_rfl) (by kernel_rfl) (fun _ _ _ h=>h) (Or.inl ⟨by kernel_rfl,fun W _=>by kernel_rfl⟩) (by assumption) ?_;refine wpAnyH_take (i:=15) (oi:=⟨some 53,_,_,_,_,_⟩) (v:=.int .i64 8) rfl (by kernel_rfl) (by kernel_rfl) (by kernel_rfl) (fun _ _ _ h=>h) (Or.inl ⟨by kernel_rfl,fun W _=>by kernel_rfl⟩) (by assumption) ?_
  refine wpAnyH_take (i:=16) (oi:=⟨some 54,_,_,_,_,_⟩) (v:=.bool true) rfl (by kernel_rfl) (by kernel_rfl) (by kernel_rfl) (fun _ _ _ h=>h) (Or.inl ⟨by kernel_rfl,fun W _=>by kernel_rfl⟩) (by assumption) ?_;refine wpAnyH_take (i:=17) (oi:=⟨some 55,_,_,_,_,_⟩) (v:=.bool true) rfl (by kernel_rfl) (by kernel_rfl) (by kernel_rfl) (fun _ _ _ h=>h) (Or.inl ⟨by kernel_rfl,fun W _=>by kernel_rfl⟩) (by assumption) ?_;refine wpAnyH_take (i:=18) (oi:=⟨some 56,_,_,_,_,_⟩) (v:=.bool true) rfl (by kernel_rfl) (by kernel_rfl) (by kernel_rfl) (fun _ _ _ h=>h) (Or.inl ⟨by kernel_rfl,fun W _=>by kernel_rfl⟩) (by assumption) ?_;refine wpAnyH_take (i:=19) (oi:=⟨some 57,_,_,_,_,_⟩) (v:=.agg #[.string ⟨#[99,110,116]⟩,.slice a 4 cap]) rfl (by kernel_rfl) (by kernel_rfl) (by kernel_rfl) (fun _ _ _ h=>h) (Or.inl ⟨by kernel_rfl,fun W hSW=>by (obtain ⟨s0,s1,s2,s3,s4,s5,s6,s7,s8⟩:=hSW;go_simp)⟩) (by assumption) ?_
  refine wpAnyH_ready (rs:=[20]) (by kernel_rfl) (by simp) ?_;refine AllReadyH.cons rfl (fun K hK=>?_) AllReadyH.nil;go_simp
  go_wp2_with (go_at_call 57;refine (zjh _).mono ?_;rintro e w11 ⟨ae,ce,rfl,hD,hb⟩;have HD11:=hid (zeu (l:=zkr.items) hD).1;have HSx:=hid (HSd.out.later hb);have HTx:=hid (HTd.out.later hb);clear hD hb FF;have FF:=hid (ziz HSx.out HTx.out))
  refine hK.out _ _ FF.out (fun hHeld=>?_);clear hK K;refine wpAnyH_ready (rs:=[21]) (by kernel_rfl) (by simp) ?_;refine AllReadyH.cons rfl (fun K hK=>?_) AllReadyH.nil;go_simp
  go_wp2_with (go_at_call 18;refine (zks zkr _ _ _ _ _ HSx.out.its HD11.out (by decide)).mono ?_;rintro e w12 ⟨rfl,hb⟩;have HSy:=hid (HSx.out.later hb);have HTy:=hid (HTx.out.later hb);clear hb FF;have FF:=hid (ziz HSy.out HTy.out))
  refine hK.out _ _ FF.out (fun hHeld=>?_);clear hK K;refine wpAnyH_take (i:=22) (oi:=⟨some 60,_,_,_,_,_⟩) (v:=.bool true) rfl (by kernel_rfl) (by kernel_rfl) (by kernel_rfl) (fun _ _ _ h=>h) (Or.inl ⟨by kernel_rfl,fun W _=>by kernel_rfl⟩) (by assumption) ?_;refine wpAnyH_take (i:=23) (oi:=⟨some 61,_,_,_,_,_⟩) (v:=.bool true) rfl (by kernel_rfl) (by kernel_rfl) (by kernel_rfl) (fun _ _ _ h=>h) (Or.inl ⟨by kernel_rfl,fun W _=>by kernel_rfl⟩) (by assumption) ?_;refine wpAnyH_take (i:=24) (oi:=⟨some 62,_,_,_,_,_⟩) (v:=.agg #[.string ⟨#[99,110,116]⟩,.slice a 4 cap]) rfl (by kernel_rfl) (by kernel_rfl) (by kernel_rfl) (fun _ _ _ h=>h) (Or.inl ⟨by kernel_rfl,fun W hSW=>by (obtain ⟨s0,s1,s2,s3,s4,s5,s6,s7,s8⟩:=hSW;go_simp)⟩) (by assumption) ?_;refine wpAnyH_ready (rs:=[25]) (by kernel_rfl) (by simp) ?_;refine AllReadyH.cons rfl (fun K hK=>?_) AllReadyH.nil
  go_simp
  go_wp2_with (go_at_call 19;refine (zul HSy.out.its HSy.out.fit).mono ?_;rintro e w13 ⟨rfl,hb⟩;have HSz:=hid (HSy.out.later hb);have HTz:=hid (HTy.out.later hb);clear hb FF;have FF:=hid (ziz HSz.out HTz.out))
  refine hK.out _ _ FF.out (fun hHeld=>?_);clear hK K;refine wpAnyH_take (i:=26) (oi:=⟨some 64,_,_,_,_,_⟩) (v:=.bool true) rfl (by kernel_rfl) (by kernel_rfl) (by kernel_rfl) (fun _ _ _ h=>h) (Or.inl ⟨by kernel_rfl,fun W _=>by kernel_rfl⟩) (by assumption) ?_;refine wpAnyH_take (i:=27) (oi:=⟨some 65,_,_,_,_,_⟩) (v:=.bool true) rfl (by kernel_rfl) (by kernel_rfl) (by kernel_rfl) (fun _ _ _ h=>h) (Or.inl ⟨by kernel_rfl,fun W _=>by kernel_rfl⟩) (by assumption) ?_;refine wpAnyH_take (i:=28) (oi:=⟨some 66,_,_,_,_,_⟩) (v:=.bool true) rfl (by kernel_rfl) (by kernel_rfl) (by kernel_rfl) (fun _ _ _ h=>h) (Or.inl ⟨by kernel_rfl,fun W _=>by kernel_rfl⟩) (by assumption) ?_;refine wpAnyH_take (i:=29) (oi:=⟨some 67,_,_,_,_,_⟩) (v:=.pointer (some ⟨w4.heap.size,2,none⟩)) rfl (by kernel_rfl) (by kernel_rfl) (by kernel_rfl) (fun _ _ _ h=>h) (Or.inl ⟨by kernel_rfl,fun W _=>by kernel_rfl⟩) (by assumption) ?_
  refine wpAnyH_take (i:=30) (oi:=⟨some 68,_,_,_,_,_⟩) (v:=.int .i64 5) rfl (by kernel_rfl) (by kernel_rfl) (by kernel_rfl) (fun _ _ _ h=>h) (Or.inl ⟨by kernel_rfl,fun W hSW=>by (obtain ⟨s0,s1,s2,s3,s4,s5,s6,s7,s8⟩:=hSW;go_simp)⟩) (by assumption) ?_;refine wpAnyH_take (i:=31) (oi:=⟨some 69,_,_,_,_,_⟩) (v:=.bool true) rfl (by kernel_rfl) (by kernel_rfl) (by kernel_rfl) (fun _ _ _ h=>h) (Or.inl ⟨by kernel_rfl,fun W _=>by kernel_rfl⟩) (by assumption) ?_;refine wpAnyH_take (i:=32) (oi:=⟨some 70,_,_,_,_,_⟩) (v:=.bool true) rfl (by kernel_rfl) (by kernel_rfl) (by kernel_rfl) (fun _ _ _ h=>h) (Or.inl ⟨by kernel_rfl,fun W _=>by kernel_rfl⟩) (by assumption) ?_;refine wpAnyH_take (i:=33) (oi:=⟨some 71,_,_,_,_,_⟩) (v:=.bool true) rfl (by kernel_rfl) (by kernel_rfl) (by kernel_rfl) (fun _ _ _ h=>h) (Or.inl ⟨by kernel_rfl,fun W _=>by kernel_rfl⟩) (by assumption) ?_
  refine wpAnyH_take (i:=34) (oi:=⟨some 72,_,_,_,_,_⟩) (v:=.pointer (some ⟨w4.heap.size,3,none⟩)) rfl (by kernel_rfl) (by kernel_rfl) (by kernel_rfl) (fun _ _ _ h=>h) (Or.inl ⟨by kernel_rfl,fun W _=>by kernel_rfl⟩) (by assumption) ?_;refine wpAnyH_take (i:=35) (oi:=⟨some 73,_,_,_,_,_⟩) (v:=.slice (some ⟨b2,o2,none⟩) 1 y2) rfl (by kernel_rfl) (by kernel_rfl) (by kernel_rfl) (fun _ _ _ h=>h) (Or.inl ⟨by kernel_rfl,fun W hSW=>by (obtain ⟨s0,s1,s2,s3,s4,s5,s6,s7,s8⟩:=hSW;go_simp)⟩) (by assumption) ?_;refine wpAnyH_take (i:=36) (oi:=⟨some 74,_,_,_,_,_⟩) (v:=.int .i64 1) rfl (by kernel_rfl) (by kernel_rfl) (by kernel_rfl) (fun _ _ _ h=>h) (Or.inl ⟨by kernel_rfl,fun W _=>by kernel_rfl⟩) (by assumption) ?_;refine wpAnyH_take (i:=37) (oi:=⟨some 75,_,_,_,_,_⟩) (v:=.bool true) rfl (by kernel_rfl) (by kernel_rfl) (by kernel_rfl) (fun _ _ _ h=>h) (Or.inl ⟨by kernel_rfl,fun W _=>by kernel_rfl⟩) (by assumption) ?_
  refine wpAnyH_take (i:=38) (oi:=⟨some 76,_,_,_,_,_⟩) (v:=.bool true) rfl (by kernel_rfl) (by kernel_rfl) (by kernel_rfl) (fun _ _ _ h=>h) (Or.inl ⟨by kernel_rfl,fun W _=>by kernel_rfl⟩) (by assumption) ?_;refine wpAnyH_take (i:=39) (oi:=⟨some 77,_,_,_,_,_⟩) (v:=.bool true) rfl (by kernel_rfl) (by kernel_rfl) (by kernel_rfl) (fun _ _ _ h=>h) (Or.inl ⟨by kernel_rfl,fun W _=>by kernel_rfl⟩) (by assumption) ?_;refine wpAnyH_take (i:=40) (oi:=⟨some 78,_,_,_,_,_⟩) (v:=.pointer (some ⟨w4.heap.size,3,none⟩)) rfl (by kernel_rfl) (by kernel_rfl) (by kernel_rfl) (fun _ _ _ h=>h) (Or.inl ⟨by kernel_rfl,fun W _=>by kernel_rfl⟩) (by assumption) ?_;refine wpAnyH_take (i:=41) (oi:=⟨some 79,_,_,_,_,_⟩) (v:=.slice (some ⟨b2,o2,none⟩) 1 y2) rfl (by kernel_rfl) (by kernel_rfl) (by kernel_rfl) (fun _ _ _ h=>h) (Or.inl ⟨by kernel_rfl,fun W hSW=>by (obtain ⟨s0,s1,s2,s3,s4,s5,s6,s7,s8⟩:=hSW;go_simp)⟩) (by assumption) ?_
  refine wpAnyH_take (i:=42) (oi:=⟨some 80,_,_,_,_,_⟩) (v:=.pointer (some ⟨b2,o2,none⟩)) rfl (by kernel_rfl) (by kernel_rfl) (by kernel_rfl) (fun _ _ _ h=>h) (Or.inl ⟨by kernel_rfl,fun W _=>by kernel_rfl⟩) (by assumption) ?_;refine wpAnyH_take (i:=43) (oi:=⟨some 81,_,_,_,_,_⟩) (v:=.pointer (some ⟨b2,o2+1,none⟩)) rfl (by kernel_rfl) (by kernel_rfl) (by kernel_rfl) (fun _ _ _ h=>h) (Or.inl ⟨by kernel_rfl,fun W _=>by kernel_rfl⟩) (by assumption) ?_;refine wpAnyH_take (i:=44) (oi:=⟨some 82,_,_,_,_,_⟩) (v:=.int .i64 1) rfl (by kernel_rfl) (by kernel_rfl) (by kernel_rfl) (fun _ _ _ h=>h) (Or.inl ⟨by kernel_rfl,fun W hSW=>by (obtain ⟨s0,s1,s2,s3,s4,s5,s6,s7,s8⟩:=hSW;go_simp)⟩) (by assumption) ?_;refine wpAnyH_take (i:=45) (oi:=⟨some 83,_,_,_,_,_⟩) (v:=.bool true) rfl (by kernel_rfl) (by kernel_rfl) (by kernel_rfl) (fun _ _ _ h=>h) (Or.inl ⟨by kernel_rfl,fun W _=>by kernel_rfl⟩) (by assumption) ?_
  refine wpAnyH_take (i:=46) (oi:=⟨some 84,_,_,_,_,_⟩) (v:=.bool true) rfl (by kernel_rfl) (by kernel_rfl) (by kernel_rfl) (fun _ _ _ h=>h) (Or.inl ⟨by kernel_rfl,fun W _=>by kernel_rfl⟩) (by assumption) ?_;refine wpAnyH_take (i:=47) (oi:=⟨some 85,_,_,_,_,_⟩) (v:=.bool true) rfl (by kernel_rfl) (by kernel_rfl) (by kernel_rfl) (fun _ _ _ h=>h) (Or.inl ⟨by kernel_rfl,fun W _=>by kernel_rfl⟩) (by assumption) ?_;refine wpAnyH_take (i:=48) (oi:=⟨some 86,_,_,_,_,_⟩) (v:=.pointer (some ⟨b7,4,none⟩)) rfl (by kernel_rfl) (by kernel_rfl) (by kernel_rfl) (fun _ _ _ h=>h) (Or.inl ⟨by kernel_rfl,fun W _=>by kernel_rfl⟩) (by assumption) ?_;refine wpAnyH_take (i:=49) (oi:=⟨some 87,_,_,_,_,_⟩) (v:=.slice (some ⟨b8,o8,none⟩) 3 q3) rfl (by kernel_rfl) (by kernel_rfl) (by kernel_rfl) (fun _ _ _ h=>h) (Or.inl ⟨by kernel_rfl,fun W hSW=>by (obtain ⟨s0,s1,s2,s3,s4,s5,s6,s7,s8⟩:=hSW;go_simp)⟩) (by assumption) ?_
  refine wpAnyH_take (i:=50) (oi:=⟨some 88,_,_,_,_,_⟩) (v:=.int .i64 3) rfl (by kernel_rfl) (by kernel_rfl) (by kernel_rfl) (fun _ _ _ h=>h) (Or.inl ⟨by kernel_rfl,fun W _=>by kernel_rfl⟩) (by assumption) ?_;refine wpAnyH_take (i:=51) (oi:=⟨some 89,_,_,_,_,_⟩) (v:=.bool true) rfl (by kernel_rfl) (by kernel_rfl) (by kernel_rfl) (fun _ _ _ h=>h) (Or.inl ⟨by kernel_rfl,fun W _=>by kernel_rfl⟩) (by assumption) ?_;refine wpAnyH_take (i:=52) (oi:=⟨some 90,_,_,_,_,_⟩) (v:=.bool true) rfl (by kernel_rfl) (by kernel_rfl) (by kernel_rfl) (fun _ _ _ h=>h) (Or.inl ⟨by kernel_rfl,fun W _=>by kernel_rfl⟩) (by assumption) ?_;refine wpAnyH_take (i:=53) (oi:=⟨some 91,_,_,_,_,_⟩) (v:=.bool true) rfl (by kernel_rfl) (by kernel_rfl) (by kernel_rfl) (fun _ _ _ h=>h) (Or.inl ⟨by kernel_rfl,fun W _=>by kernel_rfl⟩) (by assumption) ?_;refine wpAnyH_take (i:=54) (oi:=⟨some 92,_,_,_,_,_⟩) (v:=.pointer (some ⟨b7,4,none⟩)) rfl (by kernel_rfl) (by kernel_rfl) (by kernel_rfl) (fun _ _ _ h=>h) (Or.inl ⟨by kernel_rfl,fun W _=>by kernel_rfl⟩) (by assumption) ?_
  refine wpAnyH_take (i:=55) (oi:=⟨some 93,_,_,_,_,_⟩) (v:=.slice (some ⟨b8,o8,none⟩) 3 q3) rfl (by kernel_rfl) (by kernel_rfl) (by kernel_rfl) (fun _ _ _ h=>h) (Or.inl ⟨by kernel_rfl,fun W hSW=>by (obtain ⟨s0,s1,s2,s3,s4,s5,s6,s7,s8⟩:=hSW;go_simp)⟩) (by assumption) ?_;refine wpAnyH_take (i:=56) (oi:=⟨some 94,_,_,_,_,_⟩) (v:=.pointer (some ⟨b8,o8,none⟩)) rfl (by kernel_rfl) (by kernel_rfl) (by kernel_rfl) (fun _ _ _ h=>h) (Or.inl ⟨by kernel_rfl,fun W _=>by kernel_rfl⟩) (by assumption) ?_;refine wpAnyH_take (i:=57) (oi:=⟨some 95,_,_,_,_,_⟩) (v:=.pointer (some ⟨b8,o8+2,none⟩)) rfl (by kernel_rfl) (by kernel_rfl) (by kernel_rfl) (fun _ _ _ h=>h) (Or.inl ⟨by kernel_rfl,fun W _=>by kernel_rfl⟩) (by assumption) ?_;refine wpAnyH_take (i:=58) (oi:=⟨some 96,_,_,_,_,_⟩) (v:=.int .i64 1) rfl (by kernel_rfl) (by kernel_rfl) (by kernel_rfl) (fun _ _ _ h=>h) (Or.inl ⟨by kernel_rfl,fun W hSW=>by (obtain ⟨s0,s1,s2,s3,s4,s5,s6,s7,s8⟩:=hSW;go_simp)⟩) (by assumption) ?_
  refine wpAnyH_take (i:=59) (oi:=⟨some 97,_,_,_,_,_⟩) (v:=.bool true) rfl (by kernel_rfl) (by kernel_rfl) (by kernel_rfl) (fun _ _ _ h=>h) (Or.inl ⟨by kernel_rfl,fun W _=>by kernel_rfl⟩) (by assumption) ?_;refine wpAnyH_take (i:=60) (oi:=⟨some 98,_,_,_,_,_⟩) (v:=.bool true) rfl (by kernel_rfl) (by kernel_rfl) (by kernel_rfl) (fun _ _ _ h=>h) (Or.inl ⟨by kernel_rfl,fun W _=>by kernel_rfl⟩) (by assumption) ?_;refine wpAnyH_take (i:=61) (oi:=⟨some 99,_,_,_,_,_⟩) (v:=.bool true) rfl (by kernel_rfl) (by kernel_rfl) (by kernel_rfl) (fun _ _ _ h=>h) (Or.inl ⟨by kernel_rfl,fun W _=>by kernel_rfl⟩) (by assumption) ?_;refine wpAnyH_take (i:=62) (oi:=⟨some 100,_,_,_,_,_⟩) (v:=.pointer (some ⟨b7,4,none⟩)) rfl (by kernel_rfl) (by kernel_rfl) (by kernel_rfl) (fun _ _ _ h=>h) (Or.inl ⟨by kernel_rfl,fun W _=>by kernel_rfl⟩) (by assumption) ?_
  refine wpAnyH_take (i:=63) (oi:=⟨some 101,_,_,_,_,_⟩) (v:=.slice (some ⟨b8,o8,none⟩) 3 q3) rfl (by kernel_rfl) (by kernel_rfl) (by kernel_rfl) (fun _ _ _ h=>h) (Or.inl ⟨by kernel_rfl,fun W hSW=>by (obtain ⟨s0,s1,s2,s3,s4,s5,s6,s7,s8⟩:=hSW;go_simp)⟩) (by assumption) ?_;refine wpAnyH_take (i:=64) (oi:=⟨some 102,_,_,_,_,_⟩) (v:=.pointer (some ⟨b8,o8,none⟩)) rfl (by kernel_rfl) (by kernel_rfl) (by kernel_rfl) (fun _ _ _ h=>h) (Or.inl ⟨by kernel_rfl,fun W _=>by kernel_rfl⟩) (by assumption) ?_;refine wpAnyH_take (i:=65) (oi:=⟨some 103,_,_,_,_,_⟩) (v:=.pointer (some ⟨b8,o8+3,none⟩)) rfl (by kernel_rfl) (by kernel_rfl) (by kernel_rfl) (fun _ _ _ h=>h) (Or.inl ⟨by kernel_rfl,fun W _=>by kernel_rfl⟩) (by assumption) ?_;refine wpAnyH_take (i:=66) (oi:=⟨some 104,_,_,_,_,_⟩) (v:=.int .i64 1) rfl (by kernel_rfl) (by kernel_rfl) (by kernel_rfl) (fun _ _ _ h=>h) (Or.inl ⟨by kernel_rfl,fun W hSW=>by (obtain ⟨s0,s1,s2,s3,s4,s5,s6,s7,s8⟩:=hSW;go_simp)⟩) (by assumption) ?_
  refine wpAnyH_take (i:=67) (oi:=⟨some 105,_,_,_,_,_⟩) (v:=.bool true) rfl (by kernel_rfl) (by kernel_rfl) (by kernel_rfl) (fun _ _ _ h=>h) (Or.inl ⟨by kernel_rfl,fun W _=>by kernel_rfl⟩) (by assumption) ?_;refine wpAnyH_take (i:=68) (oi:=⟨some 106,_,_,_,_,_⟩) (v:=.bool true) rfl (by kernel_rfl) (by kernel_rfl) (by kernel_rfl) (fun _ _ _ h=>h) (Or.inl ⟨by kernel_rfl,fun W _=>by kernel_rfl⟩) (by assumption) ?_;refine wpAnyH_take (i:=69) (oi:=⟨some 107,_,_,_,_,_⟩) (v:=.bool true) rfl (by kernel_rfl) (by kernel_rfl) (by kernel_rfl) (fun _ _ _ h=>h) (Or.inl ⟨by kernel_rfl,fun W _=>by kernel_rfl⟩) (by assumption) ?_;refine wpAnyH_take (i:=70) (oi:=⟨some 108,_,_,_,_,_⟩) (v:=.pointer (some ⟨b7,4,none⟩)) rfl (by kernel_rfl) (by kernel_rfl) (by kernel_rfl) (fun _ _ _ h=>h) (Or.inl ⟨by kernel_rfl,fun W _=>by kernel_rfl⟩) (by assumption) ?_
  refine wpAnyH_take (i:=71) (oi:=⟨some 109,_,_,_,_,_⟩) (v:=.slice (some ⟨b8,o8,none⟩) 3 q3) rfl (by kernel_rfl) (by kernel_rfl) (by kernel_rfl) (fun _ _ _ h=>h) (Or.inl ⟨by kernel_rfl,fun W hSW=>by (obtain ⟨s0,s1,s2,s3,s4,s5,s6,s7,s8⟩:=hSW;go_simp)⟩) (by assumption) ?_;refine wpAnyH_take (i:=72) (oi:=⟨some 110,_,_,_,_,_⟩) (v:=.pointer (some ⟨b8,o8,none⟩)) rfl (by kernel_rfl) (by kernel_rfl) (by kernel_rfl) (fun _ _ _ h=>h) (Or.inl ⟨by kernel_rfl,fun W _=>by kernel_rfl⟩) (by assumption) ?_;refine wpAnyH_take (i:=73) (oi:=⟨some 111,_,_,_,_,_⟩) (v:=.pointer (some ⟨b8,o8+1,none⟩)) rfl (by kernel_rfl) (by kernel_rfl) (by kernel_rfl) (fun _ _ _ h=>h) (Or.inl ⟨by kernel_rfl,fun W _=>by kernel_rfl⟩) (by assumption) ?_;refine wpAnyH_take (i:=74) (oi:=⟨some 112,_,_,_,_,_⟩) (v:=.int .i64 4) rfl (by kernel_rfl) (by kernel_rfl) (by kernel_rfl) (fun _ _ _ h=>h) (Or.inl ⟨by kernel_rfl,fun W hSW=>by (obtain ⟨s0,s1,s2,s3,s4,s5,s6,s7,s8⟩:=hSW;go_simp)⟩) (by assumption) ?_
  refine wpAnyH_take (i:=75) (oi:=⟨some 113,_,_,_,_,_⟩) (v:=.bool true) rfl (by kernel_rfl) (by kernel_rfl) (by kernel_rfl) (fun _ _ _ h=>h) (Or.inl ⟨by kernel_rfl,fun W _=>by kernel_rfl⟩) (by assumption) ?_;refine wpAnyH_take (i:=76) (oi:=⟨some 114,_,_,_,_,_⟩) (v:=.bool true) rfl (by kernel_rfl) (by kernel_rfl) (by kernel_rfl) (fun _ _ _ h=>h) (Or.inl ⟨by kernel_rfl,fun W _=>by kernel_rfl⟩) (by assumption) ?_;refine wpAnyH_take (i:=77) (oi:=⟨some 0,_,_,_,_,_⟩) (v:=.bool true) rfl (by kernel_rfl) (by kernel_rfl) (by kernel_rfl) (fun _ _ _ h=>h) (Or.inl ⟨by kernel_rfl,fun W _=>by kernel_rfl⟩) (by assumption) ?_;refine wpAnyH_done (by kernel_rfl) ?_ _
  try simp only [Act.put,vab,vae,vaf]
  go_wp2_with fail;go_ret;exact ⟨rfl,HSz.out.below⟩
 clear hK;have HSd:=hid (HS.out.later (bdrew W6));have hb5:=zaa HS.out.h5
 go_region_held (fun W=>W.cell? ⟨w6.heap.size,0,none⟩=some (.string ⟨#[116,111,112]⟩)/\W.cell? ⟨w6.heap.size,1,none⟩=some (.slice z1 1 d1)/\W.cell? ⟨w6.heap.size,2,none⟩=some (.slice z2 0 d2)/\W.cell? ⟨w6.heap.size,3,none⟩=some (.slice z3 0 d3)/\W.cell? ⟨w6.heap.size,4,none⟩=some (.slice z4 3 d4))
  (first | with_reducible exact ztp HS8.out.h5 | with_reducible exact ztp (HS8.out.later (al1 _ _)).h5 | with_reducible exact ztp (HS.out.later (zcb HB8.out (by omega) _ _ _ _ _)).h5 | with_reducible exact ztp HS7.out.h5 | with_reducible exact ztp (HS7.out.later (al1 _ _)).h5 | with_reducible exact ztp (HS7.out.later (bl2 _ _ _)).h5 | with_reducible exact ztp HSd.out.h5 | with_reducible exact ztp (HS.out.later (zht _ _)).h5 | with_reducible exact ztp (HSd.out.later (al1 _ _)).h5)
  (first
  | (go_at_call 57;refine (zjh _).mono ?_;rintro e w7 ⟨ad,cp,rfl,hD,hb7⟩;have HD7:=hid hD;(first | (with_reducible have HB7:=hid (thenB (bdrew W6) hb7)) | (have HZ7:=hid (zc9 (z2c W6 _) hb7);have HB7:=hid (thenB (zht W6 _) hb7)));have HS7:=hid (HS.out.later HB7.out);have hz7:=HB7.out.size;clear hD hb7)
  | (go_at_call 21;with_reducible refine (zmi (HS7.out.later (al1 _ _)).mo _ (zmj HD7.out _)).mono ?_;rintro e w8 ⟨s8,p1,m1,q1,dd,p2,m2,q2,b8,o8,q3,rfl,hC,hb8⟩;have HC8:=hid hC;have HB8:=hid (thenB HB7.out (thenB (al1 _ _) hb8));have HS8:=hid ((HS7.out.later (al1 _ _)).later hb8);have HX8:=hid hb8;(first | (with_reducible refine And.elim ?_ (zrt (zc9 (zc9 HZ7.out (al1 _ _)) hb8));intro e0 hcs;have HZ8:=hid (zc9 (zc9 HZ7.out (al1 _ _)) hb8);obtain ⟨e1,e2,e3,e4,ef,hel⟩:=hcs) | skip);clear hC hb8)
  | (go_at_call 21;with_reducible refine (zmi (HS7.out.later (bl2 _ _ _)).mo _ ((zmj HD7.out _).later (al1 _ _))).mono ?_;rintro e w8 ⟨s8,p1,m1,q1,dd,p2,m2,q2,b8,o8,q3,rfl,hC,hb8⟩;have HC8:=hid hC;have HB8:=hid (thenB HB7.out (thenB (bl2 _ _ _) hb8));have HS8:=hid ((HS7.out.later (bl2 _ _ _)).later hb8);have HX8:=hid hb8;(refine And.elim ?_ (zrt (zc9 (z03 w7 _ _) hb8));intro e0 hcs;have HZ8:=hid (zc9 (z03 w7 _ _) hb8);obtain ⟨e1,e2,e3,e4,ef,hel⟩:=hcs);clear hC hb8)
  | (go_at_call 21;with_reducible refine (zmi (HS7.out.later (bl2 _ _ _)).mo _ (zuj HD7.out _ _)).mono ?_;rintro e w8 ⟨s8,p1,m1,q1,dd,p2,m2,q2,b8,o8,q3,rfl,hC,hb8⟩;have HC8:=hid hC;have HB8:=hid (thenB HB7.out (thenB (bl2 _ _ _) hb8));have HS8:=hid ((HS7.out.later (bl2 _ _ _)).later hb8);have HX8:=hid hb8;(refine And.elim ?_ (zrt (zc9 (zad (heap_newP w7 _)) hb8));intro e0 hcs;have HZ8:=hid (zc9 (zad (heap_newP w7 _)) hb8);obtain ⟨e1,e2,e3,e4,ef,hel⟩:=hcs);clear hC hb8))
 . show K _ _
   exact TAIL (HS8.out.later (al1 w8 (.cells #[.string s8,.slice p1 m1 q1,.int .i64 dd,.slice p2 m2 q2,.slice (some ⟨b8,o8,none⟩) 3 q3] 42))) (z02 (w8:=w8) s8 p1 m1 q1 dd p2 m2 q2 b8 o8 q3 42 rfl HC8.out.2)
 . have hq:=HC8.out.1
   simp at hq;show K _ _;exact TAIL (HS.out.later (zcb HB8.out (b:=w7.heap.size+1) (by omega) (.string s8) (.slice p1 m1 q1) (.int .i64 dd) (.slice p2 m2 q2) (.slice (some ⟨b8,o8,none⟩) 3 q3))) (zuk s8 p1 m1 q1 dd p2 m2 q2 b8 o8 q3 HZ8.out (by omega) HC8.out.2)
 . have hq:=HC8.out.1
   simp at hq;show K _ _;exact TAIL (HS.out.later (zcb HB8.out (b:=w7.heap.size) (by omega) (.string s8) (.slice p1 m1 q1) (.int .i64 dd) (.slice p2 m2 q2) (.slice (some ⟨b8,o8,none⟩) 3 q3))) (zuk s8 p1 m1 q1 dd p2 m2 q2 b8 o8 q3 HZ8.out (by omega) HC8.out.2)
 . have hq:=HC8.out.1
   simp at hq;show K _ _;exact TAIL (HS.out.later (zcb HB8.out (b:=W6.heap.size) (by omega) (.string s8) (.slice p1 m1 q1) (.int .i64 dd) (.slice p2 m2 q2) (.slice (some ⟨b8,o8,none⟩) 3 q3))) (zuk s8 p1 m1 q1 dd p2 m2 q2 b8 o8 q3 HZ8.out (by omega) HC8.out.2)
end Go.Proofs.YtndkhgakfodldaaGreatDoor
