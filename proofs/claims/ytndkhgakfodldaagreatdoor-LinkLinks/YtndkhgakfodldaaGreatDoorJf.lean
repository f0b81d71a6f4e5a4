import Derived.Test.YtndkhgakfodldaaGreatDoorYa
namespace Go.Proofs.YtndkhgakfodldaaGreatDoor
set_option maxRecDepth 100000
set_option maxHeartbeats 3200000
open Go.RowKit Go.Maps Go.WideMaps
set_option linter.unusedSimpArgs false
set_option linter.unusedVariables false
theorem zox (o:Ob):zdj o=ze1 o.fixes.length (zf3 o):=rfl
theorem zm8 (o:Ob) (x1:OA) (y1:Nat) (x3:OA) (y3:Nat) (x4:OA) (y4:Nat) (x5:OA) (y5:Nat) (w:World) (hO:OvAt w o x1 x3 x4 x5) :
 qc 84 #[.agg #[.string o.name,.slice x1 o.uses.length y1,qi o.data,.slice x3 o.code.length y3,.slice x4 o.fixes.length y4,.slice x5 o.entries.length y5,qi o.main]] w fun e w'=>e = .returned (.bool (zdj o))/\qb w w':=by
 have Ah:=hO.fixes.bound;have HO:=hid hO;have HP:=hid (fun (x:Int) (W:World)=>zm4 o o.name x1 o.uses.length y1 o.data x3 y3 x4 o.fixes.length y4 x5 o.entries.length y5 o.main x W hO.code.bound);have HH:=hid (fun (f:Gf) (W:World) (hW:qb w W) (hp:zbk o f.at_=true)=>zqo o x1 y1 x3 y3 x4 y4 x5 y5 f W hp (hO.code.later hW) hO.uses.bound);clear hO;go_enter Tryz.func84,Tryz.ntmps84;go_wp2_with fail
 go_loopw [3,9] (fun v i wr=>∃ j:Nat,j<=o.fixes.length/\i=qi j/\v=qi (lastAt o j)/\(∀ k,k<j->zf3 o k=true)/\qb w wr/\wr.heap[w.heap.size]? = some (oC o x1 y1 x3 y3 x4 y4 x5 y5)) (fun _ i _=>o.fixes.length - (intOf i).toNat)
 case atStart=>exact ⟨0,vae _,rfl,rfl,fun k hk=>absurd hk (vbe k),al1 _ _,heap_newP w (oC o x1 y1 x3 y3 x4 y4 x5 y5)⟩
 case round=>
  obtain ⟨j,hj,rfl,rfl,A6,hb,hB⟩:=hrel;obtain ⟨q0,q1,q2,q3,q4,q5,q6,_⟩:=zaj hB;have qz:=lt_of_heap hB;have HB:=hid hb;have HX:=hid hB;have HL:=hid A6;clear A6 hB hb
  by_cases A0:j<o.fixes.length
  . obtain ⟨b,off,rfl,hx⟩:=(HO.out.later HB.out).fixes.gf j A0
    have HE:Hid (zf3 o j=(decide (lastAt o j<o.fixes[j].at_)&&(zbk o o.fixes[j].at_&&zv0 o o.fixes[j]))):=by show _=_;unfold zf3;rw [vac A0]
    have HS:Hid (lastAt o (j+1)=o.fixes[j].at_):=by show (match o.fixes[j]? with | some f=>f.at_ | none=>-1)=_;rw [vac A0]
    have HF:=hid (fun (h:zf3 o j=false)=>(by rw [zox,za1 A0 h]:zdj o=false));have HT:=hid (fun (h:zf3 o j=true)=>zbj HL.out (h));obtain ⟨Au,p0,p1,p2,_,_,_⟩:=hx;generalize o.fixes[j]=f at *;generalize lastAt o j=la at *
    by_cases t1:la<f.at_
    . have D1:=hid (zab (o:=.cells #[qi f.at_,qi f.kind,qi f.m] 67) HX.out)
      have JL:=hid (heap_newP wr (.cells #[qi f.at_,qi f.kind,qi f.m] 67));have Ad:=hid (thenB HB.out (al1 wr (.cells #[qi f.at_,qi f.kind,qi f.m] 67)))
      have AA:wr.heap.size<(wr.alloc (.cells #[qi f.at_,qi f.kind,qi f.m] 67)).heap.size:=by simp
      have Ao:w.heap.size<(wr.alloc (.cells #[qi f.at_,qi f.kind,qi f.m] 67)).heap.size:=by simp;omega
      have Ru:=hid Ao;have Rt:=hid AA;clear Ao AA;go_wp2_with fail;refine (HP.out f.at_ _).mono ?_;rintro e w1 ⟨rfl,A5⟩;have A8:=hid (thenB Ad.out A5);have AE:=hid ((A5.block _ Ru.out).trans D1.out);have H9:=hid ((A5.block _ Rt.out).trans JL.out);clear q0 q1 q2 q3 q4 q5 q6 qz A5 p0 p1 p2 Au;obtain ⟨q0,q1,q2,q3,q4,q5,q6,_⟩:=zaj AE.out;have qz:=lt_of_heap AE.out;obtain ⟨p0,p1,p2,_⟩:=zef H9.out;have pz:=lt_of_heap H9.out
      cases hp:zbk o f.at_ with
      | false=>
        have HR:=hid (HF.out (by rw [HE.out,hp];simp));go_wp2_with fail;go_ret;exact ⟨ret_bool HR.out.symm,A8.out⟩
      | true=>
        have HC:=hid (HH.out f w1 A8.out hp);go_wp2_with fail;refine HC.out.mono ?_;rintro e w2 ⟨rfl,Aa⟩;have Af:=hid (thenB A8.out Aa);have CI:=hid ((Aa.block _ qz).trans AE.out);have JK:=hid ((Aa.block _ pz).trans H9.out);clear q0 q1 q2 q3 q4 q5 q6 qz p0 p1 p2 pz Aa;obtain ⟨p0,p1,p2,_⟩:=zef JK.out;have pz:=lt_of_heap JK.out
        cases hf:zv0 o f with
        | false=>
          have HR:=hid (HF.out (by rw [HE.out,hf];simp));go_wp2_with fail;go_ret;exact ⟨ret_bool HR.out.symm,Af.out⟩
        | true=>
          have B8:=hid (HT.out (by rw [HE.out,hf,hp,decide_eq_true t1];rfl));go_wp2_with fail;go_roundw
          case rel=>exact ⟨j+1,by omega,by go_num,by rw [HS.out],B8.out,Af.out,CI.out⟩
          case measure=>simp [intOf];omega
    . have HR:=hid (HF.out (by rw [HE.out,decide_eq_false t1];rfl))
      have CV:f.at_<=la:=by omega
      clear t1;go_wp2_with fail;go_ret;exact ⟨ret_bool HR.out.symm,thenB HB.out (al1 _ _)⟩
  . obtain rfl:j=o.fixes.length:=by omega
    have HR:Hid (zdj o=true):=by show _=_;rw [zox,zak.2 HL.out]
    go_wp2_with fail;go_ret;exact ⟨ret_bool HR.out.symm,HB.out⟩
set_option maxHeartbeats 1600000
theorem zoy (o:Ob) (x1:OA) (y1:Nat) (x3:OA) (y3:Nat) (x4:OA) (y4:Nat) (x5:OA) (y5:Nat) (w:World) (hO:OvAt w o x1 x3 x4 x5) (DE:o.uses.length<=y1) :
 qc 32 #[.agg #[.string o.name,.slice x1 o.uses.length y1,qi o.data,.slice x3 o.code.length y3,.slice x4 o.fixes.length y4,.slice x5 o.entries.length y5,qi o.main]] w fun e w'=>e = .returned (qi (oChk o))/\qb w w':=by
 have HQ:Hid (oChk o=if zfn o=true then 2 else if (zdi o&&(zcp o&&zdj o))=true then 0 else 1):=rfl;have HM:=hid (zzf o o.name x1 y1 o.data x3 y3 x4 o.fixes.length y4 x5 y5 o.main (w.alloc (oC o x1 y1 x3 y3 x4 y4 x5 y5)) hO.uses.bound hO.code.bound hO.entries.bound);have HN:=hid (fun (W:World) (hW:qb w W) (h3:o.uses.length<=3)=>zou o x1 y1 x3 y3 x4 y4 x5 y5 W (hO.later hW) h3 DE);have HC:=hid (fun (W:World) (hW:qb w W)=>zot o x1 y1 x3 y3 x4 y4 x5 y5 W (hO.later hW));have HF:=hid (fun (W:World) (hW:qb w W)=>zm8 o x1 y1 x3 y3 x4 y4 x5 y5 W (hO.later hW));clear hO;go_enter Tryz.func32,Tryz.ntmps32;go_wp2_with fail;refine HM.out.mono ?_;rintro e w1 ⟨rfl,A5⟩;have A8:=hid (thenB (al1 w _) A5);have AE:=hid ((A5.block _ (by simp)).trans (heap_newP w (oC o x1 y1 x3 y3 x4 y4 x5 y5)));clear A5
 obtain ⟨q0,q1,q2,q3,q4,q5,q6,_⟩:=zaj AE.out;have qz:=lt_of_heap AE.out
 cases hm:zfn o with
 | true=>
   have HR:Hid (oChk o=2):=by show _=_;rw [HQ.out,hm];rfl
   go_wp2_with fail;go_ret;exact ⟨by rw [HR.out];first | done | rfl,A8.out⟩
 | false=>
 have h3:o.uses.length<=3:=by
  unfold zfn at hm;simp only [vas,decide_eq_false_iff_not] at hm;omega
 have HR:Hid (oChk o=if (zdi o&&(zcp o&&zdj o))=true then 0 else 1):=by show _=_;rw [HQ.out,hm];rfl
 have RQ:=hid (HN.out w1 A8.out h3);clear hm h3 HQ;go_wp2_with fail;refine RQ.out.mono ?_;rintro e w2 ⟨rfl,Aa⟩;have Ad:=hid (thenB A8.out Aa);have D1:=hid ((Aa.block _ qz).trans AE.out);have Sk:=hid (HC.out w2 Ad.out);clear Aa q0 q1 q2 q3 q4 q5 q6 qz;obtain ⟨q0,q1,q2,q3,q4,q5,q6,_⟩:=zaj D1.out;have qz:=lt_of_heap D1.out
 cases hn:zdi o with
 | false=>
   have B4:Hid (oChk o=1):=by show _=_;rw [HR.out,hn];rfl
   go_wp2_with fail;go_ret;exact ⟨by rw [B4.out];first | done | rfl,Ad.out⟩
 | true=>
 have Am:Hid (oChk o=if (zcp o&&zdj o)=true then 0 else 1):=by show _=_;rw [HR.out,hn];rfl
 go_wp2_with fail;refine Sk.out.mono ?_;rintro e w3 ⟨rfl,A9⟩;have Af:=hid (thenB Ad.out A9);have CI:=hid ((A9.block _ qz).trans D1.out);have Be:=hid (HF.out w3 Af.out);clear A9 q0 q1 q2 q3 q4 q5 q6 qz;obtain ⟨q0,q1,q2,q3,q4,q5,q6,_⟩:=zaj CI.out;have qz:=lt_of_heap CI.out
 cases hc:zcp o with
 | false=>
   have B4:Hid (oChk o=1):=by show _=_;rw [Am.out,hc];rfl
   go_wp2_with fail;go_ret;exact ⟨by rw [B4.out];first | done | rfl,Af.out⟩
 | true=>
 go_wp2_with fail;refine Be.out.mono ?_;rintro e w4 ⟨rfl,Ah⟩;have An:=hid (thenB Af.out Ah);clear Ah q0 q1 q2 q3 q4 q5 q6 qz
 cases hf:zdj o with
 | false=>
   have B4:Hid (oChk o=1):=by show _=_;rw [Am.out,hc,hf];rfl
   go_wp2_with fail;go_ret;exact ⟨by rw [B4.out];first | done | rfl,An.out⟩
 | true=>
   have B4:Hid (oChk o=0):=by show _=_;rw [Am.out,hc,hf];rfl
   go_wp2_with fail;go_ret;exact ⟨by rw [B4.out];first | done | rfl,An.out⟩
end Go.Proofs.YtndkhgakfodldaaGreatDoor

namespace Go.Proofs.YtndkhgakfodldaaGreatDoor
set_option linter.unusedSimpArgs false
set_option linter.unusedVariables false
def inR (i:Gi) (n:Nat):Prop:=(1<=i.op/\i.op<=22)/\(0<=i.a/\i.a<=1099511627776+n)/\(0<=i.b/\i.b<=64)
theorem inR.mono {i:Gi} {n n':Nat} (h:inR i n) (hn:n<=n'):inR i n':=by unfold inR at *;omega
theorem zv3 (op a b:Int) (h:(1<=op/\op<=22)/\(0<=a/\a<=1099511627776)/\(0<=b/\b<=64)):inR ⟨op,a,b⟩ 0:=by unfold inR;simp only;omega
def z5g (us:Int) (J:Nat->Prop) (lo hi k:Nat) (f:Gf) (a:Int):Prop:=
 (f.kind=1/\f.m=0/\(J k\/((lo:Int)<=a/\a<=hi)))\/((f.kind=2\/f.kind=3)/\¬ J k/\(0<=a/\a<=2048)/\(0<=f.m/\f.m<=us))
theorem z5g.mono {us:Int} {J J':Nat->Prop} {lo hi CZ k:Nat} {f:Gf} {a:Int} (h:z5g us J lo hi k f a) (hJ:J' k↔J k) (hh:hi<=CZ):z5g us J' lo CZ k f a:=by
 rcases h with ⟨h1,h2,h3⟩ | ⟨h1,h2,h3⟩
 . refine Or.inl ⟨h1,h2,?_⟩
   rcases h3 with h3 | h3
   . exact Or.inl (hJ.2 h3)
   . exact Or.inr (by omega)
 . exact Or.inr ⟨h1,fun h=>h2 (hJ.1 h),h3⟩
structure Adds (us:Int) (J:Nat->Prop) (s t:Wrt):Prop where
 le:s.code.length<=t.code.length
 pre:∀ k,k<s.code.length->t.code[k]? = s.code[k]?
 ins:∀ (k:Nat) (i:Gi),s.code.length<=k->t.code[k]? = some i->inR i t.code.length
 jb:∀ k,J k->s.code.length<=k/\k<t.code.length
 fx:∃ e,t.fixes=s.fixes++e/\e.Pairwise (fun f g=>f.at_<g.at_)/\∀ f ∈ e,∃ (k:Nat) (i:Gi),t.code[k]? = some i/\f.at_=(k:Int)/\s.code.length<=k/\z5g us J s.code.length t.code.length k f i.a
theorem zdm {α:Type} {l:List α} {k:Nat} {x:α} (h:l[k]? = some x):k<l.length:=by
 rcases vbi k l.length with h1 | h1
 . exact h1
 . rw [vbv h1] at h;cases h
section
variable {us:Int} {J J':Nat->Prop} {s t u:Wrt}
theorem Adds.cong (h:Adds us J s t) (hJ:∀ k,J' k↔J k):Adds us J' s t:=by
 obtain rfl:J'=J:=funext fun k=>propext (hJ k)
 exact h
theorem Adds.refl (s:Wrt):Adds us (fun _=>False) s s:=
 ⟨vaa _,fun _ _=>rfl,fun k i h1 h2=>by have:=zdm h2;omega,fun _ h=>h.elim,[],by simp,List.Pairwise.nil,fun f hf=>by cases hf⟩
theorem Adds.snoc (h:Adds us J s t) (i:Gi) (hi:inR i 0\/inR i (t.code.length+1)) (hJ:∀ k,k<t.code.length->(J' k↔J k)) (QY:∀ k,J' k->s.code.length<=k/\k<=t.code.length) (e':List Gf)
 (Fv:e'=[]\/∃ f,e'=[f]/\f.at_=(t.code.length:Int)/\z5g us J' s.code.length (t.code.length+1) t.code.length f i.a):Adds us J' s ⟨t.code++[i],t.fixes++e'⟩:=by
 obtain ⟨e,he,hp,hf⟩:=h.fx;have hl:=h.le
 have Ai:(t.code++[i]).length=t.code.length+1:=by simp
 have old:∀ k,k<t.code.length->(t.code++[i])[k]? = t.code[k]?:=fun k hk=>vba hk
 have new:(t.code++[i])[t.code.length]? = some i:=by simp
 have CZ:inR i (t.code.length+1):=by rcases hi with h1 | h1;exact h1.mono (vae _);exact h1
 refine ⟨by simp only [Ai];omega,fun k hk=>(old k (by omega)).trans (h.pre k hk),fun k x hk hx=>?_,fun k hk=>by have:=QY k hk;simp only [Ai];omega,e++e',by simp only [he,vdf],?_,fun f EG=>?_⟩
 . simp only [Ai]
   have Bz:=zdm hx;rw [Ai] at Bz
   rcases vbi k t.code.length with h1 | h1
   . exact (h.ins k x hk ((old k h1).symm.trans hx)).mono (by omega)
   . obtain rfl:k=t.code.length:=by omega
     obtain rfl:i=x:=by rw [new] at hx;exact vai hx
     exact CZ
 . refine List.pairwise_append.2 ⟨hp,?_,fun f EG g hg=>?_⟩
   . rcases Fv with rfl | ⟨f,rfl,_⟩
     . exact List.Pairwise.nil
     . exact List.pairwise_singleton ..
   . obtain ⟨k,x,hx,hk,_⟩:=hf f EG
     have:=zdm hx
     rcases Fv with rfl | ⟨f',rfl,ha,_⟩
     . cases hg
     . rw [vcc] at hg;subst hg;omega
 . rcases vcd.1 EG with h1 | h1
   . obtain ⟨k,x,hx,hk,hs,hr⟩:=hf f h1
     have Ef:=zdm hx;exact ⟨k,x,(old k Ef).trans hx,hk,hs,hr.mono (hJ k Ef) (by simp only [Ai];omega)⟩
   . rcases Fv with rfl | ⟨f',rfl,ha,hr⟩
     . cases h1
     . rw [vcc] at h1;subst h1
       exact ⟨t.code.length,i,new,ha,hl,by simp only [Ai];exact hr⟩
theorem Adds.put (h:Adds us J s t) (op a b:Int) (hi:(1<=op/\op<=22)/\(0<=a/\a<=1099511627776)/\(0<=b/\b<=64)):Adds us J s (zbm op a b t):=by
 have:=h.snoc (J':=J) ⟨op,a,b⟩ (Or.inl (zv3 _ _ _ hi)) (fun _ _=>Iff.rfl) (fun k hk=>by have:=h.jb k hk;omega) [] (Or.inl rfl);rw [vdb] at this;exact this
theorem Adds.fix (h:Adds us J s t) (kind m op a b:Int) (hk:kind=2\/kind=3) (hi:(1<=op/\op<=22)/\(0<=a/\a<=2048)/\(0<=b/\b<=64)) (hm:0<=m/\m<=us):Adds us J s (zsk kind m ⟨op,a,b⟩ t):=
 h.snoc (J':=J) ⟨op,a,b⟩ (Or.inl (zv3 _ _ _ (by omega))) (fun _ _=>Iff.rfl) (fun k hk=>by have:=h.jb k hk;omega) [⟨t.code.length,kind,m⟩]
  (Or.inr ⟨_,rfl,rfl,Or.inr ⟨hk,fun hj=>by have:=(h.jb _ hj).2;omega,hi.2.1,hm⟩⟩)
theorem Adds.jump (h:Adds us J s t) (op:Int) (ho:1<=op/\op<=22):Adds us (fun x=>J x\/x=t.code.length) s (zck op 0 t):=
 h.snoc ⟨op,0,0⟩ (Or.inl (zv3 _ _ _ (by omega))) (fun k hk=>⟨fun h=>h.elim id (fun e=>by omega),Or.inl⟩) (fun k hk=>by rcases hk with hk | rfl;have:=h.jb k hk;omega;exact ⟨h.le,vaa _⟩) [⟨t.code.length,1,0⟩]
  (Or.inr ⟨_,rfl,rfl,Or.inl ⟨rfl,rfl,Or.inl (Or.inr rfl)⟩⟩)
theorem Adds.back (h:Adds us J s t) (op:Int) (ho:1<=op/\op<=22):Adds us J s (zck op s.code.length t):=
 have hl:=h.le
 h.snoc (J':=J) ⟨op,s.code.length,0⟩ (Or.inr (by unfold inR;simp only;omega)) (fun _ _=>Iff.rfl) (fun k hk=>by have:=h.jb k hk;omega) [⟨t.code.length,1,0⟩]
  (Or.inr ⟨_,rfl,rfl,Or.inl ⟨rfl,rfl,Or.inr (by simp only;omega)⟩⟩)
theorem zqq (t:Wrt) {j k:Nat} (h:j≠k):(zb8 k t).code[j]? = t.code[j]?:=by
 simp only [zb8,vdl];rw [show (fun a=>if k=j then zzr (t.code.length:Int) a else a)=id from funext fun a=>if_neg (fun e=>h e.symm)];simp
theorem zv4 (t:Wrt) {k:Nat} {i:Gi} (h:t.code[k]? = some i):(zb8 k t).code[k]? = some (zzr t.code.length i):=by
 simp only [zb8,vdl,h];simp
theorem Adds.land (h:Adds us J s t) {k:Nat} (hk:J k):Adds us (fun x=>J x/\x≠k) s (zb8 k t):=by
 obtain ⟨e,he,hp,hf⟩:=h.fx;have hl:=h.le;have D7:=h.jb k hk;refine ⟨by rw [zae];exact hl,fun j hj=>(zqq t (by omega)).trans (h.pre j hj),fun j i hj hi=>?_,fun j hj=>by rw [zae];exact h.jb j hj.1,e,he,hp,fun f EG=>?_⟩
 . rw [zae]
   by_cases e:j=k
   . subst e
     have hg:t.code[j]? = some t.code[j]:=vac D7.2;rw [zv4 t hg] at hi;obtain rfl:=vai hi;have:=h.ins j _ hj hg;unfold inR at this ⊢;simp only [zzr];omega
   . rw [zqq t e] at hi;exact h.ins j i hj hi
 . obtain ⟨j,i,hi,ha,hs,hr⟩:=hf f EG
   rw [zae]
   by_cases e:j=k
   . subst e
     refine ⟨j,_,zv4 t hi,ha,hs,?_⟩
     rcases hr with ⟨h1,h2,_⟩ | ⟨_,h2,_⟩
     . exact Or.inl ⟨h1,h2,Or.inr (by simp only [zzr];omega)⟩
     . exact absurd hk h2
   . exact ⟨j,i,(zqq t e).trans hi,ha,hs,hr.mono ⟨fun h=>h.1,fun h=>⟨h,e⟩⟩ (vaa _)⟩
theorem Adds.then (h:Adds us J s t) (g:Adds us (fun _=>False) t u):Adds us J s u:=by
 obtain ⟨e,he,hp,hf⟩:=h.fx;obtain ⟨e',Fv,Gy,KN⟩:=g.fx;have hl:=h.le;have gl:=g.le;refine ⟨by omega,fun k hk=>(g.pre k (by omega)).trans (h.pre k hk),fun k i hk hi=>?_,fun k hk=>by have:=h.jb k hk;omega,e++e',by rw [Fv,he,vdf],?_,fun f EG=>?_⟩
 . rcases vbi k t.code.length with h1 | h1
   . exact (h.ins k i hk ((g.pre k h1).symm.trans hi)).mono gl
   . exact g.ins k i h1 hi
 . refine List.pairwise_append.2 ⟨hp,Gy,fun f EG x hx=>?_⟩
   obtain ⟨k,i,hi,ha,_⟩:=hf f EG;obtain ⟨k',i',CZ,Cd,Ew,_⟩:=KN x hx;have:=zdm hi;omega
 . rcases vcd.1 EG with h1 | h1
   . obtain ⟨k,i,hi,ha,hs,hr⟩:=hf f h1
     exact ⟨k,i,(g.pre k (zdm hi)).trans hi,ha,hs,hr.mono Iff.rfl gl⟩
   . obtain ⟨k,i,hi,ha,hs,hr⟩:=KN f h1
     refine ⟨k,i,hi,ha,by omega,?_⟩
     rcases hr with ⟨h1,h2,h3⟩ | ⟨h1,h2,h3⟩
     . exact Or.inl ⟨h1,h2,Or.inr (by rcases h3 with h3 | h3;exact h3.elim;omega)⟩
     . exact Or.inr ⟨h1,fun hj=>by have:=(h.jb k hj).2;omega,h3⟩
end
def zc4 (us:Int) (f:Wrt->Wrt):Prop:=∀ s,Adds us (fun _=>False) s (f s)
theorem zi4 {us:Int} {f:Nd->Wrt->Wrt}:∀ {l:List Nd},(∀ y ∈ l,zc4 us (f y))->zc4 us (zgh f l)
 | [],_,s=>Adds.refl s
 | x :: r,h,s=>(h x (vap ..) s).then (zi4 (fun y hy=>h y (vaj _ hy)) (f x s))
theorem zi5 {us:Int} {f:Ac->Wrt->Wrt}:∀ {l:List Ac},(∀ y ∈ l,zc4 us (f y))->zc4 us (zc3 f l)
 | [],_,s=>Adds.refl s
 | x :: r,h,s=>by
   show Adds us _ s (zc3 f r (if zgz s=true then s else f x s));have h2:=zi5 (l:=r) (fun y hy=>h y (vaj _ hy));split
   . exact h2 s
   . exact (h x (vap ..) s).then (h2 _)
theorem zzv {us:Int} {f g:Wrt->Wrt} (hf:zc4 us f) (hg:zc4 us g):zc4 us (zy3 f g):=fun s=>by
 have h3:=((hf s).jump 12 (by decide)).then (hg _);have hl:=(hg (zck 12 0 (f s))).le;rw [zai] at hl;have h5:=(h3.put 22 0 0 (by decide)).jump 11 (by decide);have h7:=(h5.land (k:=(f s).code.length) (Or.inl (Or.inr rfl))).put 1 0 0 (by decide);have h8:=h7.land (k:=(zbm 22 0 0 (g (zck 12 0 (f s)))).code.length) ⟨Or.inr rfl,by rw [zac];omega⟩;exact h8.cong (fun k=>⟨False.elim,fun h=>by simp only [false_or] at h;omega⟩)
theorem z2z {us:Int} {f g:Wrt->Wrt} (hf:zc4 us f) (hg:zc4 us g):zc4 us (orW f g):=fun s=>by
 have h5:=(((hf s).jump 12 (by decide)).put 1 1 0 (by decide)).jump 11 (by decide);have h6:=h5.land (k:=(f s).code.length) (Or.inl (Or.inr rfl));have h7:=(h6.then (hg _)).put 22 0 0 (by decide);have h8:=h7.land (k:=(zbm 1 1 0 (zck 12 0 (f s))).code.length) ⟨Or.inr rfl,by rw [zac,zai];omega⟩;exact h8.cong (fun k=>⟨False.elim,fun h=>by simp only [false_or] at h;omega⟩)
theorem z20 {us:Int} {f g h:Wrt->Wrt} (hf:zc4 us f) (hg:zc4 us g) (hh:zc4 us h) (e:Bool):zc4 us (brW f g h e):=fun s=>by
 have h3:=((hf s).jump 12 (by decide)).then (hg _);have hl:=(hg (zck 12 0 (f s))).le;rw [zai] at hl;unfold brW;simp only;split
 . exact (h3.land (k:=(f s).code.length) (Or.inr rfl)).cong (fun k=>⟨False.elim,fun h=>by simp only [false_or] at h;omega⟩)
 . have h5:=(h3.jump 11 (by decide)).land (k:=(f s).code.length) (Or.inl (Or.inr rfl))
   have h8:=(h5.then (hh _)).land (k:=(g (zck 12 0 (f s))).code.length) ⟨Or.inr rfl,by omega⟩;exact h8.cong (fun k=>⟨False.elim,fun h=>by simp only [false_or] at h;omega⟩)
theorem z22 {us:Int} {f g:Wrt->Wrt} (hf:zc4 us f) (hg:zc4 us g):zc4 us (whW f g):=fun s=>by
 have h3:=((((hf s).jump 12 (by decide)).put 16 0 0 (by decide)).then (hg _)).back 11 (by decide);exact (h3.land (k:=(f s).code.length) (Or.inr rfl)).cong (fun k=>⟨False.elim,fun h=>by simp only [false_or] at h;omega⟩)
structure Sane (c:Ck):Prop where
 hn:∀ m at_ n:Int,1<=n->numB c m at_ n=true->(0<=at_/\at_<=2048)/\(0<=m/\m<=c.uses)
 hp:∀ m at_ k:Int,zi1 c m at_ k=true->(0<=at_/\at_<=2048)/\(0<=m/\m<=c.uses)
 hl:c.locals<=64
theorem z23 {c:Ck} (hc:Sane c):∀ (k:Nat) (x:Nd),zau c x=true->zf2 c k x.args=true->zc4 c.uses (ndW (k+1) x):=by
 have Ci:∀ (k:Nat) (x:Nd),zau c x=true->(∀ y ∈ x.args,zc4 c.uses (ndW k y))->zc4 c.uses (ndW (k+1) x):=by
  intro k x hx hN s;obtain ⟨op,n,m,at_,args⟩:=x
  have hA:∀ i,zc4 c.uses (ndW k (argN args i)):=fun i s=>by
   by_cases hi:i<args.length
   . rw [zgd _ _ hi];exact hN _ (vag hi) s
   . have:argN args i=nd0:=by simp [argN,vav,vbv (Nat.le_of_not_lt hi)]
     rw [this]
     cases k with
     | zero=>exact Adds.refl s
     | succ k=>exact (Adds.refl s).put 10 0 0 (by decide)
  rw [ndW_succ];unfold ndStep
  by_cases e1:op=1
  . subst e1
    have Bz:(decide (args.length=0)&&(decide (0<=n/\n<=1099511627775)&&(decide (m=0)&&decide (at_=0))))=true:=hx;simp only [vab,decide_eq_true_eq] at Bz;rw [if_pos rfl];exact (Adds.refl s).put _ _ _ (by omega)
  rw [if_neg e1]
  by_cases e2:op=2
  . rw [if_pos e2];exact (Adds.refl s).put _ _ _ (by decide)
  rw [if_neg e2]
  by_cases e3:op=16
  . subst e3
    have:=hc.hl;have Bz:(decide (args.length=0)&&(decide (n=0)&&(decide (m=0)&&zvx c at_)))=true:=hx;simp only [zvx,vab,decide_eq_true_eq] at Bz;rw [if_pos rfl];exact (Adds.refl s).put _ _ _ (by omega)
  rw [if_neg e3]
  by_cases e4:op=3
  . subst e4
    have Bz:(decide (args.length=0)&&(decide (n=0)&&numB c m at_ 1))=true:=hx;simp only [vab] at Bz;rw [if_pos rfl];have:=hc.hn _ _ _ (by decide) Bz.2.2;exact (Adds.refl s).fix _ _ _ _ _ (Or.inr rfl) (by omega) this.2
  rw [if_neg e4]
  by_cases e5:op=4
  . subst e5
    have Bz:(decide (args.length=1)&&(decide (1<=n/\n<=32)&&numB c m at_ n))=true:=hx;simp only [vab,decide_eq_true_eq] at Bz;rw [if_pos rfl];have:=hc.hn _ _ _ Bz.2.1.1 Bz.2.2;exact ((hA 0 s).fix _ _ _ _ _ (Or.inr rfl) (by omega) this.2).put _ _ _ (by decide)
  rw [if_neg e5]
  by_cases e6:op=5
  . subst e6
    have Bz:(decide (n=0)&&zi1 c m at_ args.length)=true:=hx;simp only [vab] at Bz;rw [if_pos rfl];have:=hc.hp _ _ _ Bz.2;exact (zi4 hN s).fix _ _ _ _ _ (Or.inl rfl) (by omega) this.2
  rw [if_neg e6];have hl:=zsl hx e1 e3 e4 e5 e6
  by_cases e7:op=6
  . rw [if_pos e7];exact (hA 0 s).put _ _ _ (by decide)
  rw [if_neg e7]
  by_cases e8:op=7
  . rw [if_pos e8];exact zzv (hA 0) (hA 1) s
  rw [if_neg e8]
  by_cases e9:op=8
  . rw [if_pos e9];exact z2z (hA 0) (hA 1) s
  rw [if_neg e9];refine (zi4 hN s).put _ _ _ ?_;unfold argsOf at hl;rw [if_neg e2,if_neg e7] at hl
  split at hl<;>omega
 intro k
 induction k with
 | zero=>intro x h1 h2;exact Ci 0 x h1 (fun y hy s=>Adds.refl s)
 | succ k ih=>
   intro x h1 h2;refine Ci (k+1) x h1 (fun y hy=>?_);rw [show zf2 c (k+1) x.args=x.args.all (fun x=>zau c x&&zf2 c k x.args) from rfl,var] at h2;have h4:=h2 y hy;rw [vab] at h4;exact ih y h4.1 h4.2
theorem zqr {c:Ck} (hc:Sane c):∀ (k:Nat) (l:List Ac),zd9 c k l=true->∀ y ∈ l,zc4 c.uses (acW k y)
 | 0,l,h=>by simp [zd9] at h
 | k + 1,l,h=>fun y hy s=>by
   obtain ⟨h1,h2,h3,h4⟩:=zzd h hy;obtain ⟨op,n,m,at_,args,body,other⟩:=y;obtain ⟨⟨o1,o7⟩,l2,l1⟩:=zk3 h1;simp only [Ac.args,Ac.body,Ac.other] at h2 h3 h4
   have hN:∀ z ∈ args,zc4 c.uses (ndW 6 z):=fun z hz=>by
    rw [show zf2 c 6 args=args.all (fun x=>zau c x&&zf2 c 5 x.args) from rfl,var] at h2;have h5:=h2 z hz;rw [vab] at h5;exact z23 hc 5 z h5.1 h5.2
   have hA:∀ i,i<args.length->zc4 c.uses (ndW 6 (argN args i)):=fun i hi=>by
    rw [zgd _ _ hi];exact hN _ (vag hi)
   have nil:∀ (q:List Ac),q.length=0->zc4 c.uses (zc3 (acW k) q):=fun q hq s=>by
    rw [vam hq];exact Adds.refl s
   have hB:zc4 c.uses (zc3 (acW k) body):=by
    rcases h3 with h3 | h3
    . exact zi5 (zqr hc k _ h3)
    . exact nil _ h3
   have hO:zc4 c.uses (zc3 (acW k) other):=by
    rcases h4 with h4 | h4
    . exact zi5 (zqr hc k _ h4)
    . exact nil _ h4
   rw [zom];unfold zua
   by_cases e3:op=3
   . subst e3
     have D8:(decide (n=0)&&zi1 c m at_ args.length)=true:=h1;simp only [vab] at D8;have:=hc.hp _ _ _ D8.2;simp only [show ¬ ((3:Int)=1) from by decide,show ¬ ((3:Int)=2) from by decide,if_true,if_false];exact ((zi4 hN s).fix _ _ _ _ _ (Or.inl rfl) (by omega) this.2).put _ _ _ (by decide)
   have Bn:0<args.length:=by
    by_cases e2:op=2
    . have:=l2 e2;omega
    . have:=l1 e2 e3;omega
   have h0:=hA 0 Bn
   by_cases e1:op=1
   . subst e1
     have D8:(decide (args.length=1)&&(decide (n=0)&&(if m = -1 then zvx c at_ else numB c m at_ 1)))=true:=h1;rw [vab,vab] at D8;have h5:=D8.2.2;rw [if_pos rfl];unfold z2w;split
     . rename_i em
       rw [if_pos em] at h5;have:=hc.hl;simp only [zvx,decide_eq_true_eq] at h5;exact (h0 s).put _ _ _ (by omega)
     . rename_i em
       rw [if_neg em] at h5;have:=hc.hn _ _ _ (by decide) h5;exact (h0 s).fix _ _ _ _ _ (Or.inr rfl) (by omega) this.2
   rw [if_neg e1]
   by_cases e2:op=2
   . subst e2
     have h7:=hA 1 (by have:=l2 rfl;omega);have D8:(decide (args.length=2)&&(decide (1<=n/\n<=32)&&numB c m at_ n))=true:=h1;simp only [vab,decide_eq_true_eq] at D8;have:=hc.hn _ _ _ D8.2.1.1 D8.2.2;rw [if_pos rfl];exact (((h0 s).fix _ _ _ _ _ (Or.inr rfl) (by omega) this.2).then (h7 _)).put _ _ _ (by decide)
   rw [if_neg e2,if_neg e3]
   by_cases e4:op=4
   . rw [if_pos e4];exact z20 h0 hB hO _ s
   rw [if_neg e4]
   by_cases e5:op=5
   . rw [if_pos e5];exact z22 h0 hB s
   rw [if_neg e5]
   by_cases e6:op=6
   . rw [if_pos e6];exact (h0 s).put _ _ _ (by decide)
   rw [if_neg e6]
   by_cases e7:op=7
   . rw [if_pos e7];exact (h0 s).put _ _ _ (by decide)
   rw [if_neg e7];exact Adds.refl s
theorem zoz {c:Ck} (hc:Sane c) (p:Pt) (h:zd9 c 6 p.body=true) (hp:ptB p=true) (s:Wrt):∃ t,Adds c.uses (fun _=>False) s t/\s.code.length<t.code.length/\zok p s=zbm 15 0 0 (zbm 1 0 0 t):=by
 unfold ptB at hp;simp only [vab,decide_eq_true_eq] at hp;have h1:=(Adds.refl (us:=c.uses) s).put 14 p.params p.locals (by omega);have h2:=zi5 (zqr hc 6 p.body h) (zbm 14 p.params p.locals s);have:=h2.le;rw [zac] at this;exact ⟨_,h1.then h2,by omega,rfl⟩
def zv5 (B:List Nat) (s:Wrt):Prop:=(∀ b ∈ B,b<=s.code.length)/\∀ f ∈ s.fixes,f.kind=1->∃ (k:Nat) (i:Gi),s.code[k]? = some i/\f.at_=(k:Int)/\i.a<s.code.length/\∀ b ∈ B,(k<b->i.a<b)/\(b<=k->(b:Int)<=i.a)
theorem zv5.mem {B B':List Nat} {s:Wrt} (h:zv5 B s) (hB:∀ b ∈ B',b ∈ B):zv5 B' s:=
 ⟨fun b hb=>h.1 b (hB b hb),fun f hf hk=>by
  obtain ⟨k,i,h1,h2,h3,h4⟩:=h.2 f hf hk
  exact ⟨k,i,h1,h2,h3,fun b hb=>h4 b (hB b hb)⟩⟩
theorem zv5.more {B:List Nat} {s:Wrt} (h:zv5 B s):zv5 (s.code.length :: B) s:=by
 refine ⟨fun b hb=>?_,fun f hf hk=>?_⟩
 . rcases vby.1 hb with rfl | hb
   . exact vaa _
   . exact h.1 b hb
 . obtain ⟨k,i,h1,h2,h3,h4⟩:=h.2 f hf hk
   refine ⟨k,i,h1,h2,h3,fun b hb=>?_⟩
   rcases vby.1 hb with rfl | hb
   . have:=zdm h1
     exact ⟨fun _=>h3,fun h=>by omega⟩
   . exact h4 b hb
theorem zv5.body {us:Int} {B:List Nat} {s t:Wrt} (h:zv5 B s) (ha:Adds us (fun _=>False) s t):zv5 B (zbm 15 0 0 (zbm 1 0 0 t)):=by
 obtain ⟨e,he,_,hf⟩:=ha.fx;have hl:=ha.le
 have len:(zbm 15 0 0 (zbm 1 0 0 t)).code.length=t.code.length+2:=by rw [zac,zac]
 have old:∀ k,k<t.code.length->(zbm 15 0 0 (zbm 1 0 0 t)).code[k]? = t.code[k]?:=fun k hk=>by
  simp only [zbm];rw [vba (by simp;omega),vba hk]
 refine ⟨fun b hb=>by have:=h.1 b hb;rw [len];omega,fun f EG hk=>?_⟩
 have Mf:f ∈ s.fixes++e:=by rw [← he];exact EG
 rw [len]
 rcases vcd.1 Mf with h1 | h1
 . obtain ⟨k,i,h1,h2,h3,h4⟩:=h.2 f h1 hk
   have Jl:=zdm h1;exact ⟨k,i,(old k (by omega)).trans ((ha.pre k Jl).trans h1),h2,by omega,h4⟩
 . obtain ⟨k,i,h1,h2,h3,h4⟩:=hf f h1
   refine ⟨k,i,(old k (zdm h1)).trans h1,h2,?_,fun b hb=>?_⟩
   all_goals rcases h4 with ⟨_,_,h5 | h5⟩ | ⟨h5,_⟩
   . exact h5.elim
   . omega
   . omega
   . exact h5.elim
   . have:=h.1 b hb
     exact ⟨fun _=>by omega,fun _=>by omega⟩
   . omega
theorem zv6 {u:Un} (h:zda u=true) (lc:Int) (hl:lc<=64):Sane (zhv u zic zhw lc):=by
 have h6:=zht h;have hd:=zh9 h;refine ⟨fun m at_ n hn h=>?_,fun m at_ k h=>?_,hl⟩
 . unfold numB at h
   split at h
   . rename_i e
     have h:0<=at_/\at_+n<=u.data:=of_decide_eq_true h;subst e;exact ⟨by omega,by omega,by simp only [zhv];omega⟩
   . rw [vab] at h
     obtain ⟨h1,h2⟩:=h;have h1:1<=m/\m<=u.uses.length:=of_decide_eq_true h1;have h2:zic m at_ n=true:=h2;simp only [zic,vef,zzp,decide_eq_true_eq] at h2;exact ⟨by omega,by omega,by simp only [zhv];omega⟩
 . unfold zi1 at h
   split at h
   . rename_i e
     have h:ztw u.parts at_ k=true:=h;unfold ztw at h;rw [vab,decide_eq_true_eq] at h;obtain ⟨h1,h2⟩:=h
     cases hq:u.parts[at_.toNat]? with
     | none=>rw [hq] at h2;cases h2
     | some p=>
       have:=zdm hq;subst e;exact ⟨by omega,by omega,by simp only [zhv];omega⟩
   . rw [vab] at h
     obtain ⟨h1,h2⟩:=h;have h1:1<=m/\m<=u.uses.length:=of_decide_eq_true h1;have h2:zhw m at_ k=true:=h2;simp only [zhw,vab,decide_eq_true_eq] at h2;exact ⟨by omega,by omega,by simp only [zhv];omega⟩
def startsTo (l:List Pt) (j:Nat):List Nat:=(List.range j).map (fun i=>(zbv (l.take i)).code.length)
theorem zlz {u:Un} (h:zen u zic zhw=true):∀ j,j<=u.parts.length->Adds u.uses.length (fun _=>False) wr0 (zbv (u.parts.take j))/\zv5 (startsTo u.parts j) (zbv (u.parts.take j))
 | 0,_=>⟨Adds.refl _,fun b hb=>by simp [startsTo] at hb,fun f hf=>by cases hf⟩
 | j + 1,hj=>by
   obtain ⟨h1,h2⟩:=zlz h j (by omega);obtain ⟨hp,_,hh⟩:=zbs h
   have O5:ptB u.parts[j]=true:=by
    unfold zda at hh;simp only [vab,var] at hh;exact hh.2.1 _ (vag (by omega))
   have F2:u.parts[j].params+u.parts[j].locals<=64:=by
    have:=O5;unfold ptB at this;simp only [vab,decide_eq_true_eq] at this;omega
   obtain ⟨t,ha,_,hb⟩:=zoz (zv6 hh _ F2) u.parts[j] (hp _ (vag (by omega))) O5 (zbv (u.parts.take j));rw [zg0 _ _ (by omega),hb];refine ⟨((h1.then ha).put 1 0 0 (by decide)).put 15 0 0 (by decide),(h2.more.body ha).mem (fun b hb=>?_)⟩;unfold startsTo at hb;rw [vdc,vbw,vcd] at hb
   rcases hb with hb | hb
   . exact vaj _ hb
   . simp only [vcm,vdv,vcc] at hb
     subst hb;exact vap ..
theorem zzw {u:Un} (h:zen u zic zhw=true):Adds u.uses.length (fun _=>False) wr0 (genS u)/\zv5 ((zbv u.parts).code.length :: startsTo u.parts u.parts.length) (genS u)/\(zbv u.parts).code.length<(genS u).code.length/\∀ b ∈ startsTo u.parts u.parts.length,b<=(zbv u.parts).code.length:=by
 obtain ⟨h1,h2⟩:=zlz h _ (vaa _);rw [vat] at h1 h2;obtain ⟨_,hm,hh⟩:=zbs h;obtain ⟨t,ha,hl,hb⟩:=zoz (zv6 hh 0 (by decide)) ⟨0,0,u.main⟩ hm rfl (zbv u.parts);unfold genS;rw [hb];refine ⟨((h1.then ha).put 1 0 0 (by decide)).put 15 0 0 (by decide),h2.more.body ha,?_,h2.1⟩;rw [zac,zac];omega
theorem zqs (l:List Pt):entsW l=(startsTo l l.length).map (fun n:Nat=>(n:Int)):=by
 unfold entsW startsTo;rw [List.map_map]
 rfl
end Go.Proofs.YtndkhgakfodldaaGreatDoor

namespace Go.Proofs.YtndkhgakfodldaaGreatDoor
open Go.RowKit
structure Sw where
 data:List Int
 inp:List Int
 out:List Int
 ticks:Nat
 calls:Nat
inductive Rr (α:Type) where
 | ok (a:α) (s:Sw)
 | stop (e:Int) (s:Sw)
def Rr.bind {α β:Type}:Rr α->(α->Sw->Rr β)->Rr β
 | .ok a s,f=>f a s
 | .stop e s,_=>.stop e s
structure Cx where
 us:List Un
 near:List (List Nat)
 beg:List Int
 lim:Nat
structure Fr where
 loc:List Int
 ret:Int
def ziw (lim:Nat) (s:Sw):Rr Unit:=if s.ticks=lim then .stop 3 s else .ok () { s with ticks:=s.ticks+1 }
def zm9 (s:Sw):Rr Int:=match s.inp with
 | []=>.ok 0 s
 | x :: r=>.ok x { s with inp:=r }
def zqt (n:Int) (s:Sw):Rr Unit:=if s.out.length=200 then .stop 5 s else .ok () { s with out:=s.out++[n] }
def z7e (cx:Cx) (u:Nat) (m:Int):Nat:=(cx.near.getD u []).getD m.toNat 0
def z48 (cx:Cx) (u:Nat) (m at_:Int):Int:=cx.beg.getD (z7e cx u m) 0+at_
def zo0 (b:Bool):Int:=if b=true then 1 else 0
def ofS (op a b:Int):Option Int:=
 if op=9 then some (wrap64 (a+b))
 else if op=10 then some (wrap64 (a - b))
 else if op=11 then some (wrap64 (a*b))
 else if op=14 then some (zo0 (a == b))
 else if op=15 then some (zo0 (decide (a<b)))
 else if b=0 then none
 else if op=12 then some (wrap64 (Int.tdiv a b))
 else if op=13 then some (Int.tmod a b)
 else none
def zej (f:Nd->Sw->Rr Int):List Nd->Sw->Rr (List Int)
 | [],s=>.ok [] s
 | x :: r,s=>(f x s).bind fun v s=>(zej f r s).bind fun vs s=>.ok (v :: vs) s
def z60 (f:Sw->Rr Int) (p n:Int) (s:Sw):Rr Int:=(f s).bind fun i s=>if i<0\/n<=i then .stop 2 s else .ok (p+i) s
abbrev zzk:=Nat->List Ac->List Int->Sw->Rr Int
def zv7 (cx:Cx) (u:Nat) (m at_:Int):Pt:=match cx.us[z7e cx u m]? with
 | some x=>x.parts.getD at_.toNat ⟨0,0,[]⟩
 | none=>⟨0,0,[]⟩
def zo1 (vs:List Int) (n:Int):List Int:=vs++List.replicate (n.toNat - vs.length) 0
def zsr (E:zzk) (cx:Cx) (u:Nat) (f:Nd->Sw->Rr Int) (m at_:Int) (args:List Nd) (s:Sw):Rr Int:=
 (zej f args s).bind fun vs s=>E (z7e cx u m) (zv7 cx u m at_).body (zo1 vs ((zv7 cx u m at_).params+(zv7 cx u m at_).locals)) s
def vN (E:zzk) (cx:Cx) (u:Nat) (loc:List Int):Nat->Nd->Sw->Rr Int
 | 0,_,s=>.ok 0 s
 | k+1,x,s=>
   if x.op=1 then .ok x.n s
   else if x.op=2 then zm9 s
   else if x.op=16 then .ok (loc.getD x.at_.toNat 0) s
   else if x.op=3 then .ok (s.data.getD (z48 cx u x.m x.at_).toNat 0) s
   else if x.op=4 then (z60 (vN E cx u loc k (argN x.args 0)) (z48 cx u x.m x.at_) x.n s).bind fun p s=>.ok (s.data.getD p.toNat 0) s
   else if x.op=5 then zsr E cx u (vN E cx u loc k) x.m x.at_ x.args s
   else if x.op=6 then (vN E cx u loc k (argN x.args 0) s).bind fun v s=>.ok (zo0 (decide (v=0))) s
   else if x.op=7 then (vN E cx u loc k (argN x.args 0) s).bind fun v s=>if v=0 then .ok 0 s else (vN E cx u loc k (argN x.args 1) s).bind fun v s=>.ok (zo0 (decide (v≠0))) s
   else if x.op=8 then (vN E cx u loc k (argN x.args 0) s).bind fun v s=>if v=0 then (vN E cx u loc k (argN x.args 1) s).bind fun v s=>.ok (zo0 (decide (v≠0))) s else .ok 1 s
   else (vN E cx u loc k (argN x.args 0) s).bind fun a s=>(vN E cx u loc k (argN x.args 1) s).bind fun b s=>match ofS x.op a b with
    | some n=>.ok n s
    | none=>.stop 1 s
def bN (f:Ac->Fr->Sw->Rr (Bool × Fr)):List Ac->Fr->Sw->Rr (Bool × Fr)
 | [],c,s=>.ok (false,c) s
 | a :: r,c,s=>(f a c s).bind fun d s=>if d.1=true then .ok (true,d.2) s else bN f r d.2 s
abbrev Whl:=Nat->Nd->List Ac->Fr->Sw->Rr (Bool × Fr)
def aN (E:zzk) (L:Whl) (cx:Cx) (u:Nat):Nat->Ac->Fr->Sw->Rr (Bool × Fr)
 | 0,_,c,s=>.ok (false,c) s
 | k+1,a,c,s=>
   if a.op=1 then (vN E cx u c.loc 6 (argN a.args 0) s).bind fun v s=>if a.m = -1 then .ok (false,{ c with loc:=c.loc.set a.at_.toNat v }) s else .ok (false,c) { s with data:=s.data.set (z48 cx u a.m a.at_).toNat v }
   else if a.op=2 then (z60 (vN E cx u c.loc 6 (argN a.args 0)) (z48 cx u a.m a.at_) a.n s).bind fun p s=>(vN E cx u c.loc 6 (argN a.args 1) s).bind fun v s=>.ok (false,c) { s with data:=s.data.set p.toNat v }
   else if a.op=3 then (zsr E cx u (vN E cx u c.loc 6) a.m a.at_ a.args s).bind fun _ s=>.ok (false,c) s
   else if a.op=4 then (vN E cx u c.loc 6 (argN a.args 0) s).bind fun v s=>if v=0 then bN (aN E L cx u k) a.other c s else bN (aN E L cx u k) a.body c s
   else if a.op=5 then L u (argN a.args 0) a.body c s
   else if a.op=6 then (vN E cx u c.loc 6 (argN a.args 0) s).bind fun v s=>.ok (true,{ c with ret:=v }) s
   else if a.op=7 then (vN E cx u c.loc 6 (argN a.args 0) s).bind fun v s=>(zqt v s).bind fun _ s=>.ok (false,c) s
   else .ok (false,c) s
structure Lv where
 ent:zzk
 whl:Whl
def z9c (r:Lv) (cx:Cx) (u:Nat) (body:List Ac) (loc:List Int) (s:Sw):Rr Int:=
 (bN (aN r.ent r.whl cx u 6) body ⟨loc,0⟩ { s with calls:=s.calls+1 }).bind fun d s=>.ok d.2.ret { s with calls:=s.calls - 1 }
def zvv (r:Lv) (cx:Cx):zzk:=fun u body loc s=>(ziw cx.lim s).bind fun _ s=>if s.calls=24 then .stop 4 s else z9c r cx u body loc s
def z24 (r:Lv) (cx:Cx) (E:zzk):Whl:=fun u x body c s=>
 (vN E cx u c.loc 6 x s).bind fun v s=>if v=0 then .ok (false,c) s else
   (ziw cx.lim s).bind fun _ s=>(bN (aN r.ent r.whl cx u 6) body c s).bind fun d s=>if d.1=true then .ok (true,d.2) s else r.whl u x body d.2 s
def lv0:Lv:=⟨fun _ _ _ s=>.stop 3 s,fun _ _ _ _ s=>.stop 3 s⟩
def lv (cx:Cx):Nat->Lv
 | 0=>⟨zvv lv0 cx,z24 lv0 cx (zvv lv0 cx)⟩
 | t+1=>⟨zvv (lv cx t) cx,z24 (lv cx t) cx (zvv (lv cx t) cx)⟩
structure Rs where
 end_:Int
 out:List Int
 data:List Int
 ticks:Nat
end Go.Proofs.YtndkhgakfodldaaGreatDoor

namespace Go.Proofs.YtndkhgakfodldaaGreatDoor
set_option linter.unusedSimpArgs false
set_option linter.unusedVariables false
structure Smi (lim lim':Nat) where
 Sm:Nat->(α:Type)->(Sw->Rr α)->(Sw->Rr α)->Prop
 ok:∀ n α (a:α),Sm n α (fun s=>.ok a s) (fun s=>.ok a s)
 stop:∀ n α (e:Int),e≠3->Sm n α (fun s=>.stop e s) (fun s=>.stop e s)
 bind:∀ n α β (F F':Sw->Rr α) (f f':α->Sw->Rr β),Sm n α F F'->(∀ a,Sm n β (f a) (f' a))->Sm n β (fun s=>(F s).bind f) (fun s=>(F' s).bind f')
 tick:∀ n α (F F':Sw->Rr α),Sm n α F F'->Sm (n+1) α (fun s=>(ziw lim s).bind fun _ s=>F s) (fun s=>(ziw lim' s).bind fun _ s=>F' s)
 next:∀ n,Sm n Int zm9 zm9
 tell:∀ n v,Sm n Unit (zqt v) (zqt v)
 get:∀ n α (g:List Int->α),Sm n α (fun s=>.ok (g s.data) s) (fun s=>.ok (g s.data) s)
 set:∀ n α (i:Nat) (v:Int) (a:α),Sm n α (fun s=>.ok a { s with data:=s.data.set i v }) (fun s=>.ok a { s with data:=s.data.set i v })
 dip:∀ n α β (F F':Sw->Rr α) (g:α->β),Sm n α F F'->Sm n β (fun s=>if s.calls=24 then .stop 4 s else (F { s with calls:=s.calls+1 }).bind fun a s=>.ok (g a) { s with calls:=s.calls - 1 }) (fun s=>if s.calls=24 then .stop 4 s else (F' { s with calls:=s.calls+1 }).bind fun a s=>.ok (g a) { s with calls:=s.calls - 1 })
section
variable {lim lim':Nat} (I:Smi lim lim') {n:Nat}
theorem Smi.pick {α:Type} {F F' G G':Sw->Rr α} (p:Prop) [Decidable p] (hF:I.Sm n α F F') (hG:I.Sm n α G G'):I.Sm n α (fun s=>if p then F s else G s) (fun s=>if p then F' s else G' s):=by
 by_cases h:p
 . simp only [if_pos h];exact hF
 . simp only [if_neg h];exact hG
theorem zss {f f':Nd->Sw->Rr Int} (h:∀ x,I.Sm n Int (f x) (f' x)):∀ l,I.Sm n (List Int) (zej f l) (zej f' l)
 | []=>I.ok n _ []
 | x :: r=>I.bind n _ _ _ _ _ _ (h x) (fun v=>I.bind n _ _ _ _ _ _ (zss h r) (fun vs=>I.ok n _ (v :: vs)))
theorem zv8 {f f':Sw->Rr Int} (h:I.Sm n Int f f') (p m:Int):I.Sm n Int (z60 f p m) (z60 f' p m):=
 I.bind n _ _ _ _ _ _ h (fun i=>I.pick (i<0\/m<=i) (I.stop n _ 2 (by decide)) (I.ok n _ (p+i)))
variable {E E':zzk} (hE:∀ u b l,I.Sm n Int (E u b l) (E' u b l)) (cx:Cx) (m':Nat)
include hE
theorem zst (u:Nat) {f f':Nd->Sw->Rr Int} (h:∀ x,I.Sm n Int (f x) (f' x)) (m at_:Int) (l:List Nd):I.Sm n Int (zsr E cx u f m at_ l) (zsr E' { cx with lim:=m' } u f' m at_ l):=
 I.bind n _ _ _ _ _ _ (zss I h l) (fun vs=>hE _ _ _)
theorem zv9 (u:Nat) (loc:List Int):∀ k x,I.Sm n Int (vN E cx u loc k x) (vN E' { cx with lim:=m' } u loc k x)
 | 0,x=>I.ok n _ 0
 | k + 1,x=>by
   have ih:=zv9 u loc k;refine I.pick (x.op=1) (I.ok n _ x.n) (I.pick (x.op=2) (I.next n) (I.pick (x.op=16) (I.ok n _ _) (I.pick (x.op=3) (I.get n _ fun d=>d.getD (z48 cx u x.m x.at_).toNat 0) (I.pick (x.op=4) ?_ (I.pick (x.op=5) (zst I hE cx m' u ih x.m x.at_ x.args) (I.pick (x.op=6) ?_ (I.pick (x.op=7) ?_ (I.pick (x.op=8) ?_ ?_))))))))
   . exact I.bind n _ _ _ _ _ _ (zv8 I (ih (argN x.args 0)) _ _) (fun p=>I.get n _ fun d=>d.getD p.toNat 0)
   . exact I.bind n _ _ _ _ _ _ (ih (argN x.args 0)) (fun v=>I.ok n _ _)
   . exact I.bind n _ _ _ _ _ _ (ih (argN x.args 0)) (fun v=>I.pick (v=0) (I.ok n _ 0) (I.bind n _ _ _ _ _ _ (ih (argN x.args 1)) (fun v=>I.ok n _ _)))
   . exact I.bind n _ _ _ _ _ _ (ih (argN x.args 0)) (fun v=>I.pick (v=0) (I.bind n _ _ _ _ _ _ (ih (argN x.args 1)) (fun v=>I.ok n _ _)) (I.ok n _ 1))
   . refine I.bind n _ _ _ _ _ _ (ih (argN x.args 0)) (fun a=>I.bind n _ _ _ _ _ _ (ih (argN x.args 1)) (fun b=>?_))
     cases ofS x.op a b with
     | none=>exact I.stop n _ 1 (by decide)
     | some v=>exact I.ok n _ v
omit hE in
theorem zl0 {f f':Ac->Fr->Sw->Rr (Bool × Fr)} (h:∀ a c,I.Sm n _ (f a c) (f' a c)):∀ l c,I.Sm n _ (bN f l c) (bN f' l c)
 | [],c=>I.ok n _ (false,c)
 | a :: r,c=>I.bind n _ _ _ _ _ _ (h a c) (fun d=>I.pick (d.1=true) (I.ok n _ (true,d.2)) (zl0 h r d.2))
theorem zsu {L L':Whl} (hL:∀ u x b c,I.Sm n _ (L u x b c) (L' u x b c)) (u:Nat):∀ k a c,I.Sm n _ (aN E L cx u k a c) (aN E' L' { cx with lim:=m' } u k a c)
 | 0,a,c=>I.ok n _ (false,c)
 | k+1,a,c=>by
   have ih:=zsu hL u k;have hv:=zv9 I hE cx m' u c.loc 6;refine I.pick (a.op=1) ?_ (I.pick (a.op=2) ?_ (I.pick (a.op=3) ?_ (I.pick (a.op=4) ?_ (I.pick (a.op=5) (hL u _ _ c) (I.pick (a.op=6) ?_ (I.pick (a.op=7) ?_ (I.ok n _ (false,c))))))))
   . exact I.bind n _ _ _ _ _ _ (hv (argN a.args 0)) (fun v=>I.pick (a.m = -1) (I.ok n _ _) (I.set n _ (z48 cx u a.m a.at_).toNat v (false,c)))
   . exact I.bind n _ _ _ _ _ _ (zv8 I (hv (argN a.args 0)) _ _) (fun p=>I.bind n _ _ _ _ _ _ (hv (argN a.args 1)) (fun v=>I.set n _ p.toNat v (false,c)))
   . exact I.bind n _ _ _ _ _ _ (zst I hE cx m' u hv a.m a.at_ a.args) (fun _=>I.ok n _ (false,c))
   . exact I.bind n _ _ _ _ _ _ (hv (argN a.args 0)) (fun v=>I.pick (v=0) (zl0 I ih a.other c) (zl0 I ih a.body c))
   . exact I.bind n _ _ _ _ _ _ (hv (argN a.args 0)) (fun v=>I.ok n _ _)
   . exact I.bind n _ _ _ _ _ _ (hv (argN a.args 0)) (fun v=>I.bind n _ _ _ _ _ _ (I.tell n v) (fun _=>I.ok n _ (false,c)))
end
structure Alike {lim lim':Nat} (I:Smi lim lim') (n:Nat) (r r':Lv):Prop where
 ent:∀ u b l,I.Sm n Int (r.ent u b l) (r'.ent u b l)
 whl:∀ u x b c,I.Sm n _ (r.whl u x b c) (r'.whl u x b c)
theorem zwa {lim lim':Nat} (I:Smi lim lim') {n:Nat} {r r':Lv} (h:Alike I n r r') (cx:Cx) (hc:cx.lim=lim) (u:Nat) (b:List Ac) (l:List Int):I.Sm (n+1) Int (zvv r cx u b l) (zvv r' { cx with lim:=lim' } u b l):=by
 subst hc;exact I.tick n _ _ _ (I.dip n _ _ (bN (aN r.ent r.whl cx u 6) b ⟨l,0⟩) (bN (aN r'.ent r'.whl { cx with lim:=lim' } u 6) b ⟨l,0⟩) (fun d=>d.2.ret) (zl0 I (zsu I h.ent cx lim' h.whl u 6) b ⟨l,0⟩))
theorem z25 {lim lim':Nat} (I:Smi lim lim') {n:Nat} {r r':Lv} (h:Alike I n r r') (cx:Cx) (hc:cx.lim=lim) {E E':zzk} (hE:∀ u b l,I.Sm (n+1) Int (E u b l) (E' u b l)) (u:Nat) (x:Nd) (b:List Ac) (c:Fr):I.Sm (n+1) _ (z24 r cx E u x b c) (z24 r' { cx with lim:=lim' } E' u x b c):=by
 subst hc;refine I.bind (n+1) _ _ _ _ _ _ (zv9 I hE cx lim' u c.loc 6 x) (fun v=>I.pick (v=0) (I.ok _ _ (false,c)) (I.tick n _ _ _ ?_));exact I.bind n _ _ _ _ _ _ (zl0 I (zsu I h.ent cx lim' h.whl u 6) b c) (fun d=>I.pick (d.1=true) (I.ok n _ (true,d.2)) (h.whl u x b d.2))
theorem zzx {lim lim':Nat} (I:Smi lim lim') {n:Nat} {r r':Lv} (h:Alike I n r r') (cx:Cx) (hc:cx.lim=lim):Alike I (n+1) ⟨zvv r cx,z24 r cx (zvv r cx)⟩ ⟨zvv r' { cx with lim:=lim' },z24 r' { cx with lim:=lim' } (zvv r' { cx with lim:=lim' })⟩:=
 ⟨zwa I h cx hc,z25 I h cx hc (zwa I h cx hc)⟩
def lvp (cx:Cx):Nat->Lv
 | 0=>lv0
 | k+1=>lv cx k
theorem z2d (cx:Cx):∀ t,lvp cx (t+1)=⟨zvv (lvp cx t) cx,z24 (lvp cx t) cx (zvv (lvp cx t) cx)⟩
 | 0=>rfl
 | _+1=>rfl
def Rr.st {α:Type}:Rr α->Sw
 | .ok _ s=>s
 | .stop _ s=>s
theorem zsv {lim:Nat} {s:Sw} (h:s.ticks=lim):ziw lim s = .stop 3 s:=if_pos h
theorem zwb {lim:Nat} {s:Sw} (h:s.ticks≠lim):ziw lim s = .ok () { s with ticks:=s.ticks+1 }:=if_neg h
def z26 (s t:Sw):Prop:=s.out <+: t.out/\t.data.length=s.data.length/\(s.out.length<=200->t.out.length<=200)/\s.ticks<=t.ticks
theorem z26.refl (s:Sw):z26 s s:=⟨List.prefix_refl _,rfl,id,vaa _⟩
theorem z26.trans {a b c:Sw} (h:z26 a b) (k:z26 b c):z26 a c:=⟨h.1.trans k.1,k.2.1.trans h.2.1,fun x=>k.2.2.1 (h.2.2.1 x),vbd h.2.2.2 k.2.2.2⟩
def Kp {α:Type} (F:Sw->Rr α):Prop:=∀ s,z26 s (F s).st
def Cq {α:Type} (F:Sw->Rr α):Prop:=∀ s a t,F s = .ok a t->t.calls=s.calls
def zzy (lim lim':Nat):Smi lim lim' where
 Sm:=fun _ _ _ F'=>Cq F'
 ok:=fun _ _ _ s a t h=>by cases h;rfl
 stop:=fun _ _ _ _ s a t h=>by cases h
 bind:=fun _ _ _ _ F' _ f' h1 h2 s a t h=>by
  have h:(F' s).bind f' = .ok a t:=h
  cases hr:F' s with
  | ok b u=>rw [hr] at h;exact (h2 b u a t h).trans (h1 s b u hr)
  | stop e u=>rw [hr] at h;cases h
 tick:=fun _ _ _ F' h1 s a t h=>by
  have h:(ziw lim' s).bind (fun _ s=>F' s) = .ok a t:=h
  by_cases hl:s.ticks=lim'
  . rw [zsv hl] at h;cases h
  . rw [zwb hl] at h;exact h1 { s with ticks:=s.ticks+1 } a t h
 next:=fun _ s a t h=>by
  unfold zm9 at h
  split at h<;>(cases h;rfl)
 tell:=fun _ v s a t h=>by
  unfold zqt at h
  split at h
  . cases h
  . cases h;rfl
 get:=fun _ _ _ s a t h=>by cases h;rfl
 set:=fun _ _ _ _ _ s a t h=>by cases h;rfl
 dip:=fun _ _ _ _ F' g h1 s a t h=>by
  have h:(if s.calls=24 then Rr.stop 4 s else (F' { s with calls:=s.calls+1 }).bind fun a s=>.ok (g a) { s with calls:=s.calls - 1 }) = .ok a t:=h
  split at h
  . cases h
  . cases hr:F' { s with calls:=s.calls+1 } with
    | stop e u=>rw [hr] at h;cases h
    | ok b u=>
      rw [hr] at h;have:=h1 _ b u hr;cases h;show u.calls - 1=s.calls;rw [this];show s.calls+1 - 1=s.calls;omega
theorem zna (cx:Cx):∀ t,Alike (zzy cx.lim cx.lim) 0 (lvp cx t) (lvp cx t)
 | 0=>⟨fun _ _ _ s a t h=>(by cases h),fun _ _ _ _ s a t h=>(by cases h)⟩
 | t+1=>by
   have ih:=zna cx t;have:=zzx (zzy cx.lim cx.lim) ih cx rfl;rw [z2d];exact ⟨this.ent,this.whl⟩
end Go.Proofs.YtndkhgakfodldaaGreatDoor
