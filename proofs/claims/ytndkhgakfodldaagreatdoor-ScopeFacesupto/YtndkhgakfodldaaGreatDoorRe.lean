/-
  The document's look at statements and blocks.
-/
import Derived.Test.YtndkhgakfodldaaGreatDoorRc
import Derived.Test.YtndkhgakfodldaaGreatDoorRde
import Derived.Test.YtndkhgakfodldaaGreatDoorRdf
import Derived.Test.YtndkhgakfodldaaGreatDoorRdg
namespace Go.Proofs.YtndkhgakfodldaaGreatDoor
set_option maxRecDepth 100000
set_option maxHeartbeats 800000
open Go.RowKit Go.Maps
def BHolds (A:Nat->Prop) (lv:Int) (k:Nat) (deep:Int):Prop:=∀ (l:List St) (a:Option Addr) (cap:Nat) (w:World),DAt w A a l.length (stsD l)->Calls Tryz.prog 156 #[.slice a l.length cap,.int .i64 lv,.int .i64 deep] w fun e w'=>e = .returned (.bool (bL lv k l))/\Below w.heap.size w w'
theorem stmtLook_of (A:Nat->Prop) (k:Nat) (lv:Int) (hlv:lv=1\/lv=2\/lv=3) (s:St) (aa ab ac:Option Addr) (cap cab cac:Nat) (deep:Int) (w:World) (hd1:1<=deep) (hd6:deep<=6) (HI:BHolds A lv k (deep+1))
 (h1:DAt w A aa s.args.length (exsD s.args)) (h2:DAt w A ab s.body.length (stsD s.body)) (h3:DAt w A ac s.other.length (stsD s.other)) (wm:s.mod.size<=maxLen) (wn:s.name.size<=maxLen) :
 Calls Tryz.prog 191 #[.agg #[.int .i64 s.op,.string s.mod,.string s.name,.slice aa s.args.length cap,.slice ab s.body.length cab,.slice ac s.other.length cac],.int .i64 lv,.int .i64 deep] w fun e w'=>e = .returned (.bool (sL lv k s))/\Below w.heap.size w w':=by
 obtain ⟨op,mod,name,l,bd,ot⟩:=s;simp only [St.op,St.mod,St.name,St.args,St.body,St.other] at h1 h2 h3 wm wn ⊢
 rcases hlv with rfl | rfl | rfl
 . exact stmtStep1 A k op mod name l bd ot aa ab ac cap cab cac deep w h1.bound hd1 hd6 HI h1 h2 h3 wm wn
 . exact stmtStep2 A k op mod name l bd ot aa ab ac cap cab cac deep w h1.bound hd1 hd6 HI h1 h2 h3 wm wn
 . cases hR:inB op 1 3 with
   | false=>
     cases hm:mod.toList.isEmpty with
     | false=>exact stmtStep3a A k op mod name l bd ot aa ab ac cap cab cac deep w h1.bound hd1 hd6 HI h1 h2 h3 wm wn hR (Or.inl hm)
     | true=>
       cases hn:name.toList.isEmpty with
       | false=>exact stmtStep3a A k op mod name l bd ot aa ab ac cap cab cac deep w h1.bound hd1 hd6 HI h1 h2 h3 wm wn hR (Or.inr ⟨hm,hn⟩)
       | true=>exact stmtStep3b A k op mod name l bd ot aa ab ac cap cab cac deep w h1.bound hd1 hd6 HI h1 h2 h3 wm wn hR hm hn
   | true=>
     cases hf:fineB mod name with
     | false=>exact stmtStep3c A k op mod name l bd ot aa ab ac cap cab cac deep w h1.bound hd1 hd6 HI h1 h2 h3 wm wn hR hf
     | true=>
       cases h0:decide (0<=stN op) with
       | false=>exact stmtStep3d A k op mod name l bd ot aa ab ac cap cab cac deep w h1.bound hd1 hd6 HI h1 h2 h3 wm wn hR hf h0
       | true=>exact stmtStep3e A k op mod name l bd ot aa ab ac cap cab cac deep w h1.bound hd1 hd6 HI h1 h2 h3 wm wn hR hf h0
theorem blockLook_any (A:Nat->Prop) (lv:Int) (hlv:lv=1\/lv=2\/lv=3):∀ (k:Nat),k<=6->∀ (deep:Int),deep=7 - (k:Int)->BHolds A lv k deep
 | 0,_,deep,hd=>by
   intro l a cap w hD;subst hd
   have HR:Hid (bL lv 0 l=(lv == 2)):=by show _=_;simp [bL]
   clear hD;go_enter Tryz.func156,Tryz.ntmps156;go_wp2_with fail;go_ret;exact ⟨ret_bool HR.out.symm,Below.refl _ _⟩
 | k + 1, hk,deep,hd=>by
   intro l a cap w hD;have hbd:=hD.bound
   have hd1:1<=deep:=by omega
   have hd6:deep<=6:=by omega
   have HI:Hid (BHolds A lv k (deep+1)):=blockLook_any A lv hlv k (by omega) (deep+1) (by omega);have HD:Hid (DAt w A a l.length (stsD l)):=hD
   have HR:Hid (∀ {b:Bool},((lv == 2&&decide (10<l.length))||l.any (sL lv k))=b->b=bL lv (k+1) l):=fun h=>by rw [← h,bL_succ]
   have HL:=hid hlv;clear hD hd hlv
   cases h2:(lv == 2) with
   | true =>
     by_cases h10:10<l.length
     . go_enter Tryz.func156,Tryz.ntmps156
       go_wp2_with fail;go_ret;exact ⟨ret_bool (HR.out (by simp [h2,h10])),Below.refl _ _⟩
     . have HQ:Hid ((lv == 2&&decide (10<l.length))=false):=by show _=_;simp [h10]
       go_enter Tryz.func156,Tryz.ntmps156;go_wp2_with fail
       go_loopw [7] (fun i wr=>∃ j:Nat,j<=l.length/\i = .int .i64 j/\(l.take j).any (sL lv k)=false/\Below w.heap.size w wr) (fun i _=>l.length - (intOf i).toNat)
       case atStart=>exact ⟨0,Nat.zero_le _,rfl,rfl,Below.refl _ _⟩
       case round=>
        obtain ⟨j,hj,rfl,hall,hb⟩:=hrel;have HA:Hid ((l.take j).any (sL lv k)=false):=hall;clear hall
        by_cases hlt:j<l.length
        . obtain ⟨b,off,a1,c1,a2,c2,a3,c3,rfl,hx⟩:=(HD.out.later hb).st j hlt
          have hc0:=hx.c0;have hc1:=hx.c1;have hc2:=hx.c2;have hc3:=hx.c3;have hc4:=hx.c4;have hc5:=hx.c5;have hlb:=hx.lt;have HX:Hid (StAt wr A b (off+j*6) l[j] a1 c1 a2 c2 a3 c3):=hx;clear hx;go_wp2_with fail;refine (stmtLook_of A k lv HL.out l[j] a1 a2 a3 c1 c2 c3 deep _ hd1 hd6 HI.out HX.out.args HX.out.body HX.out.other HX.out.wm HX.out.wna).mono ?_
          cases hr:sL lv k l[j] with
          | true=>
            have HF:Hid (l.any (sL lv k)=true):=any_at l _ j hlt hr;rintro e w3 ⟨rfl,hb3⟩;go_wp2_with fail;go_ret;exact ⟨ret_bool (HR.out (by rw [HF.out];simp)),thenB hb hb3⟩
          | false=>
            have HT:Hid ((l.take (j+1)).any (sL lv k)=false):=by
             show _=_
             rw [any_snoc l _ j hlt,HA.out,hr];rfl
            rintro e w3 ⟨rfl,hb3⟩;go_wp2_with fail;go_roundw
            case rel=>exact ⟨j+1,by omega,by go_num,HT.out,thenB hb hb3⟩
            case measure=>simp [intOf];omega
        . have HT:Hid (l.any (sL lv k)=false):=any_end HA.out hlt
          go_wp2_with fail;go_ret;exact ⟨ret_bool (HR.out (by rw [HT.out,HQ.out];rfl)),hb⟩
   | false =>
     have HQ:Hid ((lv == 2&&decide (10<l.length))=false):=by show _=_;simp [h2]
     go_enter Tryz.func156,Tryz.ntmps156;go_wp2_with fail
     go_loopw [7] (fun i wr=>∃ j:Nat,j<=l.length/\i = .int .i64 j/\(l.take j).any (sL lv k)=false/\Below w.heap.size w wr) (fun i _=>l.length - (intOf i).toNat)
     case atStart=>exact ⟨0,Nat.zero_le _,rfl,rfl,Below.refl _ _⟩
     case round=>
      obtain ⟨j,hj,rfl,hall,hb⟩:=hrel;have HA:Hid ((l.take j).any (sL lv k)=false):=hall;clear hall
      by_cases hlt:j<l.length
      . obtain ⟨b,off,a1,c1,a2,c2,a3,c3,rfl,hx⟩:=(HD.out.later hb).st j hlt
        have hc0:=hx.c0;have hc1:=hx.c1;have hc2:=hx.c2;have hc3:=hx.c3;have hc4:=hx.c4;have hc5:=hx.c5;have hlb:=hx.lt;have HX:Hid (StAt wr A b (off+j*6) l[j] a1 c1 a2 c2 a3 c3):=hx;clear hx;go_wp2_with fail;refine (stmtLook_of A k lv HL.out l[j] a1 a2 a3 c1 c2 c3 deep _ hd1 hd6 HI.out HX.out.args HX.out.body HX.out.other HX.out.wm HX.out.wna).mono ?_
        cases hr:sL lv k l[j] with
        | true=>
          have HF:Hid (l.any (sL lv k)=true):=any_at l _ j hlt hr;rintro e w3 ⟨rfl,hb3⟩;go_wp2_with fail;go_ret;exact ⟨ret_bool (HR.out (by rw [HF.out];simp)),thenB hb hb3⟩
        | false=>
          have HT:Hid ((l.take (j+1)).any (sL lv k)=false):=by
           show _=_
           rw [any_snoc l _ j hlt,HA.out,hr];rfl
          rintro e w3 ⟨rfl,hb3⟩;go_wp2_with fail;go_roundw
          case rel=>exact ⟨j+1,by omega,by go_num,HT.out,thenB hb hb3⟩
          case measure=>simp [intOf];omega
      . have HT:Hid (l.any (sL lv k)=false):=any_end HA.out hlt
        go_wp2_with fail;go_ret;exact ⟨ret_bool (HR.out (by rw [HT.out,HQ.out];rfl)),hb⟩
end Go.Proofs.YtndkhgakfodldaaGreatDoor

namespace Go.Proofs.YtndkhgakfodldaaGreatDoor
open Go.RowKit Go.Maps
theorem Tryz.infoStr:(Tryz.prog.info? 9).map (fun i=>(i.zero,i.size,i.bytes))=some (some (.string .empty),1,16):=by kernel_rfl
abbrev SOwn (w:World) (base:Nat) (v:Value) (xs:List ByteArray):Prop:=w.ownsRow base 9 1 v xs.length (xs.map .string)
theorem run_app (w:World) (base:Nat) (ty:TypeId) (v:Value) (xs:List ByteArray) (hown:SOwn w base v xs) (a:Option Addr) (cap:Nat) (ys:List ByteArray) (hD:DAt w Tt a ys.length (strsD ys)) (hb:xs.length+ys.length<=4194304) (hbase:base<=w.heap.size) :
 ∃ v' w',(Builtin.append_ #[22,22] ty #[v,.slice a ys.length cap]).run Tryz.prog w = .ok v' w'/\SOwn w' base v' (xs++ys)/\w.grownBy w' v.ownBlock:=by
 obtain ⟨i0,hi,hz0,hz1,hz2⟩:=info_parts Tryz.infoStr
 have key:∀ ad:Addr,(∀ j (h:j<ys.length),w.cell? (ad.add j)=some (.string ys[j]))->∃ v' w',(Builtin.append_ #[22,22] ty #[v,.slice (some ad) ys.length cap]).run Tryz.prog w = .ok v' w'/\SOwn w' base v' (xs++ys)/\w.grownBy w' v.ownBlock:=by
  intro ad hc
  obtain ⟨v',w',hr,h2,h3,_⟩:=run_append_own_at (P:=Tryz.prog) w base 22 ty 9 i0 (.string .empty) 1 16 Tryz.underlying22 hi hz0 hz1 hz2 rfl (by omega) v xs.length _ hown ad ys.length cap (ys.map .string) (by simp)
   (fun j u hu=>by
     rw [List.getElem?_map] at hu;obtain ⟨s,hs,rfl⟩:=Option.map_eq_some_iff.1 hu;obtain ⟨hj,rfl⟩:=List.getElem?_eq_some_iff.1 hs
     exact hc j hj)
   (fun u hu=>by obtain ⟨s,_,rfl⟩:=List.mem_map.1 hu;rfl) (by simp only [maxLen];omega) (by omega) hbase
  refine ⟨v',w',hr,?_,h3⟩;unfold SOwn;rw [List.map_append,List.length_append];exact h2
 by_cases h0:0<ys.length
 . obtain ⟨b,off,rfl,_,_⟩:=hD.str 0 h0
   exact key ⟨b,off,none⟩ (fun j h=>by
    obtain ⟨b',off',e,_,hc,_⟩:=hD.str j h
    cases e
    rw [show (⟨b,off,none⟩:Addr).add j=⟨b,off+j,none⟩ from by unfold Addr.add;split<;>simp_all]
    exact hc)
 . have hy:ys=[]:=List.eq_nil_of_length_eq_zero (by omega)
   subst hy
   cases a with
   | some ad=>exact key ad (fun j h=>by simp at h)
   | none=>
     refine ⟨v,w,?_,by rw [List.append_nil];exact hown,⟨rfl,rfl,rfl,Nat.le_refl _,fun _ _ _=>rfl⟩⟩
     rcases hown.2 with ⟨rfl,_⟩ | ⟨g,cp,cur,rfl,_,hg,hn,_⟩
     . simp [Builtin.append_,run_underlying Tryz.underlying22,sizeOf,typeInfo,hi,Builtin.lenOf,Builtin.firstCells]
     . simp [Builtin.append_,run_underlying Tryz.underlying22,sizeOf,typeInfo,hi,Builtin.lenOf,Builtin.firstCells,loadCells,storeCells,hn]
theorem SOwn.cell {w:World} {base:Nat} {v:Value} {xs:List ByteArray} (h:SOwn w base v xs):∃ a cap,v = .slice a xs.length cap/\∀ j (hj:j<xs.length),∃ b,a=some ⟨b,0,none⟩/\b<w.heap.size/\w.cell? ⟨b,j,none⟩=some (.string xs[j]):=by
 obtain ⟨hl,h⟩:=h
 rcases h with ⟨rfl,h0⟩ | ⟨g,cap,cur,rfl,hb,hg,h1,h2,h3,h4⟩
 . exact ⟨none,0,by rw [h0],fun j hj=>by omega⟩
 . refine ⟨some ⟨g,0,none⟩,cap,rfl,fun j hj=>⟨g,rfl,Nat.lt_of_not_le (fun hle=>by rw [Array.getElem?_eq_none hle] at hg;cases hg),?_⟩⟩
   rw [Lib.cell_of_heap hg];have:=congrArg (fun l=>l[j]?) h4;simp only [Nat.mul_one] at this;rw [List.getElem?_take,if_pos hj,List.getElem?_map,List.getElem?_eq_getElem hj] at this;simpa using this
theorem step_append_run {P:Program} {ops:Array Oper} {o:Oper} {a:Act} {w w':World} {K:Act->World->Prop} {Q:Exit->Act->World->Prop} {E:Prop} (hgd:o.guard=none) (s x:Operand) (t:TypeId)
 (ho:o.op = .call { callee:=.builtin .append,args:=#[s,x],argTypes:=#[t,t] }) (v1 v2 v':Value) (hs:a.eval s=v1) (hx:a.eval x=v2)
 (hr:(Builtin.append_ #[t,t] o.type #[v1,v2]).run P w = .ok v' w') (h:K (a.put o.dst v') w') :
 if Region.wanted o (yielded ops a.tmps)=true then Oper.wp P o a w K Q else E:=by
 have hw:Region.wanted o (yielded ops a.tmps)=true:=by simp [Region.wanted,hgd]
 rw [if_pos hw];unfold Oper.wp execOp;simp only [ho,resolve,invoke,builtin,Sem.run_bind,Sem.run_pure,Result.andThen_ok,List.map_toArray,List.map_cons,List.map_nil,hs,hx,hr];exact h
end Go.Proofs.YtndkhgakfodldaaGreatDoor

namespace Go.Proofs.YtndkhgakfodldaaGreatDoor
open Go.RowKit Go.Maps
def nB (s:ByteArray):Bool:=!nameOk s
def dB1 (d:De):Bool:=!inB d.kind 1 3
def dB3 (d:De):Bool:=!nameOk d.name||((d.kind == 1 && !inB d.n 0 1099511627775)||((d.kind == 2&&d.n != 0)||(d.kind == 3 && !inB d.n 1 32)))
def pB1 (p:Pr):Bool:=bL 1 6 p.body
def pB2 (p:Pr):Bool:=(decide (3<p.params.length)||decide (4<p.locals.length))||bL 2 6 p.body
def pB3 (p:Pr):Bool:=!nameOk p.name||(bL 3 6 p.body||(p.params++p.locals).any nB)
def mL1 (m:Mo):Bool:=(m.decls.any dB1||(m.procs.any pB1||bL 1 6 m.main))
def mL2 (m:Mo):Bool:=((decide (3<m.uses.length)||(decide (10<m.decls.length)||decide (6<m.procs.length)))||(m.procs.any pB2||bL 2 6 m.main))
def mL3 (m:Mo):Bool:=(!nameOk m.name||(m.uses.any nB||(m.decls.any dB3||(m.procs.any pB3||bL 3 6 m.main))))
def Small (m:Mo):Prop:=∀ p ∈ m.procs,p.params.length<=1048576/\p.locals.length<=1048576
theorem Blk.c4 {w:World} {b:Nat} {u0 u1 u2 u3:Value} (h:Blk w b [u0,u1,u2,u3]):w.cell? ⟨b,0,none⟩=some u0/\w.cell? ⟨b,1,none⟩=some u1/\w.cell? ⟨b,2,none⟩=some u2/\w.cell? ⟨b,3,none⟩=some u3/\b<w.heap.size:=
 ⟨h.cell 0 _ rfl,h.cell 1 _ rfl,h.cell 2 _ rfl,h.cell 3 _ rfl,h.lt⟩
theorem names_two (w:World) (ps ls:List ByteArray) (a5 a6:Option Addr) (c5 c6:Nat) (h5:DAt w Tt a5 ps.length (strsD ps)) (h6:DAt w Tt a6 ls.length (strsD ls)) (hp:ps.length<=1048576) (hl:ls.length<=1048576) :
 ∃ v1 w5 a cap w6,(Builtin.append_ #[22,22] 22 #[.slice (some ⟨w.heap.size,0,none⟩) 0 0,.slice a5 ps.length c5]).run Tryz.prog (w.drew.alloc (.cells #[] 9)) = .ok v1 w5/\Below w.heap.size w w5/\
   (Builtin.append_ #[22,22] 22 #[v1,.slice a6 ls.length c6]).run Tryz.prog w5 = .ok (.slice a (ps++ls).length cap) w6/\Below w.heap.size w w6/\
   ∀ j (hj:j<(ps++ls).length),∃ b,a=some ⟨b,0,none⟩/\b<w6.heap.size/\w6.cell? ⟨b,j,none⟩=some (.string (ps++ls)[j]):=by
 have hB0:Below w.heap.size w (w.drew.alloc (.cells #[] 9)):=((Below.refl _ _).drew).alloc (by simp) _
 have hown:SOwn (w.drew.alloc (.cells #[] 9)) w.heap.size (.slice (some ⟨w.heap.size,0,none⟩) 0 0) []:=
  ⟨rfl,Or.inr ⟨w.heap.size,0,#[],rfl,Nat.le_refl _,heap_new w.drew _,Nat.le_refl _,by simp [maxLen],rfl,rfl⟩⟩
 obtain ⟨v1,w5,hr1,ho1,hg1⟩:=run_app _ w.heap.size 22 _ [] hown a5 c5 ps (h5.later hB0) (by simp;omega) (by simp);have hB5:Below w.heap.size w w5:=hB0.grown hg1 (by simp) (fun k hk=>by simp [Value.ownBlock] at hk;omega)
 have hk1:∀ k,v1.ownBlock=some k->w.heap.size<=k:=by
  intro k hk
  rcases ho1.2 with ⟨rfl,_⟩ | ⟨g,cap,cur,rfl,hb,_⟩
  . simp [Value.ownBlock] at hk
  . simp [Value.ownBlock] at hk;omega
 obtain ⟨v2,w6,hr2,ho2,hg2⟩:=run_app w5 w.heap.size 22 v1 ([]++ps) ho1 a6 c6 ls (h6.later hB5) (by simp;omega) hB5.size;have hB6:Below w.heap.size w w6:=hB5.grown hg2 hB5.size hk1;rw [List.nil_append] at ho2;obtain ⟨a,cap,rfl,hc⟩:=ho2.cell;exact ⟨v1,w5,a,cap,w6,hr1,hB5,hr2,hB6,hc⟩
end Go.Proofs.YtndkhgakfodldaaGreatDoor

namespace Go.Proofs.YtndkhgakfodldaaGreatDoor
open Go.RowKit Go.Maps
theorem any_congr {α:Type} {l:List α} {p q:α->Bool} (h:∀ x ∈ l,p x=q x):l.any p=l.any q:=by
 induction l with
 | nil=>rfl
 | cons x r ih=>rw [List.any_cons,List.any_cons,h x (by simp),ih (fun y hy=>h y (by simp [hy]))]
theorem any_all_not {α:Type} {l:List α} {p q:α->Bool} (h:∀ x ∈ l,p x = !q x):l.any p = !l.all q:=by
 induction l with
 | nil=>rfl
 | cons x r ih=>rw [List.any_cons,List.all_cons,h x (by simp),ih (fun y hy=>h y (by simp [hy])),Bool.not_and]
theorem exB_in (op:Int):exB op=inB op 1 15:=by
 unfold exB exSh inB
 by_cases h:1<=op/\op<=15
 . have h1:op=1\/op=2\/op=3\/op=4\/op=5\/op=6\/(7<=op/\op<=15):=by omega
   rcases h1 with rfl | rfl | rfl | rfl | rfl | rfl | h1
   all_goals first | rfl | skip
   rw [if_neg (by omega),if_neg (by omega),if_neg (by omega),if_neg (by omega),if_neg (by omega),if_neg (by omega),if_pos h1];simp [h.1,h.2]
 . rw [if_neg (by omega),if_neg (by omega),if_neg (by omega),if_neg (by omega),if_neg (by omega),if_neg (by omega),if_neg (by omega)]
   have:¬ (1<=op/\op<=15):=h
   simp;omega
theorem stB_in (op:Int):stB op=inB op 1 7:=by
 unfold stB stSh inB
 by_cases h:1<=op/\op<=7
 . have h1:op=1\/op=2\/op=3\/op=4\/op=5\/op=6\/op=7:=by omega
   rcases h1 with rfl | rfl | rfl | rfl | rfl | rfl | rfl<;>rfl
 . rw [if_neg (by omega),if_neg (by omega),if_neg (by omega),if_neg (by omega),if_neg (by omega),if_neg (by omega),if_neg (by omega)]
   simp;omega
theorem eL_kinds:∀ (k:Nat) (l:List Ex),l.any (eL 1 k) = !exKinds k l
 | 0,l=>by
   simp only [exKinds,Bool.not_true];rw [List.any_eq_false];intro x _;simp [eL]
 | k+1,l=>by
   unfold exKinds
   refine any_all_not fun x _=>?_
   show (eBad 1 x||x.args.any (eL 1 k))=_;rw [eL_kinds k x.args,exB_in,Bool.not_and]
   rfl
theorem eL_many:∀ (k:Nat) (l:List Ex),(decide (3<l.length)||l.any (eL 2 k))=exMany k l
 | 0,l=>by
   unfold exMany
   cases l with
   | nil=>rfl
   | cons x r=>simp [eL]
 | k+1,l=>by
   unfold exMany
   congr 1
   refine any_congr fun x _=>?_
   show (eBad 2 x||x.args.any (eL 2 k))=_;rw [← eL_many k x.args]
   rfl
theorem ops_of (op:Int) (h:inB op 1 15=true):op=1\/op=2\/op=3\/op=4\/op=5\/op=6\/(7<=op/\op<=15):=by
 simp [inB] at h;omega
theorem fine_eq (mod name:ByteArray):fineB mod name=(nameOk name&&(decide (mod.size=0)||nameOk mod)):=by
 unfold fineB;rw [empty_size,Bool.and_comm]
theorem exS_two {op:Int} (h1:7<=op) (h2:op<=15):exS op=⟨false,false,2,2,false,false⟩:=by
 unfold exS exSh;rw [if_neg (by omega),if_neg (by omega),if_neg (by omega),if_neg (by omega),if_neg (by omega),if_neg (by omega),if_pos ⟨h1,h2⟩]
 rfl
theorem count_same (nm nb bd ot:Bool) (a:Int) (k:Nat):countOk ⟨nm,nb,a,a,bd,ot⟩ k=((k:Int) == a):=by
 unfold countOk;rw [Bool.eq_iff_iff];simp;omega
theorem nOk_no (nm bd ot:Bool) (a b:Int) (n:Int):nOk ⟨nm,false,a,b,bd,ot⟩ n=(n == 0):=by
 unfold nOk;rw [Bool.eq_iff_iff];simp
theorem nOk_yes (nm bd ot:Bool) (a b:Int) (n:Int):nOk ⟨nm,true,a,b,bd,ot⟩ n=inB n 0 1099511627775:=rfl
theorem refOk_no (nb bd ot:Bool) (a b:Int) (mod name:ByteArray):refOk ⟨false,nb,a,b,bd,ot⟩ mod name=(decide (mod.size=0)&&decide (name.size=0)):=rfl
theorem refOk_yes (nb bd ot:Bool) (a b:Int) (mod name:ByteArray):refOk ⟨true,nb,a,b,bd,ot⟩ mod name=(nameOk name&&(decide (mod.size=0)||nameOk mod)):=rfl
theorem c3_form (x:Ex) (hk:inB x.op 1 15=true) (hm:x.args.length<=3):c3 x = !(refOk (exS x.op) x.mod x.name&&(nOk (exS x.op) x.n&&countOk (exS x.op) x.args.length)):=by
 obtain ⟨op,n,mod,name,l⟩:=x;simp only [Ex.op,Ex.n,Ex.mod,Ex.name,Ex.args] at hk hm ⊢;have h:=ops_of op hk;unfold c3;simp only [Ex.op,Ex.n,Ex.mod,Ex.name,Ex.args];rw [fine_eq,empty_size,empty_size];generalize hF:(nameOk name&&(decide (mod.size=0)||nameOk mod))=F
 rcases h with rfl | rfl | rfl | rfl | rfl | rfl | ⟨h1,h2⟩
 . simp only [show inB 1 3 5=false from rfl,show exN 1=0 from rfl,show exS 1=(⟨false,true,0,0,false,false⟩:Sh) from rfl,show ((1:Int) == 1)=true from rfl,bne,refOk_no,nOk_yes,count_same]
   cases F<;>cases decide (mod.size=0)<;>cases decide (name.size=0)<;>cases inB n 0 1099511627775<;>cases (n == 0)<;>cases ((l.length:Int) == 0)<;>rfl
 . simp only [show inB 2 3 5=false from rfl,show exN 2=0 from rfl,show exS 2=(⟨false,false,0,0,false,false⟩:Sh) from rfl,show ((2:Int) == 1)=false from rfl,bne,refOk_no,nOk_no,count_same]
   cases F<;>cases decide (mod.size=0)<;>cases decide (name.size=0)<;>cases inB n 0 1099511627775<;>cases (n == 0)<;>cases ((l.length:Int) == 0)<;>rfl
 . simp only [show inB 3 3 5=true from rfl,show exN 3=0 from rfl,show exS 3=(⟨true,false,0,0,false,false⟩:Sh) from rfl,show ((3:Int) == 1)=false from rfl,bne,refOk_yes,nOk_no,count_same,hF]
   cases F<;>cases decide (mod.size=0)<;>cases decide (name.size=0)<;>cases inB n 0 1099511627775<;>cases (n == 0)<;>cases ((l.length:Int) == 0)<;>rfl
 . simp only [show inB 4 3 5=true from rfl,show exN 4=1 from rfl,show exS 4=(⟨true,false,1,1,false,false⟩:Sh) from rfl,show ((4:Int) == 1)=false from rfl,bne,refOk_yes,nOk_no,count_same,hF]
   cases F<;>cases decide (mod.size=0)<;>cases decide (name.size=0)<;>cases inB n 0 1099511627775<;>cases (n == 0)<;>cases ((l.length:Int) == 1)<;>rfl
 . have hc:countOk ⟨true,false,0,3,false,false⟩ l.length=true:=by simp [countOk];omega
   simp only [show inB 5 3 5=true from rfl,show exN 5 = -1 from rfl,show exS 5=(⟨true,false,0,3,false,false⟩:Sh) from rfl,show ((5:Int) == 1)=false from rfl,bne,refOk_yes,nOk_no,hc,hF]
   cases F<;>cases decide (mod.size=0)<;>cases decide (name.size=0)<;>cases (n == 0)<;>rfl
 . simp only [show inB 6 3 5=false from rfl,show exN 6=1 from rfl,show exS 6=(⟨false,false,1,1,false,false⟩:Sh) from rfl,show ((6:Int) == 1)=false from rfl,bne,refOk_no,nOk_no,count_same]
   cases F<;>cases decide (mod.size=0)<;>cases decide (name.size=0)<;>cases inB n 0 1099511627775<;>cases (n == 0)<;>cases ((l.length:Int) == 1)<;>rfl
 . have e1:inB op 3 5=false:=by unfold inB;rw [Bool.and_eq_false_iff];right;simp;omega
   have e2:exN op=2:=by unfold exN;rw [if_neg (by omega),if_neg (by omega),if_neg (by omega)]
   have e3:(op == 1)=false:=beq_eq_false_iff_ne.2 (by omega);simp only [e1,e2,exS_two h1 h2,e3,bne,refOk_no,nOk_no,count_same]
   cases decide (mod.size=0)<;>cases decide (name.size=0)<;>cases (n == 0)<;>cases ((l.length:Int) == 2)<;>rfl
theorem eL_form:∀ (k:Nat) (l:List Ex),exKinds k l=true->exMany k l=false->l.any (eL 3 k) = !exForm k l
 | 0,l,_,_=>by
   simp only [exForm,Bool.not_true];rw [List.any_eq_false];intro x _;simp [eL]
 | k+1,l,hk,hm=>by
   unfold exForm;unfold exKinds at hk;unfold exMany at hm;rw [Bool.or_eq_false_iff] at hm
   refine any_all_not fun x hx=>?_
   have h1:=List.all_eq_true.1 hk x hx;rw [Bool.and_eq_true] at h1;have h2:=List.any_eq_false.1 hm.2 x hx
   have h2':exMany k x.args=false:=by simpa using h2
   have h3:x.args.length<=3:=by
    rcases Nat.lt_or_ge 3 x.args.length with h | h
    . exfalso
      cases k with
      | zero=>simp [exMany] at h2';rw [h2'] at h;simp at h
      | succ k=>simp [exMany] at h2';omega
    . exact h
   show (eBad 3 x||x.args.any (eL 3 k))=_;rw [eL_form k x.args h1.2 h2'];have hb:eBad 3 x=c3 x:=rfl;rw [hb,c3_form x (by rw [← exB_in];exact h1.1) h3]
   cases refOk (exS x.op) x.mod x.name<;>cases nOk (exS x.op) x.n<;>cases countOk (exS x.op) x.args.length<;>cases exForm k x.args<;>rfl
end Go.Proofs.YtndkhgakfodldaaGreatDoor

namespace Go.Proofs.YtndkhgakfodldaaGreatDoor
open Go.RowKit Go.Maps
theorem stS_body (op:Int):(stS op).body=(op == 4||op == 5):=by
 by_cases h:1<=op/\op<=7
 . have h1:op=1\/op=2\/op=3\/op=4\/op=5\/op=6\/op=7:=by omega
   rcases h1 with rfl | rfl | rfl | rfl | rfl | rfl | rfl<;>rfl
 . have e1:(op == 4)=false:=beq_eq_false_iff_ne.2 (by omega)
   have e2:(op == 5)=false:=beq_eq_false_iff_ne.2 (by omega);unfold stS stSh;rw [e1,e2,if_neg (by omega),if_neg (by omega),if_neg (by omega),if_neg (by omega),if_neg (by omega),if_neg (by omega),if_neg (by omega)]
   rfl
theorem stK_nil (k:Nat):stKinds k []=true:=by cases k<;>simp [stKinds]
theorem stF_nil (k:Nat):stForm k []=true:=by cases k<;>simp [stForm]
theorem nil_of {α:Type} {l:List α} (h:decide (0<l.length)=false):l=[]:=List.eq_nil_of_length_eq_zero (by simpa using h)
theorem bL_kinds:∀ (k:Nat) (l:List St),bL 1 k l = !stKinds k l
 | 0,l=>by simp [bL,stKinds]
 | k + 1,l=>by
   rw [bL_succ];unfold stKinds;rw [show ((1:Int) == 2)=false from rfl,Bool.false_and,Bool.false_or]
   refine any_all_not fun s _=>?_
   unfold sL;rw [show sBad 1 s = !inB s.op 1 7 from rfl,eL_kinds 6 s.args,bL_kinds k s.body,bL_kinds k s.other,stB_in]
   cases hb:decide (0<s.body.length) with
   | true=>
     cases ho:decide (0<s.other.length) with
     | true=>cases inB s.op 1 7<;>cases exKinds 6 s.args<;>cases stKinds k s.body<;>cases stKinds k s.other<;>cases (s.op == 4||s.op == 5)<;>rfl
     | false=>
       rw [nil_of ho,stK_nil]
       cases inB s.op 1 7<;>cases exKinds 6 s.args<;>cases stKinds k s.body<;>cases (s.op == 4||s.op == 5)<;>rfl
   | false=>
     rw [nil_of hb,stK_nil]
     cases ho:decide (0<s.other.length) with
     | true=>cases inB s.op 1 7<;>cases exKinds 6 s.args<;>cases stKinds k s.other<;>cases (s.op == 4||s.op == 5)<;>rfl
     | false=>
       rw [nil_of ho,stK_nil]
       cases inB s.op 1 7<;>cases exKinds 6 s.args<;>cases (s.op == 4||s.op == 5)<;>rfl
theorem bL_many:∀ (k:Nat) (l:List St),bL 2 k l=stMany k l
 | 0,l=>by simp [bL,stMany]
 | k+1,l=>by
   rw [bL_succ];unfold stMany;rw [show ((2:Int) == 2)=true from rfl,Bool.true_and]
   congr 1
   refine any_congr fun s _=>?_
   unfold sL;rw [show sBad 2 s=decide (3<s.args.length) from rfl,← eL_many 6 s.args,bL_many k s.body,bL_many k s.other,stS_body,Bool.or_assoc (decide (3<s.args.length)) (s.args.any (eL 2 6)) _]
theorem pos_dec {α:Type} (l:List α):decide (0<l.length) = !decide (l.length=0):=by cases l<;>simp
theorem s3_form (s:St) (hk:inB s.op 1 7=true) (hm:s.args.length<=3):s3 s = !(refOk (stS s.op) s.mod s.name&&(countOk (stS s.op) s.args.length&&(((stS s.op).body||decide (s.body.length=0))&&((stS s.op).other||decide (s.other.length=0))))):=by
 obtain ⟨op,mod,name,l,bd,ot⟩:=s;have hk:inB op 1 7=true:=hk;have hm:l.length<=3:=hm
 have h:op=1\/op=2\/op=3\/op=4\/op=5\/op=6\/op=7:=by simp [inB] at hk;omega
 show ((inB op 1 3 && !fineB mod name)||(!inB op 1 3&&(!mod.toList.isEmpty || !name.toList.isEmpty))||(decide (0<=stN op)&&((l.length:Int) != stN op))||(op != 4&&op != 5&&decide (0<bd.length))||(op != 4&&decide (0<ot.length))) = !(refOk (stS op) mod name&&(countOk (stS op) l.length&&(((stS op).body||decide (bd.length=0))&&((stS op).other||decide (ot.length=0)))));rw [fine_eq,empty_size,empty_size,pos_dec bd,pos_dec ot];generalize hF:(nameOk name&&(decide (mod.size=0)||nameOk mod))=F
 rcases h with rfl | rfl | rfl | rfl | rfl | rfl | rfl
 . simp only [show inB 1 1 3=true from rfl,show stN 1=1 from rfl,show stS 1=(⟨true,false,1,1,false,false⟩:Sh) from rfl,show ((1:Int) == 4)=false from rfl,show ((1:Int) == 5)=false from rfl,bne,refOk_yes,count_same,hF]
   cases F<;>cases decide (mod.size=0)<;>cases decide (name.size=0)<;>cases ((l.length:Int) == 1)<;>cases decide (bd.length=0)<;>cases decide (ot.length=0)<;>rfl
 . simp only [show inB 2 1 3=true from rfl,show stN 2=2 from rfl,show stS 2=(⟨true,false,2,2,false,false⟩:Sh) from rfl,show ((2:Int) == 4)=false from rfl,show ((2:Int) == 5)=false from rfl,bne,refOk_yes,count_same,hF]
   cases F<;>cases decide (mod.size=0)<;>cases decide (name.size=0)<;>cases ((l.length:Int) == 2)<;>cases decide (bd.length=0)<;>cases decide (ot.length=0)<;>rfl
 . have hc:countOk ⟨true,false,0,3,false,false⟩ l.length=true:=by simp [countOk];omega
   simp only [show inB 3 1 3=true from rfl,show stN 3 = -1 from rfl,show stS 3=(⟨true,false,0,3,false,false⟩:Sh) from rfl,show ((3:Int) == 4)=false from rfl,show ((3:Int) == 5)=false from rfl,bne,refOk_yes,hc,hF]
   cases F<;>cases decide (mod.size=0)<;>cases decide (name.size=0)<;>cases decide (bd.length=0)<;>cases decide (ot.length=0)<;>rfl
 . simp only [show inB 4 1 3=false from rfl,show stN 4=1 from rfl,show stS 4=(⟨false,false,1,1,true,true⟩:Sh) from rfl,show ((4:Int) == 4)=true from rfl,show ((4:Int) == 5)=false from rfl,bne,refOk_no,count_same]
   cases F<;>cases decide (mod.size=0)<;>cases decide (name.size=0)<;>cases ((l.length:Int) == 1)<;>cases decide (bd.length=0)<;>cases decide (ot.length=0)<;>rfl
 . simp only [show inB 5 1 3=false from rfl,show stN 5=1 from rfl,show stS 5=(⟨false,false,1,1,true,false⟩:Sh) from rfl,show ((5:Int) == 4)=false from rfl,show ((5:Int) == 5)=true from rfl,bne,refOk_no,count_same]
   cases F<;>cases decide (mod.size=0)<;>cases decide (name.size=0)<;>cases ((l.length:Int) == 1)<;>cases decide (bd.length=0)<;>cases decide (ot.length=0)<;>rfl
 . simp only [show inB 6 1 3=false from rfl,show stN 6=1 from rfl,show stS 6=(⟨false,false,1,1,false,false⟩:Sh) from rfl,show ((6:Int) == 4)=false from rfl,show ((6:Int) == 5)=false from rfl,bne,refOk_no,count_same]
   cases F<;>cases decide (mod.size=0)<;>cases decide (name.size=0)<;>cases ((l.length:Int) == 1)<;>cases decide (bd.length=0)<;>cases decide (ot.length=0)<;>rfl
 . simp only [show inB 7 1 3=false from rfl,show stN 7=1 from rfl,show stS 7=(⟨false,false,1,1,false,false⟩:Sh) from rfl,show ((7:Int) == 4)=false from rfl,show ((7:Int) == 5)=false from rfl,bne,refOk_no,count_same]
   cases F<;>cases decide (mod.size=0)<;>cases decide (name.size=0)<;>cases ((l.length:Int) == 1)<;>cases decide (bd.length=0)<;>cases decide (ot.length=0)<;>rfl
theorem many_len {l:List Ex} (h:exMany 6 l=false):l.length<=3:=by
 simp [exMany] at h;omega
theorem bL_form:∀ (k:Nat) (l:List St),stKinds k l=true->stMany k l=false->bL 3 k l = !stForm k l
 | 0,l,_,hm=>by simp [stMany] at hm
 | k+1,l,hk,hm=>by
   rw [bL_succ];unfold stForm;unfold stKinds at hk;unfold stMany at hm;rw [Bool.or_eq_false_iff] at hm;rw [show ((3:Int) == 2)=false from rfl,Bool.false_and,Bool.false_or]
   refine any_all_not fun s hs=>?_
   have h1:=List.all_eq_true.1 hk s hs;simp only [Bool.and_eq_true] at h1;obtain ⟨k1,k2,k3,k4⟩:=h1
   have h2:(exMany 6 s.args||(((stS s.op).body||decide (0<s.body.length))&&stMany k s.body||(decide (0<s.other.length)&&stMany k s.other)))=false:=by
    have:=List.any_eq_false.1 hm.2 s hs;simpa using this
   rw [Bool.or_eq_false_iff,Bool.or_eq_false_iff] at h2;obtain ⟨e1,e2,e3⟩:=h2;unfold sL;rw [show sBad 3 s=s3 s from rfl,s3_form s (by rw [← stB_in];exact k1) (many_len e1),eL_form 6 s.args k2 e1,← stS_body]
   have hb:(((stS s.op).body||decide (0<s.body.length))&&bL 3 k s.body) = !stForm k s.body:=by
    cases hc:((stS s.op).body||decide (0<s.body.length)) with
    | true=>
      rw [hc,Bool.true_and] at e2
      rw [bL_form k s.body k3 e2];rfl
    | false=>
      rw [Bool.or_eq_false_iff] at hc
      rw [nil_of hc.2,stF_nil];rfl
   have ho:(decide (0<s.other.length)&&bL 3 k s.other) = !stForm k s.other:=by
    cases hc:decide (0<s.other.length) with
    | true=>
      rw [hc,Bool.true_and] at e3
      rw [bL_form k s.other k4 e3];rfl
    | false=>rw [nil_of hc,stF_nil];rfl
   rw [hb,ho]
   cases refOk (stS s.op) s.mod s.name<;>cases countOk (stS s.op) s.args.length<;>cases exForm 6 s.args<;>cases ((stS s.op).body||decide (s.body.length=0))<;>cases ((stS s.op).other||decide (s.other.length=0))<;>cases stForm k s.body<;>cases stForm k s.other<;>rfl
theorem mL1_kinds (m:Mo):mL1 m = !m.kinds:=by
 unfold mL1 Mo.kinds Mo.bodies;rw [List.all_append,List.all_map]
 have h1:m.decls.any dB1 = !m.decls.all (fun d=>decide (1<=d.kind)&&decide (d.kind<=3)):=any_all_not fun d _=>rfl
 have h2:m.procs.any pB1 = !m.procs.all (stKinds 6 ∘ Pr.body):=any_all_not fun p _=>bL_kinds 6 p.body
 rw [h1,h2,bL_kinds,Bool.not_and,Bool.not_and];simp
theorem any_or {α:Type} (l:List α) (p q:α->Bool):l.any (fun x=>p x||q x)=(l.any p||l.any q):=by
 induction l with
 | nil=>rfl
 | cons x r ih=>simp only [List.any_cons,ih];cases p x<;>cases q x<;>cases r.any p<;>cases r.any q<;>rfl
theorem mL2_many (m:Mo):mL2 m=m.many:=by
 unfold mL2 Mo.many Mo.bodies;rw [List.any_append,List.any_map]
 have h2:m.procs.any pB2=(m.procs.any (fun p=>decide (3<p.params.length)||decide (4<p.locals.length))||m.procs.any (stMany 6 ∘ Pr.body)):=by
  rw [← any_or]
  exact any_congr fun p _=>by show _=(_||stMany 6 p.body);rw [← bL_many];rfl
 rw [h2,bL_many];simp [Bool.or_assoc]
theorem dB3_ok (d:De) (h:(decide (1<=d.kind)&&decide (d.kind<=3))=true):dB3 d = !(nameOk d.name&&sizeOk d):=by
 obtain ⟨kind,name,pub,n⟩:=d;simp only [Bool.and_eq_true,decide_eq_true_eq] at h
 have h1:kind=1\/kind=2\/kind=3:=by omega
 unfold dB3 sizeOk
 rcases h1 with rfl | rfl | rfl
 . show (!nameOk name||((true && !inB n 0 1099511627775)||((false&&n != 0)||(false && !inB n 1 32)))) = !(nameOk name&&inB n 0 1099511627775)
   cases nameOk name<;>cases inB n 0 1099511627775<;>rfl
 . show (!nameOk name||((false && !inB n 0 1099511627775)||((true&&n != 0)||(false && !inB n 1 32)))) = !(nameOk name&&decide (n=0))
   have e:(n != 0) = !decide (n=0):=by rw [Bool.eq_iff_iff];simp
   rw [e]
   cases nameOk name<;>cases decide (n=0)<;>rfl
 . show (!nameOk name||((false && !inB n 0 1099511627775)||((false&&n != 0)||(true && !inB n 1 32)))) = !(nameOk name&&inB n 1 32)
   cases nameOk name<;>cases inB n 1 32<;>rfl
theorem all_and {α:Type} (l:List α) (p q:α->Bool):l.all (fun x=>p x&&q x)=(l.all p&&l.all q):=by
 induction l with
 | nil=>rfl
 | cons x r ih=>simp only [List.all_cons,ih];cases p x<;>cases q x<;>cases r.all p<;>cases r.all q<;>rfl
theorem mL3_form (m:Mo) (hk:m.kinds=true) (hm:m.many=false):mL3 m = !m.form:=by
 unfold Mo.kinds at hk;rw [Bool.and_eq_true] at hk;obtain ⟨hd,hb⟩:=hk;unfold Mo.many at hm;simp only [Bool.or_eq_false_iff] at hm;have hm':=List.any_eq_false.1 hm.2.2.2.2
 have hf:∀ b ∈ m.bodies,bL 3 6 b = !stForm 6 b:=fun b h=>bL_form 6 b (List.all_eq_true.1 hb b h) (by simpa using hm' b h)
 have hmain:bL 3 6 m.main = !stForm 6 m.main:=hf _ (by simp [Mo.bodies])
 have hprs:∀ p ∈ m.procs,bL 3 6 p.body = !stForm 6 p.body:=fun p h=>hf _ (by simp only [Mo.bodies,List.mem_append,List.mem_map];exact Or.inl ⟨p,h,rfl⟩)
 unfold mL3 Mo.form Mo.bodies;rw [List.all_append,List.all_map,hmain]
 have h1:m.uses.any nB = !m.uses.all nameOk:=any_all_not fun _ _=>rfl
 have h2:m.decls.any dB3 = !m.decls.all (fun d=>nameOk d.name&&sizeOk d):=any_all_not fun d h=>dB3_ok d (List.all_eq_true.1 hd d h)
 have h3:m.procs.any pB3 = !(m.procs.all (fun p=>nameOk p.name&&(p.params.all nameOk&&p.locals.all nameOk))&&m.procs.all (stForm 6 ∘ Pr.body)):=by
  rw [← all_and]
  refine any_all_not fun p h=>?_
  have e:(p.params++p.locals).any nB = !(p.params.all nameOk&&p.locals.all nameOk):=by
   rw [← List.all_append];exact any_all_not fun _ _=>rfl
  show (!nameOk p.name||(bL 3 6 p.body||(p.params++p.locals).any nB)) = !((nameOk p.name&&(p.params.all nameOk&&p.locals.all nameOk))&&stForm 6 p.body);rw [hprs p h,e]
  cases nameOk p.name<;>cases stForm 6 p.body<;>cases (p.params.all nameOk&&p.locals.all nameOk)<;>rfl
 rw [h1,h2,h3];simp only [List.all_cons,List.all_nil,Bool.and_true]
 cases nameOk m.name<;>cases m.uses.all nameOk<;>cases m.decls.all (fun d=>nameOk d.name&&sizeOk d)<;>cases m.procs.all (fun p=>nameOk p.name&&(p.params.all nameOk&&p.locals.all nameOk))<;>cases m.procs.all (stForm 6 ∘ Pr.body)<;>cases stForm 6 m.main<;>rfl
end Go.Proofs.YtndkhgakfodldaaGreatDoor

namespace Go.Proofs.YtndkhgakfodldaaGreatDoor
set_option maxRecDepth 100000
set_option maxHeartbeats 4000000
open Go.RowKit Go.Maps
theorem moduleLook1_any (m:Mo) (v:Value) (a1:Option Addr) (c1:Nat) (a2:Option Addr) (c2:Nat) (a3:Option Addr) (c3:Nat) (a4:Option Addr) (c4:Nat) (w:World) (hM:MoAt w Tt m v a1 c1 a2 c2 a3 c3 a4 c4) (hsm:Small m) :
 Calls Tryz.prog 113 #[v,.int .i64 1] w fun e w'=>e = .returned (.bool (mL1 m))/\Below w.heap.size w w':=by
 obtain rfl:=hM.val;have hn1:=hM.uses.bound;have hn2:=hM.decls.bound;have HP:=hid (procs_bound hM.procs);have hn3:=HP.out;have HM:=hid hM;have HSm:=hid hsm;clear hM hsm;have HBx:Hid (Blk (w.alloc (.cells #[.string m.name,.slice a1 m.uses.length c1,.slice a2 m.decls.length c2,.slice a3 m.procs.length c3,.slice a4 m.main.length c4] 27)) w.heap.size [.string m.name,.slice a1 m.uses.length c1,.slice a2 m.decls.length c2,.slice a3 m.procs.length c3,.slice a4 m.main.length c4]):=Blk.new w _ _;have HB0:Hid (Below w.heap.size w (w.alloc (.cells #[.string m.name,.slice a1 m.uses.length c1,.slice a2 m.decls.length c2,.slice a3 m.procs.length c3,.slice a4 m.main.length c4] 27))):=al1 _ _
 have HR:Hid (∀ {b:Bool},(m.decls.any dB1||(m.procs.any pB1||bL 1 6 m.main))=b->b=mL1 m):=fun h=>by rw [← h];rfl
 go_enter Tryz.func113,Tryz.ntmps113;go_wp2_with fail
 go_loopw [5] (fun i wr=>∃ j:Nat,j<=m.uses.length/\i = .int .i64 j/\Below w.heap.size w wr/\Blk wr w.heap.size [.string m.name,.slice a1 m.uses.length c1,.slice a2 m.decls.length c2,.slice a3 m.procs.length c3,.slice a4 m.main.length c4]) (fun i _=>m.uses.length - (intOf i).toNat)
 case atStart=>exact ⟨0,Nat.zero_le _,rfl,HB0.out,HBx.out⟩
 case round =>
  clear HB0 HBx;obtain ⟨j,hj,rfl,hb,hB⟩:=hrel;obtain ⟨m0,m1,m2,m3,m4,mz⟩:=hB.c5;have HB:=hid hB;clear hB
  by_cases hlt:j<m.uses.length
  . skip
    go_wp2_with fail;go_roundw
    case rel=>exact ⟨j+1,by omega,by go_num,hb,HB.out⟩
    case measure=>simp [intOf];omega
  . skip
    go_wp2_with fail
    go_loopw [6,7] (fun i _ wr=>∃ j:Nat,j<=m.decls.length/\i = .int .i64 j/\(m.decls.take j).any dB1=false/\Below w.heap.size w wr/\Blk wr w.heap.size [.string m.name,.slice a1 m.uses.length c1,.slice a2 m.decls.length c2,.slice a3 m.procs.length c3,.slice a4 m.main.length c4]) (fun i _ _=>m.decls.length - (intOf i).toNat)
    case atStart=>exact ⟨0,Nat.zero_le _,rfl,rfl,hb,HB.out⟩
    case round =>
     clear m0 m1 m2 m3 m4 mz HB hb hlt hj;obtain ⟨j,hj,rfl,hall,hb,hB⟩:=hrel;obtain ⟨m0,m1,m2,m3,m4,mz⟩:=hB.c5;have HB:=hid hB;have HA:=hid hall;clear hB hall
     by_cases hlt:j<m.decls.length
     . obtain ⟨b,off,rfl,hx⟩:=(HM.out.decls.later hb).de j hlt
       have hc0:=hx.c0;have hc1:=hx.c1;have hc2:=hx.c2;have hc3:=hx.c3;have hlb:=hx.lt;clear hx
       cases hr:inB m.decls[j].kind 1 3 with
       | false=>
         have HF:Hid (m.decls.any dB1=true):=any_at m.decls dB1 j hlt (by simp [dB1,hr])
         go_wp2_with (go_at_call 63;refine (within_at hr _).mono ?_;rintro e w' ⟨rfl,rfl⟩)
         go_ret;exact ⟨ret_bool (HR.out (by rw [HF.out];simp)),thenB hb (al1 _ _)⟩
       | true=>
         have HT:Hid ((m.decls.take (j+1)).any dB1=false):=by
          show _=_
          rw [any_snoc m.decls dB1 j hlt,HA.out];simp [dB1,hr]
         go_wp2_with (go_at_call 63;refine (within_at hr _).mono ?_;rintro e w' ⟨rfl,rfl⟩)
         go_roundw
         case rel=>exact ⟨j+1,by omega,by go_num,HT.out,thenB hb (al1 _ _),HB.out.later (al1 _ _)⟩
         case measure=>simp [intOf];omega
     . have HDs : Hid (m.decls.any dB1=false):=any_end HA.out hlt
       clear HA;go_wp2_with fail
       go_loopw [8,9,10,11] (fun i _ _ _ wr=>∃ j:Nat,j<=m.procs.length/\i = .int .i64 j/\(m.procs.take j).any pB1=false/\Below w.heap.size w wr/\Blk wr w.heap.size [.string m.name,.slice a1 m.uses.length c1,.slice a2 m.decls.length c2,.slice a3 m.procs.length c3,.slice a4 m.main.length c4]) (fun i _ _ _ _=>m.procs.length - (intOf i).toNat)
       case atStart=>exact ⟨0,Nat.zero_le _,rfl,rfl,hb,HB.out⟩
       case round=>
        clear m0 m1 m2 m3 m4 mz HB hb hlt hj HP;obtain ⟨j,hj,rfl,hall,hb,hB⟩:=hrel;obtain ⟨m0,m1,m2,m3,m4,mz⟩:=hB.c5;have HB:=hid hB;have HA:=hid hall;clear hB hall
        by_cases hlt:j<m.procs.length
        . obtain ⟨b,off,a5,c5,a6,c6,a7,c7,rfl,hx⟩:=(HM.out.procs.later hb).pr j hlt
          have hc0:=hx.c0;have hc1:=hx.c1;have hc2:=hx.c2;have hc3:=hx.c3;have hc4:=hx.c4;have hlb:=hx.lt;have hnp:=hx.params.bound;have hnl:=hx.locals.bound;have HX:=hid hx;clear hx;go_wp2_with fail;refine (blockLook_any Tt 1 (by omega) 6 (by omega) 1 (by omega) m.procs[j].body a7 c7 _ (HX.out.body.later (al1 _ _))).mono ?_
          cases hrb:bL 1 6 m.procs[j].body with
          | true=>
            have HF:Hid (m.procs.any pB1=true):=any_at m.procs pB1 j hlt (by simp [pB1,hrb]);rintro e w4 ⟨rfl,k4⟩;go_wp2_with fail;go_ret;exact ⟨ret_bool (HR.out (by rw [HF.out];simp)),thenB hb (thenB (al1 _ _) k4)⟩
          | false=>
            rintro e w4 ⟨rfl,k4⟩;have B1:=(Blk.new wr #[.string m.procs[j].name,.bool m.procs[j].pub,.slice a5 m.procs[j].params.length c5,.slice a6 m.procs[j].locals.length c6,.slice a7 m.procs[j].body.length c7] 118).later k4;have hb4:Below wr.heap.size wr w4:=thenB (al1 _ _) k4;clear k4 m0 m1 m2 m3 m4 mz;obtain ⟨y0,y1,y2,y3,y4,yz⟩:=B1.c5;clear B1 y0 y1 y4 hc0 hc1 hc2 hc3 hc4 hlb;go_wp2_with fail;obtain ⟨v1,w5,ga,gc,w6,hr1,hB5,hr2,hB6,hcs⟩:=names_two w4 m.procs[j].params m.procs[j].locals a5 a6 c5 c6 (HX.out.params.later hb4) (HX.out.locals.later hb4) (HSm.out _ (List.getElem_mem hlt)).1 (HSm.out _ (List.getElem_mem hlt)).2
            have S5:Hid (w5.cell? ⟨wr.heap.size,2,none⟩=some (.slice a5 m.procs[j].params.length c5)/\w5.cell? ⟨wr.heap.size,3,none⟩=some (.slice a6 m.procs[j].locals.length c6)):=⟨(hB5.cell (p:=⟨wr.heap.size,2,none⟩) yz).trans y2,(hB5.cell (p:=⟨wr.heap.size,3,none⟩) yz).trans y3⟩
            have S6:Hid (w6.cell? ⟨wr.heap.size,2,none⟩=some (.slice a5 m.procs[j].params.length c5)/\w6.cell? ⟨wr.heap.size,3,none⟩=some (.slice a6 m.procs[j].locals.length c6)):=⟨(hB6.cell (p:=⟨wr.heap.size,2,none⟩) yz).trans y2,(hB6.cell (p:=⟨wr.heap.size,3,none⟩) yz).trans y3⟩
            have hb6:Below w.heap.size w w6:=thenB hb (thenB hb4 hB6);have HB6:=hid (HB.out.later (thenB hb4 hB6))
            have hsz6:(m.procs[j].params++m.procs[j].locals).length<=2097152:=by
             have h1:=(HSm.out _ (List.getElem_mem hlt)).1;have h2:=(HSm.out _ (List.getElem_mem hlt)).2
             simp;omega
            clear hcs hB5
            obtain ⟨al,hal⟩:∃ al,al=m.procs[j].params++m.procs[j].locals:=⟨_,rfl⟩
            have HAl:=hid hal;rw [← hal] at hsz6 hr2;clear hal;have HR1:=hid hr1;have HR2:=hid hr2;clear hr1 hr2;refine wp_region_held_drew (S:=(fun W=>W.cell? ⟨wr.heap.size,2,none⟩=some (.slice a5 m.procs[j].params.length c5)/\W.cell? ⟨wr.heap.size,3,none⟩=some (.slice a6 m.procs[j].locals.length c6))) (by kernel_rfl) ?_ (fun hHeld=>?_)
            . (try dsimp only);go_keep
            refine tk (i:=1) (oi:=⟨some 163,_,_,_,_,_⟩) (v:=?va1) rfl (by kernel_rfl) (fun _ _ _ h=>h) (Or.inl ⟨by rfl,?ha1⟩) hHeld ?ra1
            case ha1=>(intro w hSw;(try dsimp only at hSw);go_simp;(try with_reducible rfl))
            (try simp only [Act.put,sx])
            refine tk (i:=2) (oi:=⟨some 164,_,_,_,_,_⟩) (v:=?va2) rfl (by kernel_rfl) (fun _ _ _ h=>h) (Or.inl ⟨by rfl,?ha2⟩) hHeld ?ra2
            case ha2=>(intro w hSw;(try dsimp only at hSw);go_simp;(try with_reducible rfl))
            (try simp only [Act.put,sx])
            refine tk (i:=4) (oi:=⟨some 166,_,_,_,_,_⟩) (v:=?va4) rfl (by kernel_rfl) (fun _ _ _ h=>h) (Or.inl ⟨by rfl,?ha4⟩) hHeld ?ra4
            case ha4=>(intro w hSw;(try dsimp only at hSw);go_simp;(try with_reducible rfl))
            (try simp only [Act.put,sx])
            refine tk (i:=5) (oi:=⟨some 167,_,_,_,_,_⟩) (v:=?va5) rfl (by kernel_rfl) (fun _ _ _ h=>h) (Or.inl ⟨by rfl,?ha5⟩) hHeld ?ra5
            case ha5=>(intro w hSw;(try dsimp only at hSw);go_simp;(try with_reducible rfl))
            (try simp only [Act.put,sx])
            refine wpAnyH_ready (rs:=[0]) (by kernel_rfl) (by simp) ?_;refine AllReadyH.cons rfl (fun K hK=>?_) AllReadyH.nil;go_simp;refine hK.out _ _ ?_ (fun hHeld=>?_)
            . (try dsimp only);go_keep
            clear hK K;refine wpAnyH_ready (rs:=[3]) (by kernel_rfl) (by simp) ?_;refine AllReadyH.cons (o:=⟨some 165,_,_,_,_,_⟩) rfl (fun K hK=>?_) AllReadyH.nil;refine step_append_run rfl _ _ _ rfl _ _ _ rfl rfl HR1.out ?_;refine hK.out _ _ S5.out (fun hHeld=>?_);clear hK K
            (try simp only [Act.put,sx])
            refine wpAnyH_ready (rs:=[6]) (by kernel_rfl) (by simp) ?_;refine AllReadyH.cons (o:=⟨some 168,_,_,_,_,_⟩) rfl (fun K hK=>?_) AllReadyH.nil;refine step_append_run rfl _ _ _ rfl _ _ _ rfl rfl HR2.out ?_;refine hK.out _ _ S6.out (fun hHeld=>?_);clear hK K hHeld;have hHeld:=S6.out
            (try simp only [Act.put,sx])
            refine tk (i:=7) (oi:=⟨some 10,_,_,_,_,_⟩) (v:=?va7) rfl (by kernel_rfl) (fun _ _ _ h=>h) (Or.inl ⟨by rfl,?ha7⟩) hHeld ?ra7
            case ha7=>(intro w hSw;(try dsimp only at hSw);go_simp;(try with_reducible rfl))
            (try simp only [Act.put,sx])
            refine wpAnyH_done (by kernel_rfl) ?_ _;clear hHeld y2 y3 yz;go_wp2_with fail
            go_loopw [11] (fun i wr=>∃ t:Nat,t<=al.length/\i = .int .i64 t/\Below w6.heap.size w6 wr) (fun i _=>al.length - (intOf i).toNat)
            case atStart=>exact ⟨0,Nat.zero_le _,rfl,Below.refl _ _⟩
            case round=>
             obtain ⟨t,ht,rfl,hbq⟩:=hrel
             by_cases htl:t<al.length
             . skip
               go_wp2_with fail;go_roundw
               case rel=>exact ⟨t+1,by omega,by go_num,hbq⟩
               case measure=>simp [intOf];omega
             . skip
               have HT:Hid ((m.procs.take (j+1)).any pB1=false):=by
                show _=_
                rw [any_snoc m.procs pB1 j hlt,HA.out];simp [pB1,hrb]
               go_wp2_with fail;go_roundw
               case rel=>exact ⟨j+1,by omega,by go_num,HT.out,thenB hb6 hbq,HB6.out.later hbq⟩
               case measure=>simp [intOf];omega
        . have HPs:Hid (m.procs.any pB1=false):=any_end HA.out hlt
          go_wp2_with fail;refine (blockLook_any Tt 1 (by omega) 6 (by omega) 1 (by omega) m.main a4 c4 _ (HM.out.main.later hb)).mono ?_;rintro e w9 ⟨rfl,hb9⟩;go_wp2_with fail;go_ret;exact ⟨ret_bool (HR.out (by simp [HDs.out,HPs.out])),thenB hb hb9⟩
end Go.Proofs.YtndkhgakfodldaaGreatDoor

namespace Go.Proofs.YtndkhgakfodldaaGreatDoor
set_option maxRecDepth 100000
set_option maxHeartbeats 4000000
open Go.RowKit Go.Maps
theorem moduleLook2_any (m:Mo) (v:Value) (a1:Option Addr) (c1:Nat) (a2:Option Addr) (c2:Nat) (a3:Option Addr) (c3:Nat) (a4:Option Addr) (c4:Nat) (w:World) (hM:MoAt w Tt m v a1 c1 a2 c2 a3 c3 a4 c4) (hsm:Small m) :
 Calls Tryz.prog 113 #[v,.int .i64 2] w fun e w'=>e = .returned (.bool (mL2 m))/\Below w.heap.size w w':=by
 obtain rfl:=hM.val;have hn1:=hM.uses.bound;have hn2:=hM.decls.bound;have HP:=hid (procs_bound hM.procs);have hn3:=HP.out;have HM:=hid hM;have HSm:=hid hsm;clear hM hsm;have HBx:Hid (Blk (w.alloc (.cells #[.string m.name,.slice a1 m.uses.length c1,.slice a2 m.decls.length c2,.slice a3 m.procs.length c3,.slice a4 m.main.length c4] 27)) w.heap.size [.string m.name,.slice a1 m.uses.length c1,.slice a2 m.decls.length c2,.slice a3 m.procs.length c3,.slice a4 m.main.length c4]):=Blk.new w _ _;have HB0:Hid (Below w.heap.size w (w.alloc (.cells #[.string m.name,.slice a1 m.uses.length c1,.slice a2 m.decls.length c2,.slice a3 m.procs.length c3,.slice a4 m.main.length c4] 27))):=al1 _ _
 have HR:Hid (∀ {b:Bool},((decide (3<m.uses.length)||(decide (10<m.decls.length)||decide (6<m.procs.length)))||(m.procs.any pB2||bL 2 6 m.main))=b->b=mL2 m):=fun h=>by rw [← h];rfl
 by_cases t1:3<m.uses.length
 . go_enter Tryz.func113,Tryz.ntmps113
   go_wp2_with fail;go_ret;exact ⟨ret_bool (HR.out (by simp [t1])),HB0.out⟩
 . by_cases t2 : 10 < m.decls.length
   . go_enter Tryz.func113,Tryz.ntmps113
     go_wp2_with fail;go_ret;exact ⟨ret_bool (HR.out (by simp [t2])),HB0.out⟩
   . by_cases t3 : 6 < m.procs.length
     . go_enter Tryz.func113,Tryz.ntmps113
       go_wp2_with fail;go_ret;exact ⟨ret_bool (HR.out (by simp [t3])),HB0.out⟩
     . have HTop : Hid ((decide (3<m.uses.length)||(decide (10<m.decls.length)||decide (6<m.procs.length)))=false):=by show _=_;simp [t1,t2,t3]
       go_enter Tryz.func113,Tryz.ntmps113;go_wp2_with fail
       go_loopw [5] (fun i wr=>∃ j:Nat,j<=m.uses.length/\i = .int .i64 j/\Below w.heap.size w wr/\Blk wr w.heap.size [.string m.name,.slice a1 m.uses.length c1,.slice a2 m.decls.length c2,.slice a3 m.procs.length c3,.slice a4 m.main.length c4]) (fun i _=>m.uses.length - (intOf i).toNat)
       case atStart=>exact ⟨0,Nat.zero_le _,rfl,HB0.out,HBx.out⟩
       case round =>
        clear HB0 HBx;obtain ⟨j,hj,rfl,hb,hB⟩:=hrel;obtain ⟨m0,m1,m2,m3,m4,mz⟩:=hB.c5;have HB:=hid hB;clear hB
        by_cases hlt:j<m.uses.length
        . skip
          go_wp2_with fail;go_roundw
          case rel=>exact ⟨j+1,by omega,by go_num,hb,HB.out⟩
          case measure=>simp [intOf];omega
        . skip
          go_wp2_with fail
          go_loopw [6,7] (fun i _ wr=>∃ j:Nat,j<=m.decls.length/\i = .int .i64 j/\Below w.heap.size w wr/\Blk wr w.heap.size [.string m.name,.slice a1 m.uses.length c1,.slice a2 m.decls.length c2,.slice a3 m.procs.length c3,.slice a4 m.main.length c4]) (fun i _ _=>m.decls.length - (intOf i).toNat)
          case atStart=>exact ⟨0,Nat.zero_le _,rfl,hb,HB.out⟩
          case round=>
           clear m0 m1 m2 m3 m4 mz HB hb hlt hj;obtain ⟨j,hj,rfl,hb,hB⟩:=hrel;obtain ⟨m0,m1,m2,m3,m4,mz⟩:=hB.c5;have HB:=hid hB;clear hB
           by_cases hlt:j<m.decls.length
           . obtain ⟨b,off,rfl,hx⟩:=(HM.out.decls.later hb).de j hlt
             have hc0:=hx.c0;have hc1:=hx.c1;have hc2:=hx.c2;have hc3:=hx.c3;have hlb:=hx.lt;clear hx;go_wp2_with fail;go_roundw
             case rel=>exact ⟨j+1,by omega,by go_num,thenB hb (al1 _ _),HB.out.later (al1 _ _)⟩
             case measure=>simp [intOf];omega
           . skip
             go_wp2_with fail
             go_loopw [8,9,10,11] (fun i _ _ _ wr=>∃ j:Nat,j<=m.procs.length/\i = .int .i64 j/\(m.procs.take j).any pB2=false/\Below w.heap.size w wr/\Blk wr w.heap.size [.string m.name,.slice a1 m.uses.length c1,.slice a2 m.decls.length c2,.slice a3 m.procs.length c3,.slice a4 m.main.length c4]) (fun i _ _ _ _=>m.procs.length - (intOf i).toNat)
             case atStart=>exact ⟨0,Nat.zero_le _,rfl,rfl,hb,HB.out⟩
             case round=>
              clear m0 m1 m2 m3 m4 mz HB hb hlt hj HP;obtain ⟨j,hj,rfl,hall,hb,hB⟩:=hrel;obtain ⟨m0,m1,m2,m3,m4,mz⟩:=hB.c5;have HB:=hid hB;have HA:=hid hall;clear hB hall
              by_cases hlt:j<m.procs.length
              . obtain ⟨b,off,a5,c5,a6,c6,a7,c7,rfl,hx⟩:=(HM.out.procs.later hb).pr j hlt
                have hc0:=hx.c0;have hc1:=hx.c1;have hc2:=hx.c2;have hc3:=hx.c3;have hc4:=hx.c4;have hlb:=hx.lt;have hnp:=hx.params.bound;have hnl:=hx.locals.bound;have HX:=hid hx;clear hx
                by_cases hp3:3<m.procs[j].params.length
                . have HF:Hid (m.procs.any pB2=true):=any_at m.procs pB2 j hlt (by simp [pB2,hp3])
                  go_wp2_with fail;go_ret;exact ⟨ret_bool (HR.out (by rw [HF.out];simp)),thenB hb (al1 _ _)⟩
                . by_cases hp4:4<m.procs[j].locals.length
                  . have HF:Hid (m.procs.any pB2=true):=any_at m.procs pB2 j hlt (by simp [pB2,hp4])
                    go_wp2_with fail;go_ret;exact ⟨ret_bool (HR.out (by rw [HF.out];simp)),thenB hb (al1 _ _)⟩
                  . skip
                    go_wp2_with fail;refine (blockLook_any Tt 2 (by omega) 6 (by omega) 1 (by omega) m.procs[j].body a7 c7 _ (HX.out.body.later (al1 _ _))).mono ?_
                    cases hrb:bL 2 6 m.procs[j].body with
                    | true=>
                      have HF:Hid (m.procs.any pB2=true):=any_at m.procs pB2 j hlt (by simp [pB2,hrb]);rintro e w4 ⟨rfl,k4⟩;go_wp2_with fail;go_ret;exact ⟨ret_bool (HR.out (by rw [HF.out];simp)),thenB hb (thenB (al1 _ _) k4)⟩
                    | false=>
                      rintro e w4 ⟨rfl,k4⟩;have B1:=(Blk.new wr #[.string m.procs[j].name,.bool m.procs[j].pub,.slice a5 m.procs[j].params.length c5,.slice a6 m.procs[j].locals.length c6,.slice a7 m.procs[j].body.length c7] 118).later k4;have hb4:Below wr.heap.size wr w4:=thenB (al1 _ _) k4;clear k4 m0 m1 m2 m3 m4 mz;obtain ⟨y0,y1,y2,y3,y4,yz⟩:=B1.c5;clear B1 y0 y1 y4 hc0 hc1 hc2 hc3 hc4 hlb;go_wp2_with fail;obtain ⟨v1,w5,ga,gc,w6,hr1,hB5,hr2,hB6,hcs⟩:=names_two w4 m.procs[j].params m.procs[j].locals a5 a6 c5 c6 (HX.out.params.later hb4) (HX.out.locals.later hb4) (HSm.out _ (List.getElem_mem hlt)).1 (HSm.out _ (List.getElem_mem hlt)).2
                      have S5:Hid (w5.cell? ⟨wr.heap.size,2,none⟩=some (.slice a5 m.procs[j].params.length c5)/\w5.cell? ⟨wr.heap.size,3,none⟩=some (.slice a6 m.procs[j].locals.length c6)):=⟨(hB5.cell (p:=⟨wr.heap.size,2,none⟩) yz).trans y2,(hB5.cell (p:=⟨wr.heap.size,3,none⟩) yz).trans y3⟩
                      have S6:Hid (w6.cell? ⟨wr.heap.size,2,none⟩=some (.slice a5 m.procs[j].params.length c5)/\w6.cell? ⟨wr.heap.size,3,none⟩=some (.slice a6 m.procs[j].locals.length c6)):=⟨(hB6.cell (p:=⟨wr.heap.size,2,none⟩) yz).trans y2,(hB6.cell (p:=⟨wr.heap.size,3,none⟩) yz).trans y3⟩
                      have hb6:Below w.heap.size w w6:=thenB hb (thenB hb4 hB6);have HB6:=hid (HB.out.later (thenB hb4 hB6))
                      have hsz6:(m.procs[j].params++m.procs[j].locals).length<=2097152:=by
                       have h1:=(HSm.out _ (List.getElem_mem hlt)).1;have h2:=(HSm.out _ (List.getElem_mem hlt)).2
                       simp;omega
                      clear hcs hB5
                      obtain ⟨al,hal⟩:∃ al,al=m.procs[j].params++m.procs[j].locals:=⟨_,rfl⟩
                      have HAl:=hid hal;rw [← hal] at hsz6 hr2;clear hal;have HR1:=hid hr1;have HR2:=hid hr2;clear hr1 hr2;refine wp_region_held_drew (S:=(fun W=>W.cell? ⟨wr.heap.size,2,none⟩=some (.slice a5 m.procs[j].params.length c5)/\W.cell? ⟨wr.heap.size,3,none⟩=some (.slice a6 m.procs[j].locals.length c6))) (by kernel_rfl) ?_ (fun hHeld=>?_)
                      . (try dsimp only);go_keep
                      refine tk (i:=1) (oi:=⟨some 163,_,_,_,_,_⟩) (v:=?va1) rfl (by kernel_rfl) (fun _ _ _ h=>h) (Or.inl ⟨by rfl,?ha1⟩) hHeld ?ra1
                      case ha1=>(intro w hSw;(try dsimp only at hSw);go_simp;(try with_reducible rfl))
                      (try simp only [Act.put,sx])
                      refine tk (i:=2) (oi:=⟨some 164,_,_,_,_,_⟩) (v:=?va2) rfl (by kernel_rfl) (fun _ _ _ h=>h) (Or.inl ⟨by rfl,?ha2⟩) hHeld ?ra2
                      case ha2=>(intro w hSw;(try dsimp only at hSw);go_simp;(try with_reducible rfl))
                      (try simp only [Act.put,sx])
                      refine tk (i:=4) (oi:=⟨some 166,_,_,_,_,_⟩) (v:=?va4) rfl (by kernel_rfl) (fun _ _ _ h=>h) (Or.inl ⟨by rfl,?ha4⟩) hHeld ?ra4
                      case ha4=>(intro w hSw;(try dsimp only at hSw);go_simp;(try with_reducible rfl))
                      (try simp only [Act.put,sx])
                      refine tk (i:=5) (oi:=⟨some 167,_,_,_,_,_⟩) (v:=?va5) rfl (by kernel_rfl) (fun _ _ _ h=>h) (Or.inl ⟨by rfl,?ha5⟩) hHeld ?ra5
                      case ha5=>(intro w hSw;(try dsimp only at hSw);go_simp;(try with_reducible rfl))
                      (try simp only [Act.put,sx])
                      refine wpAnyH_ready (rs:=[0]) (by kernel_rfl) (by simp) ?_;refine AllReadyH.cons rfl (fun K hK=>?_) AllReadyH.nil;go_simp;refine hK.out _ _ ?_ (fun hHeld=>?_)
                      . (try dsimp only);go_keep
                      clear hK K;refine wpAnyH_ready (rs:=[3]) (by kernel_rfl) (by simp) ?_;refine AllReadyH.cons (o:=⟨some 165,_,_,_,_,_⟩) rfl (fun K hK=>?_) AllReadyH.nil;refine step_append_run rfl _ _ _ rfl _ _ _ rfl rfl HR1.out ?_;refine hK.out _ _ S5.out (fun hHeld=>?_);clear hK K
                      (try simp only [Act.put,sx])
                      refine wpAnyH_ready (rs:=[6]) (by kernel_rfl) (by simp) ?_;refine AllReadyH.cons (o:=⟨some 168,_,_,_,_,_⟩) rfl (fun K hK=>?_) AllReadyH.nil;refine step_append_run rfl _ _ _ rfl _ _ _ rfl rfl HR2.out ?_;refine hK.out _ _ S6.out (fun hHeld=>?_);clear hK K hHeld;have hHeld:=S6.out
                      (try simp only [Act.put,sx])
                      refine tk (i:=7) (oi:=⟨some 10,_,_,_,_,_⟩) (v:=?va7) rfl (by kernel_rfl) (fun _ _ _ h=>h) (Or.inl ⟨by rfl,?ha7⟩) hHeld ?ra7
                      case ha7=>(intro w hSw;(try dsimp only at hSw);go_simp;(try with_reducible rfl))
                      (try simp only [Act.put,sx])
                      refine wpAnyH_done (by kernel_rfl) ?_ _;clear hHeld y2 y3 yz;go_wp2_with fail
                      go_loopw [11] (fun i wr=>∃ t:Nat,t<=al.length/\i = .int .i64 t/\Below w6.heap.size w6 wr) (fun i _=>al.length - (intOf i).toNat)
                      case atStart=>exact ⟨0,Nat.zero_le _,rfl,Below.refl _ _⟩
                      case round=>
                       obtain ⟨t,ht,rfl,hbq⟩:=hrel
                       by_cases htl:t<al.length
                       . skip
                         go_wp2_with fail;go_roundw
                         case rel=>exact ⟨t+1,by omega,by go_num,hbq⟩
                         case measure=>simp [intOf];omega
                       . skip
                         have HT:Hid ((m.procs.take (j+1)).any pB2=false):=by
                          show _=_
                          rw [any_snoc m.procs pB2 j hlt,HA.out];simp [pB2,hrb,hp3,hp4]
                         go_wp2_with fail;go_roundw
                         case rel=>exact ⟨j+1,by omega,by go_num,HT.out,thenB hb6 hbq,HB6.out.later hbq⟩
                         case measure=>simp [intOf];omega
              . have HPs:Hid (m.procs.any pB2=false):=any_end HA.out hlt
                go_wp2_with fail;refine (blockLook_any Tt 2 (by omega) 6 (by omega) 1 (by omega) m.main a4 c4 _ (HM.out.main.later hb)).mono ?_;rintro e w9 ⟨rfl,hb9⟩;go_wp2_with fail;go_ret;exact ⟨ret_bool (HR.out (by simp [HTop.out,HPs.out])),thenB hb hb9⟩
end Go.Proofs.YtndkhgakfodldaaGreatDoor
