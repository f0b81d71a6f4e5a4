import Derived.Test.YtndkhgakfodldaaGreatDoorTd
namespace Go.Proofs.YtndkhgakfodldaaGreatDoor
set_option maxRecDepth 100000
set_option maxHeartbeats 1600000
open Go.RowKit Go.Maps
def ztk (v:Value):Option (DataW Value × List MemPlace):=some (.held v,[])
theorem ztl:Keyed Tryz.prog 3:=int_keyed Tryz.underlying3
theorem zy3 (w:World):(zeroValue 270).run Tryz.prog w = .ok sh0.val w:=by kernel_rfl
def zwo (D:DataW Value) (f:Int->Option Sh):Prop:=∀ a:Int,has D (.int .i64 a)=(f a).isSome/\D.atKey (.int .i64 a) (.held sh0.val) = .held ((f a).getD sh0).val
def upd (f:Int->Option Sh) (k:Int) (s:Sh):Int->Option Sh:=fun a=>if a=k then some s else f a
theorem zwo.put {D:DataW Value} {f:Int->Option Sh} (h:zwo D f) (hD:IsMap D) (k:Int) (s:Sh):zwo (D.put (.int .i64 k) (.held s.val)) (upd f k s):=by
 intro a
 by_cases e:a=k
 . subst e
   simp only [upd,if_true];exact ⟨has_put_same (k:=.int .i64 a) hD trivial _,atKey_put_same (k:=.int .i64 a) hD trivial _ _⟩
 . simp only [upd,if_neg e]
   have hne:Lit.int .i64 a≠.int .i64 k:=fun h=>e (by injection h)
   rw [has_put_other hne,atKey_put_other hne];exact h a
def zcj (w:World) (b n:Nat) (f:Int->Option Sh):Prop:=∃ D,w.ownsMap Tryz.prog 3 ztk b n D/\zwo D f
theorem zcj.later {w w':World} {b n:Nat} {f:Int->Option Sh} (h:zcj w b n f) (hb:Below w.heap.size w w'):zcj w' b n f:=by
 obtain ⟨D,h1,h2⟩:=h;have hlt:=h1.lt;obtain ⟨es,clock,hb',r⟩:=h1;exact ⟨D,⟨es,clock,(hb.block b hlt).trans hb',r⟩,h2⟩
theorem zcj.lt {w:World} {b n:Nat} {f:Int->Option Sh} (h:zcj w b n f):b<w.heap.size:=by obtain ⟨D,h1,_⟩:=h;exact h1.lt
theorem zcj.made (w:World):zcj (w.alloc (.map #[] 0)) w.heap.size 0 (fun _=>none):=
 ⟨.map [],vek w _ _ _,fun _=>⟨rfl,rfl⟩⟩
theorem zcj.look {w:World} {b n:Nat} {f:Int->Option Sh} (h:zcj w b n f) {k:Int} (hk:(Lit.int .i64 k).wf=true) :
 (Instr.lookup 232 (.map (some b)) (.int .i64 k) false).run Tryz.prog w = .ok ((f k).getD sh0).val w:=by
 obtain ⟨D,h1,h2⟩:=h;obtain ⟨v,ps,hrun,hv⟩:=h1.lookup ztl Tryz.underlying232 (zy3 w) (zd:=.held sh0.val) (zp:=[]) rfl (keyOf_int_mk Tryz.underlying3 hk);rw [(h2 k).2] at hv;simp only [ztk,vcy,vdn,vdp] at hv;rw [hrun,hv.1]
theorem zcj.look_ok {w:World} {b n:Nat} {f:Int->Option Sh} (h:zcj w b n f) {k:Int} (hk:(Lit.int .i64 k).wf=true) :
 (Instr.lookup 232 (.map (some b)) (.int .i64 k) true).run Tryz.prog w = .ok (.tuple #[((f k).getD sh0).val,.bool (f k).isSome]) w:=by
 obtain ⟨D,h1,h2⟩:=h;obtain ⟨v,ps,hrun,hv⟩:=h1.look_ok ztl Tryz.underlying232 (zy3 w) (zd:=.held sh0.val) (zp:=[]) rfl (keyOf_int_mk Tryz.underlying3 hk);rw [(h2 k).2] at hv;simp only [ztk,vcy,vdn,vdp] at hv;rw [hrun,hv.1,(h2 k).1]
theorem zcj.put {w:World} {b n:Nat} {f:Int->Option Sh} (h:zcj w b n f) (hn:n<maxLen) {k:Int} (hk:(Lit.int .i64 k).wf=true) (s:Sh) :
 ∃ w',(Instr.mapUpdate 232 (.map (some b)) (.int .i64 k) s.val).run Tryz.prog w = .ok () w'/\zcj w' b (n+1) (upd f k s)/\w.grownBy w' (some b):=by
 obtain ⟨D,h1,h2⟩:=h;obtain ⟨w',r1,r2,r3⟩:=h1.update ztl Tryz.underlying232 hn (keyOf_int_mk Tryz.underlying3 hk) (val:=s.val) (d:=.held s.val) (ps:=[]) rfl;exact ⟨w',r1,⟨_,r2,h2.put h1.isMap k s⟩,r3⟩
theorem zm0 {ops:Array Oper} {rest:List Oper} {o:Oper} {a:Act} {w:World} {Q:Exit->Act->World->Prop} (hg:o.guard=none) (m x v:Operand) (hop:o.op=Op.insert 232 m x v) {b n:Nat} {f:Int->Option Sh} (hS:zcj w b n f)
 (hm:a.eval m = .map (some b)) (k:Int) (hx:a.eval x = .int .i64 k) (x1 x2:Bool) (x3 x4:Int) (x5 x6:Bool) (hv:a.eval v = .agg #[.bool x1,.bool x2,.int .i64 x3,.int .i64 x4,.bool x5,.bool x6]) (hk:(Lit.int .i64 k).wf=true) (hn:n<maxLen)
 (hK:∀ w',zcj w' b (n+1) (upd f k ⟨x1,x2,x3,x4,x5,x6⟩)->w.grownBy w' (some b)->wpList Tryz.prog ops Q rest (a.put o.dst undef) w'):wpList Tryz.prog ops Q (o :: rest) a w:=by
 refine wpList_plain hg fun K' hK'=>?_
 obtain ⟨w',hrun,r1,r2⟩:=hS.put hn hk ⟨x1,x2,x3,x4,x5,x6⟩;simp only [Sh.val] at hrun;unfold Oper.wp;simp [execOp,hop,hm,hx,hv,hrun,Result.andThen];exact hK' _ _ (hK w' r1 r2)
theorem ztm {ops:Array Oper} {rest:List Oper} {o:Oper} {a:Act} {w:World} {Q:Exit->Act->World->Prop} (hg:o.guard=none) (m x v:Operand) (hop:o.op=Op.mapUpdate 232 m x v) {b n:Nat} {f:Int->Option Sh} (hS:zcj w b n f)
 (hm:a.eval m = .map (some b)) (k:Int) (hx:a.eval x = .int .i64 k) (x1 x2:Bool) (x3 x4:Int) (x5 x6:Bool) (hv:a.eval v = .agg #[.bool x1,.bool x2,.int .i64 x3,.int .i64 x4,.bool x5,.bool x6]) (hk:(Lit.int .i64 k).wf=true) (hn:n<maxLen)
 (hK:∀ w',zcj w' b (n+1) (upd f k ⟨x1,x2,x3,x4,x5,x6⟩)->w.grownBy w' (some b)->wpList Tryz.prog ops Q rest (a.put o.dst undef) w'):wpList Tryz.prog ops Q (o :: rest) a w:=by
 refine wpList_plain hg fun K' hK'=>?_
 obtain ⟨w',hrun,r1,r2⟩:=hS.put hn hk ⟨x1,x2,x3,x4,x5,x6⟩;simp only [Sh.val] at hrun;unfold Oper.wp;simp [execOp,hop,hm,hx,hv,hrun,Result.andThen];exact hK' _ _ (hK w' r1 r2)
def stF:Int->Option Sh:=upd (upd (upd (upd (upd (upd (upd (fun _=>none) 1 ⟨true,false,1,1,false,false⟩) 2 ⟨true,false,2,2,false,false⟩) 3 ⟨true,false,0,3,false,false⟩) 4 ⟨false,false,1,1,true,true⟩) 5 ⟨false,false,1,1,true,false⟩) 6 ⟨false,false,1,1,false,false⟩) 7 ⟨false,false,1,1,false,false⟩
theorem z1e:stF=zju:=by
 funext a
 unfold stF upd zju
 repeat' split
 all_goals first | rfl | omega
def z2y:Int->Option Sh:=upd (upd (upd (upd (upd (upd (fun _=>none) 1 ⟨false,true,0,0,false,false⟩) 2 ⟨false,false,0,0,false,false⟩) 3 ⟨true,false,0,0,false,false⟩) 4 ⟨true,false,1,1,false,false⟩) 5 ⟨true,false,0,3,false,false⟩) 6 ⟨false,false,1,1,false,false⟩
def exF (k:Nat):Int->Option Sh:=fun a=>if 7<=a/\a<7+(k:Int) then some ⟨false,false,2,2,false,false⟩ else z2y a
theorem zwp:z2y=exF 0:=by
 funext a
 unfold exF;rw [if_neg (by omega)]
theorem zwq (k:Nat):upd (exF k) (7+(k:Int)) ⟨false,false,2,2,false,false⟩=exF (k+1):=by
 funext a
 simp only [upd,exF]
 by_cases e:a=7+(k:Int)
 . rw [if_pos e,if_pos (by omega)]
 . rw [if_neg e]
   by_cases h:7<=a/\a<7+(k:Int)
   . rw [if_pos h,if_pos (by omega)]
   . rw [if_neg h,if_neg (by omega)]
theorem zzq:exF 9=zhl:=by
 funext a
 unfold exF z2y upd zhl
 repeat' split
 all_goals first | rfl | omega
theorem zjy (w:World) :
 Calls Tryz.prog 151 #[] w fun e w'=>∃ b,e = .returned (.map (some b))/\zcj w' b 7 zju/\Below w.heap.size w w':=by
 have hmm:=@run_makeMap Tryz.prog;have hS:=zcj.made w;have hB:Below w.heap.size w (w.alloc (.map #[] 0)):=(Below.refl _ _).alloc (vaa _) _;go_enter Tryz.func151,Tryz.ntmps151
 go_wp2_with (refine zm0 rfl _ _ _ rfl hS rfl _ rfl _ _ _ _ _ _ rfl (by decide) (by decide) ?_;clear hS;intro w1 hS hG;replace hB:=hB.grown hG hB.size (fun j hj=>by cases hj;exact vaa _);clear hG)
 go_ret;refine ⟨_,rfl,?_,hB⟩;rw [← z1e];exact hS
theorem zjz (w:World) :
 Calls Tryz.prog 150 #[] w fun e w'=>∃ b,e = .returned (.map (some b))/\zcj w' b 15 zhl/\Below w.heap.size w w':=by
 have hmm:=@run_makeMap Tryz.prog;have hS:=zcj.made w;have hB:Below w.heap.size w (w.alloc (.map #[] 0)):=(Below.refl _ _).alloc (vaa _) _;go_enter Tryz.func150,Tryz.ntmps150
 go_wp2_with (refine zm0 rfl _ _ _ rfl hS rfl _ rfl _ _ _ _ _ _ rfl (by decide) (by decide) ?_;clear hS;intro w1 hS hG;replace hB:=hB.grown hG hB.size (fun j hj=>by cases hj;exact vaa _);clear hG)
 have hS0:zcj w1 w.heap.size 6 (exF 0):=by rw [← zwp];exact hS
 clear hS
 go_loopw [2] (fun i wr=>∃ k:Nat,k<=9/\i = .int .i64 (7+(k:Int))/\zcj wr w.heap.size (6+k) (exF k)/\Below w.heap.size w wr) (fun i _=>16 - (intOf i).toNat)
 case atStart=>exact ⟨0,by omega,rfl,hS0,hB⟩
 case round=>
  clear hS0 hB;obtain ⟨k,hk,rfl,hS,hB⟩:=hrel
  by_cases hlt:k<9
  . go_wp2_with (refine ztm rfl _ _ _ rfl hS rfl _ rfl _ _ _ _ _ _ rfl (WalkArith.wf_i64 (by omega)) (by unfold maxLen;omega) ?_;clear hS;intro w2 hS hG;replace hB:=hB.grown hG hB.size (fun j hj=>by cases hj;exact vaa _);clear hG)
    rw [zwq] at hS;go_roundw
    case rel=>exact ⟨k+1,by omega,by go_num,hS,hB⟩
    case measure=>simp [intOf];omega
  . obtain rfl:k=9:=by omega
    go_wp2_with fail;go_ret;refine ⟨_,rfl,?_,hB⟩;rw [← zzq];exact hS
theorem zzr {w w1 w3:World} {o1:Obj} (hb:Below w.heap.size w w1) (h3:Below (w1.alloc o1).heap.size (w1.alloc o1) w3):Below w.heap.size w w3:=by
 have h1:=hb.alloc hb.size o1;exact h1.trans (h3.mono h1.size)
theorem z2q {w w1 w3:World} {o1 o2:Obj} (hb:Below w.heap.size w w1) (h3:Below ((w1.alloc o1).alloc o2).heap.size ((w1.alloc o1).alloc o2) w3):Below w.heap.size w w3:=
 zzr (hb.alloc hb.size o1) h3
theorem thenB {w w1 w3:World} (hb:Below w.heap.size w w1) (h3:Below w1.heap.size w1 w3):Below w.heap.size w w3:=hb.trans (h3.mono hb.size)
theorem al1 (w:World) (o:Obj):Below w.heap.size w (w.alloc o):=(Below.refl _ _).alloc (vaa _) _
theorem al2 (w:World) (o1 o2:Obj):Below w.heap.size w ((w.alloc o1).alloc o2):=(al1 w o1).alloc (by simp) _
structure Blk (w:World) (b:Nat) (cs:List Value):Prop where
 lt:b<w.heap.size
 cell:∀ j v,cs[j]? = some v->w.cell? ⟨b,j,none⟩=some v
theorem Blk.later {w w':World} {b:Nat} {cs:List Value} (h:Blk w b cs) (hb:Below w.heap.size w w'):Blk w' b cs:=
 ⟨vac h.lt hb.size,fun j v hj=>(hb.cell (p:=⟨b,j,none⟩) h.lt).trans (h.cell j v hj)⟩
theorem Blk.new (w:World) (cs:Array Value) (t:TypeId):Blk (w.alloc (.cells cs t)) w.heap.size cs.toList:=
 ⟨by simp,fun j v hj=>by rw [vee (zq8 w _)];simpa using hj⟩
theorem Blk.new1 (w:World) (cs:Array Value) (t:TypeId) (o:Obj):Blk ((w.alloc (.cells cs t)).alloc o) w.heap.size cs.toList:=(Blk.new w cs t).later (al1 _ _)
theorem Blk.new2 (w:World) (cs:Array Value) (t:TypeId) (o:Obj):Blk ((w.alloc o).alloc (.cells cs t)) (w.heap.size+1) cs.toList:=by
 have:=Blk.new (w.alloc o) cs t;simpa using this
theorem Blk.c2 {w:World} {b:Nat} {a0 a1:Value} (h:Blk w b [a0,a1]):w.cell? ⟨b,0,none⟩=some a0/\w.cell? ⟨b,1,none⟩=some a1/\b<w.heap.size:=⟨h.cell 0 _ rfl,h.cell 1 _ rfl,h.lt⟩
theorem Blk.c5 {w:World} {b:Nat} {a0 a1 a2 a3 a4:Value} (h:Blk w b [a0,a1,a2,a3,a4]):w.cell? ⟨b,0,none⟩=some a0/\w.cell? ⟨b,1,none⟩=some a1/\w.cell? ⟨b,2,none⟩=some a2/\w.cell? ⟨b,3,none⟩=some a3/\w.cell? ⟨b,4,none⟩=some a4/\b<w.heap.size:=
 ⟨h.cell 0 _ rfl,h.cell 1 _ rfl,h.cell 2 _ rfl,h.cell 3 _ rfl,h.cell 4 _ rfl,h.lt⟩
theorem Blk.c6 {w:World} {b:Nat} {a0 a1 a2 a3 a4 a5:Value} (h:Blk w b [a0,a1,a2,a3,a4,a5]):w.cell? ⟨b,0,none⟩=some a0/\w.cell? ⟨b,1,none⟩=some a1/\w.cell? ⟨b,2,none⟩=some a2/\w.cell? ⟨b,3,none⟩=some a3/\w.cell? ⟨b,4,none⟩=some a4/\w.cell? ⟨b,5,none⟩=some a5/\b<w.heap.size:=
 ⟨h.cell 0 _ rfl,h.cell 1 _ rfl,h.cell 2 _ rfl,h.cell 3 _ rfl,h.cell 4 _ rfl,h.cell 5 _ rfl,h.lt⟩
theorem zil (be bs:Nat) (A:Nat->Prop):∀ (k:Nat),k<=6->∀ (l:List Ex) (a:OA) (cap:Nat) (deep:Int) (w:World),deep=7 - (k:Int)->DAt w A a l.length (zbi l)->zcj w be 15 zhl->
 Calls Tryz.prog 235 #[.agg #[.map (some be),.map (some bs)],.slice a l.length cap,.int .i64 deep] w fun e w'=>e = .returned (.bool (za4 k l))/\Below w.heap.size w w'
 | 0,_,l,a,cap,deep,w,hd,_,_=>by
   subst hd
   have HR:Hid (za4 0 l=true):=by show _=_;simp [za4]
   go_enter Tryz.func235,Tryz.ntmps235;go_wp2_with fail;go_ret;exact ⟨zaa HR.out.symm,(Below.refl _ _).alloc (vaa _) _⟩
 | k + 1, hk,l,a,cap,deep,w,hd,hD,hS=>by
   have HR:Hid (za4 (k+1) l=l.all (fun x=>exB x.op&&za4 k x.args)):=by show _=_;simp [za4]
   have hbd:=hD.bound
   have hd1:1<=deep:=by omega
   have hd6:deep<=6:=by omega
   have HI:Hid (∀ (l:List Ex) (a:OA) (cap:Nat) (w:World),DAt w A a l.length (zbi l)->zcj w be 15 zhl->
    Calls Tryz.prog 235 #[.agg #[.map (some be),.map (some bs)],.slice a l.length cap,.int .i64 (deep+1)] w fun e w'=>e = .returned (.bool (za4 k l))/\Below w.heap.size w w'):=
    fun l a cap w h1 h2=>zil be bs A k (by omega) l a cap (deep+1) w (by omega) h1 h2
   have HD:Hid (DAt w A a l.length (zbi l)):=hD;have HS:Hid (zcj w be 15 zhl):=hS;clear hD hS hd;have HB:Hid (Blk (w.alloc (.cells #[.map (some be),.map (some bs)] 235)) w.heap.size [.map (some be),.map (some bs)]):=Blk.new w _ _;go_enter Tryz.func235,Tryz.ntmps235;go_wp2_with fail
   go_loopw [15] (fun i wr=>∃ j:Nat,j<=l.length/\i = .int .i64 j/\(l.take j).all (fun x=>exB x.op&&za4 k x.args)=true/\Below w.heap.size w wr/\Blk wr w.heap.size [.map (some be),.map (some bs)]) (fun i _=>l.length - (intOf i).toNat)
   case atStart=>exact ⟨0,vad _,rfl,rfl,al1 _ _,HB.out⟩
   case round=>
    clear HB;obtain ⟨j,hj,rfl,hall,hb,hB⟩:=hrel;have q0:=hB.cell 0 _ rfl;have q1:=hB.cell 1 _ rfl;have qz:=hB.lt;have HB:Hid (Blk wr w.heap.size [.map (some be),.map (some bs)]):=hB;have HA:Hid ((l.take j).all (fun x=>exB x.op&&za4 k x.args)=true):=hall;clear hall hB
    by_cases hlt:j<l.length
    . obtain ⟨b,off,aa,cp,rfl,hx⟩:=(HD.out.later hb).ex j hlt
      have hc0:=hx.c0;have hc1:=hx.c1;have hc2:=hx.c2;have hc3:=hx.c3;have hc4:=hx.c4;have hlb:=hx.lt;have HX:Hid (DAt wr A aa l[j].args.length (zbi l[j].args)):=hx.args;have hlk:=((HS.out.later hb).later (al1 _ (.cells #[.int .i64 l[j].op,.int .i64 l[j].n,.string l[j].mod,.string l[j].name,.slice aa l[j].args.length cp] 174))).look_ok hx.wop;simp only [Sh.val] at hlk;clear hx
      cases hop:(zhl l[j].op).isSome with
      | false=>
        rw [hop] at hlk;have HF:Hid (l.all (fun x=>exB x.op&&za4 k x.args)=false):=all_not l _ j hlt (by simp [exB,hop]);go_wp2_with fail;go_ret;exact ⟨zaa (by rw [HR.out,HF.out]),thenB hb (al2 _ _ _)⟩
      | true=>
        rw [hop] at hlk;go_wp2_with fail;refine (HI.out l[j].args aa cp _ (HX.out.later (al2 _ _ _)) ((HS.out.later hb).later (al2 _ _ _))).mono ?_
        cases hr:za4 k l[j].args with
        | false=>
          have HF:Hid (l.all (fun x=>exB x.op&&za4 k x.args)=false):=all_not l _ j hlt (by simp [hr]);rintro e w3 ⟨rfl,hb3⟩;go_wp2_with fail;go_ret;exact ⟨zaa (by rw [HR.out,HF.out]),z2q hb hb3⟩
        | true=>
          have HT:Hid ((l.take (j+1)).all (fun x=>exB x.op&&za4 k x.args)=true):=by
           show _=_
           rw [all_snoc l _ j hlt,HA.out];simp [exB,hop,hr]
          rintro e w3 ⟨rfl,hb3⟩;go_wp2_with fail;go_roundw
          case rel=>exact ⟨j+1,by omega,by go_num,HT.out,z2q hb hb3,HB.out.later (thenB (al2 _ _ _) hb3)⟩
          case measure=>simp [intOf];omega
    . have HT:Hid (l.all (fun x=>exB x.op&&za4 k x.args)=true):=zb1 HA.out hlt
      go_wp2_with fail;go_ret;exact ⟨zaa (by rw [HR.out,HT.out]),hb⟩
theorem zkg (a:OA) (cap:Nat) (deep:Int) (w:World) :
 Calls Tryz.prog 236 #[.slice a 0 cap,.int .i64 deep] w fun e w'=>e = .returned (.bool false)/\Below w.heap.size w w':=by
 go_enter Tryz.func236,Tryz.ntmps236;go_wp2_with fail
 go_loopw [21] (fun i wr=>i = .int .i64 0/\wr=w) (fun _ _=>0)
 case atStart=>exact ⟨rfl,rfl⟩
 case round=>
  obtain ⟨rfl,rfl⟩:=hrel;go_wp2_with fail;go_ret;exact ⟨rfl,Below.refl _ _⟩
theorem zgk (k:Nat) {l:List Ex} (h:l.length=0):zan k l=false:=by
 have:l=[]:=vam h;subst this
 cases k<;>simp [zan]
theorem zkh (A:Nat->Prop):∀ (k:Nat),k<=6->∀ (l:List Ex) (a:OA) (cap:Nat) (deep:Int) (w:World),deep=7 - (k:Int)->DAt w A a l.length (zbi l)->
 Calls Tryz.prog 236 #[.slice a l.length cap,.int .i64 deep] w fun e w'=>e = .returned (.bool (zan k l))/\Below w.heap.size w w'
 | 0,_,l,a,cap,deep,w,hd,hD=>by
   subst hd;have hbd:=hD.bound;clear hD
   by_cases h0:l.length=0
   . rw [zgk 0 h0,h0]
     exact zkg a cap _ w
   . have HR:Hid (zan 0 l=true):=by show _=_;simp [zan];omega
     by_cases h3:3<l.length
     . go_enter Tryz.func236,Tryz.ntmps236
       go_wp2_with fail;go_ret;exact ⟨zaa HR.out.symm,Below.refl _ _⟩
     . go_enter Tryz.func236,Tryz.ntmps236
       go_wp2_with fail;go_ret;exact ⟨zaa HR.out.symm,Below.refl _ _⟩
 | k + 1, hk,l,a,cap,deep,w,hd,hD=>by
   have HR:Hid (zan (k+1) l=(decide (3<l.length)||l.any (fun x=>zan k x.args))):=by show _=_;simp [zan]
   have hbd:=hD.bound
   have hd1:1<=deep:=by omega
   have hd6:deep<=6:=by omega
   have HI:Hid (∀ (l:List Ex) (a:OA) (cap:Nat) (w:World),DAt w A a l.length (zbi l)->
    Calls Tryz.prog 236 #[.slice a l.length cap,.int .i64 (deep+1)] w fun e w'=>e = .returned (.bool (zan k l))/\Below w.heap.size w w'):=
    fun l a cap w h1=>zkh A k (by omega) l a cap (deep+1) w (by omega) h1
   have HD:Hid (DAt w A a l.length (zbi l)):=hD;clear hD hd
   by_cases h0:l.length=0
   . rw [zgk (k+1) h0,h0]
     exact zkg a cap _ w
   have h0':0<l.length:=by omega
   clear h0
   by_cases h3:3<l.length
   . have HT:Hid (zan (k+1) l=true):=by show _=_;rw [HR.out];simp [h3]
     clear hd1;go_enter Tryz.func236,Tryz.ntmps236;go_wp2_with fail;go_ret;exact ⟨zaa HT.out.symm,Below.refl _ _⟩
   . have HN : Hid (zan (k+1) l=l.any (fun x=>zan k x.args)):=by show _=_;rw [HR.out];simp [h3]
     clear HR;go_enter Tryz.func236,Tryz.ntmps236;go_wp2_with fail
     . go_loopw [21] (fun i wr=>∃ j:Nat,j<=l.length/\i = .int .i64 j/\(l.take j).any (fun x=>zan k x.args)=false/\Below w.heap.size w wr) (fun i _=>l.length - (intOf i).toNat)
       case atStart=>exact ⟨0,vad _,rfl,rfl,Below.refl _ _⟩
       case round=>
        obtain ⟨j,hj,rfl,hall,hb⟩:=hrel;have HA:Hid ((l.take j).any (fun x=>zan k x.args)=false):=hall;clear hall
        by_cases hlt:j<l.length
        . obtain ⟨b,off,aa,cp,rfl,hx⟩:=(HD.out.later hb).ex j hlt
          have hc0:=hx.c0;have hc1:=hx.c1;have hc2:=hx.c2;have hc3:=hx.c3;have hc4:=hx.c4;have hlb:=hx.lt;have HX:Hid (DAt wr A aa l[j].args.length (zbi l[j].args)):=hx.args;clear hx;go_wp2_with fail;refine (HI.out l[j].args aa cp _ (HX.out.later (al1 _ _))).mono ?_
          cases hr:zan k l[j].args with
          | true=>
            have HF:Hid (l.any (fun x=>zan k x.args)=true):=zq7 l _ j hlt hr;rintro e w3 ⟨rfl,hb3⟩;go_wp2_with fail;go_ret;exact ⟨zaa (by rw [HN.out,HF.out]),zzr hb hb3⟩
          | false=>
            have HT:Hid ((l.take (j+1)).any (fun x=>zan k x.args)=false):=by
             show _=_
             rw [zif l _ j hlt,HA.out];simp [hr]
            rintro e w3 ⟨rfl,hb3⟩;go_wp2_with fail;go_roundw
            case rel=>exact ⟨j+1,by omega,by go_num,HT.out,zzr hb hb3⟩
            case measure=>simp [intOf];omega
        . have HT:Hid (l.any (fun x=>zan k x.args)=false):=zmc HA.out hlt
          go_wp2_with fail;go_ret;exact ⟨zaa (by rw [HN.out,HT.out]),hb⟩
theorem zop {k:Nat} {l:List Ex} (h:zan (k+1) l=false) (j:Nat) (hj:j<l.length):zan k l[j].args=false:=by
 simp only [zan,vay,vbv] at h;have:=h.2 l[j] (vah hj);simpa using this
theorem zru (be bs:Nat) (A:Nat->Prop):∀ (k:Nat) (l:List Ex) (a:OA) (cap:Nat) (w:World),DAt w A a l.length (zbi l)->zcj w be 15 zhl->zan k l=false->
 Calls Tryz.prog 244 #[.agg #[.map (some be),.map (some bs)],.slice a l.length cap] w fun e w'=>e = .returned (.bool (za9 k l))/\Below w.heap.size w w':=by
 intro k
 induction k with
 | zero=>
   intro l a cap w hD hS hM
   have h0:l.length=0:=by simp [zan] at hM;simp [hM]
   have HR:Hid (za9 0 l=true):=by show _=_;simp [za9]
   rw [h0];go_enter Tryz.func244,Tryz.ntmps244;go_wp2_with fail
   go_loopw [10] (fun i wr=>i = .int .i64 0/\Below w.heap.size w wr) (fun _ _=>0)
   case atStart=>exact ⟨rfl,al1 _ _⟩
   case round=>
    obtain ⟨rfl,hb⟩:=hrel;go_wp2_with fail;go_ret;exact ⟨zaa HR.out.symm,hb⟩
 | succ k ih=>
   intro l a cap w hD hS hM
   have HR:Hid (za9 (k+1) l=l.all (fun x=>zci (exS x.op) x.mod x.name&&(nOk (exS x.op) x.n&&(za3 (exS x.op) x.args.length&&za9 k x.args)))):=by show _=_;simp [za9]
   have hbd:=hD.bound
   have HI:Hid (∀ (l:List Ex) (a:OA) (cap:Nat) (w:World),DAt w A a l.length (zbi l)->zcj w be 15 zhl->zan k l=false->
    Calls Tryz.prog 244 #[.agg #[.map (some be),.map (some bs)],.slice a l.length cap] w fun e w'=>e = .returned (.bool (za9 k l))/\Below w.heap.size w w'):=ih
   have HD:Hid (DAt w A a l.length (zbi l)):=hD;have HS:Hid (zcj w be 15 zhl):=hS;have HM:Hid (∀ (j:Nat) (hj:j<l.length),zan k l[j].args=false):=zop hM;clear hD hS ih hM;have HB:Hid (Blk (w.alloc (.cells #[.map (some be),.map (some bs)] 235)) w.heap.size [.map (some be),.map (some bs)]):=Blk.new w _ _;go_enter Tryz.func244,Tryz.ntmps244;go_wp2_with fail
   go_loopw [10] (fun i wr=>∃ j:Nat,j<=l.length/\i = .int .i64 j/\(l.take j).all (fun x=>zci (exS x.op) x.mod x.name&&(nOk (exS x.op) x.n&&(za3 (exS x.op) x.args.length&&za9 k x.args)))=true/\Below w.heap.size w wr/\Blk wr w.heap.size [.map (some be),.map (some bs)]) (fun i _=>l.length - (intOf i).toNat)
   case atStart=>exact ⟨0,vad _,rfl,rfl,al1 _ _,HB.out⟩
   case round =>
    clear HB;obtain ⟨j,hj,rfl,hall,hb,hB⟩:=hrel;have q0:=hB.cell 0 _ rfl;have q1:=hB.cell 1 _ rfl;have qz:=hB.lt;have HB:Hid (Blk wr w.heap.size [.map (some be),.map (some bs)]):=hB;have HA:Hid ((l.take j).all (fun x=>zci (exS x.op) x.mod x.name&&(nOk (exS x.op) x.n&&(za3 (exS x.op) x.args.length&&za9 k x.args)))=true):=hall;clear hall hB
    by_cases hlt:j<l.length
    . obtain ⟨b,off,aa,cp,rfl,hx⟩:=(HD.out.later hb).ex j hlt
      have hc0:=hx.c0;have hc1:=hx.c1;have hc2:=hx.c2;have hc3:=hx.c3;have hc4:=hx.c4;have hlb:=hx.lt;have HX:Hid (ExAt wr A b (off+j*5) l[j] aa cp):=hx
      have HF:Hid (∀ c:Bool,(zci (exS l[j].op) l[j].mod l[j].name&&(nOk (exS l[j].op) l[j].n&&(za3 (exS l[j].op) l[j].args.length&&za9 k l[j].args)))=false->za9 (k+1) l=false):=fun _ h=>by rw [HR.out];exact all_not l _ j hlt h
      have HT:Hid ((zci (exS l[j].op) l[j].mod l[j].name&&(nOk (exS l[j].op) l[j].n&&(za3 (exS l[j].op) l[j].args.length&&za9 k l[j].args)))=true->(l.take (j+1)).all (fun x=>zci (exS x.op) x.mod x.name&&(nOk (exS x.op) x.n&&(za3 (exS x.op) x.args.length&&za9 k x.args)))=true):=fun h=>by
       rw [all_snoc l _ j hlt,HA.out,h];rfl
      have hlk:=((HS.out.later hb).later (al1 _ (.cells #[.int .i64 l[j].op,.int .i64 l[j].n,.string l[j].mod,.string l[j].name,.slice aa l[j].args.length cp] 174))).look hx.wop;clear hx;have hlk':(Instr.lookup 232 (.map (some be)) (.int .i64 l[j].op) false).run Tryz.prog (wr.alloc (.cells #[.int .i64 l[j].op,.int .i64 l[j].n,.string l[j].mod,.string l[j].name,.slice aa l[j].args.length cp] 174)) = .ok (exS l[j].op).val (wr.alloc (.cells #[.int .i64 l[j].op,.int .i64 l[j].n,.string l[j].mod,.string l[j].name,.slice aa l[j].args.length cp] 174)):=hlk;clear hlk;generalize hs:exS l[j].op=s at hlk' HF HT;clear hs;simp only [Sh.val] at hlk';go_wp2_with fail;refine (zhx s l[j].mod l[j].name _ HX.out.wm HX.out.wna).mono ?_
      cases h1:zci s l[j].mod l[j].name with
      | false=>
        rintro e w3 ⟨rfl,c3⟩;have hb3:Below wr.heap.size wr w3:=thenB (al2 _ _ _) c3;clear c3;go_wp2_with fail;go_ret;exact ⟨zaa (HF.out true (by simp [h1])).symm,thenB hb hb3⟩
      | true=>
        rintro e w3 ⟨rfl,c3⟩;have B0:=(HB.out.later (al2 _ _ _)).later c3;have B1:=(Blk.new1 wr #[.int .i64 l[j].op,.int .i64 l[j].n,.string l[j].mod,.string l[j].name,.slice aa l[j].args.length cp] 174 _).later c3;have B2:=(Blk.new2 wr #[.bool s.named,.bool s.number,.int .i64 s.least,.int .i64 s.most,.bool s.body,.bool s.other] 270 _).later c3;have hb3:Below wr.heap.size wr w3:=thenB (al2 _ _ _) c3;clear c3 q0 q1 qz;obtain ⟨q0,q1,qz⟩:=B0.c2;obtain ⟨x0,x1,x2,x3,x4,xz⟩:=B1.c5;obtain ⟨y0,y1,y2,y3,y4,y5,yz⟩:=B2.c6;have K0:Hid (Blk w3 w.heap.size [.map (some be),.map (some bs)]):=B0;have K1:Hid (Blk w3 wr.heap.size [.int .i64 l[j].op,.int .i64 l[j].n,.string l[j].mod,.string l[j].name,.slice aa l[j].args.length cp]):=B1;have K2:Hid (Blk w3 (wr.heap.size+1) [.bool s.named,.bool s.number,.int .i64 s.least,.int .i64 s.most,.bool s.body,.bool s.other]):=B2
        clear B0 B1 B2;go_wp2_with fail;refine (zjb s l[j].n _).mono ?_
        cases h2:nOk s l[j].n with
        | false=>
          rintro e w4 ⟨rfl,c4⟩;have hb4:=thenB hb3 c4;clear c4;go_wp2_with fail;go_ret;exact ⟨zaa (HF.out true (by simp [h2])).symm,thenB hb hb4⟩
        | true=>
          rintro e w4 ⟨rfl,c4⟩;have B0:=K0.out.later c4;have B1:=K1.out.later c4;have B2:=K2.out.later c4;have hb4:=thenB hb3 c4;clear c4 K0 K1 K2;clear q0 q1 qz x0 x1 x2 x3 x4 xz y0 y1 y2 y3 y4 y5 yz;obtain ⟨q0,q1,qz⟩:=B0.c2;obtain ⟨x0,x1,x2,x3,x4,xz⟩:=B1.c5;obtain ⟨y0,y1,y2,y3,y4,y5,yz⟩:=B2.c6;have K0:Hid (Blk w4 w.heap.size [.map (some be),.map (some bs)]):=B0;have K1:Hid (Blk w4 wr.heap.size [.int .i64 l[j].op,.int .i64 l[j].n,.string l[j].mod,.string l[j].name,.slice aa l[j].args.length cp]):=B1;have K2:Hid (Blk w4 (wr.heap.size+1) [.bool s.named,.bool s.number,.int .i64 s.least,.int .i64 s.most,.bool s.body,.bool s.other]):=B2;clear B0 B1 B2;go_wp2_with fail;refine (zf2 s aa l[j].args.length cp _).mono ?_
          cases h3:za3 s l[j].args.length with
          | false=>
            rintro e w5 ⟨rfl,c5⟩;have hb5:=thenB hb4 c5;clear c5;go_wp2_with fail;go_ret;exact ⟨zaa (HF.out true (by simp [h3])).symm,thenB hb hb5⟩
          | true=>
            rintro e w5 ⟨rfl,c5⟩;have B0:=K0.out.later c5;have B1:=K1.out.later c5;have B2:=K2.out.later c5;have hb5:=thenB hb4 c5;clear c5 K0 K1 K2;clear q0 q1 qz x0 x1 x2 x3 x4 xz y0 y1 y2 y3 y4 y5 yz;obtain ⟨q0,q1,qz⟩:=B0.c2;obtain ⟨x0,x1,x2,x3,x4,xz⟩:=B1.c5;obtain ⟨y0,y1,y2,y3,y4,y5,yz⟩:=B2.c6;have K0:Hid (Blk w5 w.heap.size [.map (some be),.map (some bs)]):=B0;have K1:Hid (Blk w5 wr.heap.size [.int .i64 l[j].op,.int .i64 l[j].n,.string l[j].mod,.string l[j].name,.slice aa l[j].args.length cp]):=B1;have K2:Hid (Blk w5 (wr.heap.size+1) [.bool s.named,.bool s.number,.int .i64 s.least,.int .i64 s.most,.bool s.body,.bool s.other]):=B2;clear B0 B1 B2;go_wp2_with fail;refine (HI.out l[j].args aa cp _ (HX.out.args.later hb5) ((HS.out.later hb).later hb5) (HM.out j hlt)).mono ?_
            cases h4:za9 k l[j].args with
            | false=>
              rintro e w6 ⟨rfl,c6⟩;have hb6:=thenB hb5 c6;clear c6;go_wp2_with fail;go_ret;exact ⟨zaa (HF.out true (by simp [h4])).symm,thenB hb hb6⟩
            | true=>
              rintro e w6 ⟨rfl,c6⟩;have hb6:=thenB hb5 c6;have B0:=K0.out.later c6;clear c6;have HT':Hid ((l.take (j+1)).all (fun x=>zci (exS x.op) x.mod x.name&&(nOk (exS x.op) x.n&&(za3 (exS x.op) x.args.length&&za9 k x.args)))=true):=HT.out (by simp [h1,h2,h3,h4]);go_wp2_with fail;go_roundw
              case rel=>exact ⟨j+1,by omega,by go_num,HT'.out,thenB hb hb6,B0⟩
              case measure=>simp [intOf];omega
    . have HT:Hid (l.all (fun x=>zci (exS x.op) x.mod x.name&&(nOk (exS x.op) x.n&&(za3 (exS x.op) x.args.length&&za9 k x.args)))=true):=zb1 HA.out hlt
      go_wp2_with fail;go_ret;exact ⟨zaa (by rw [HR.out,HT.out]),hb⟩
end Go.Proofs.YtndkhgakfodldaaGreatDoor

namespace Go.Proofs.YtndkhgakfodldaaGreatDoor
open Go.RowKit
abbrev zli:ByteArray:=⟨#[109,111,100,117,108,101]⟩
abbrev zqi:ByteArray:=⟨#[117,115,101]⟩
abbrev zce:ByteArray:=⟨#[112,117,98]⟩
abbrev zm1:ByteArray:=⟨#[99,111,110,115,116]⟩
abbrev z1f:ByteArray:=⟨#[118,97,114]⟩
abbrev zm2:ByteArray:=⟨#[97,114,114,97,121]⟩
abbrev zzs:ByteArray:=⟨#[112,114,111,99]⟩
abbrev zde:ByteArray:=⟨#[108,111,99,97,108]⟩
abbrev zoq:ByteArray:=⟨#[109,97,105,110]⟩
abbrev tIf:ByteArray:=⟨#[105,102]⟩
abbrev zor:ByteArray:=⟨#[101,108,115,101]⟩
abbrev zf0:ByteArray:=⟨#[119,104,105,108,101]⟩
abbrev zel:ByteArray:=⟨#[114,101,116,117,114,110]⟩
abbrev zy4:ByteArray:=⟨#[111,117,116]⟩
abbrev tIn:ByteArray:=⟨#[105,110]⟩
abbrev tLb:ByteArray:=⟨#[123]⟩
abbrev tRb:ByteArray:=⟨#[125]⟩
abbrev tLp:ByteArray:=⟨#[40]⟩
abbrev tRp:ByteArray:=⟨#[41]⟩
abbrev tLs:ByteArray:=⟨#[91]⟩
abbrev tRs:ByteArray:=⟨#[93]⟩
abbrev zwr:ByteArray:=⟨#[44]⟩
abbrev zgl:ByteArray:=⟨#[59]⟩
abbrev tEq:ByteArray:=⟨#[61]⟩
abbrev zzt:ByteArray:=⟨#[46]⟩
abbrev z1g:ByteArray:=⟨#[33]⟩
def zzu:List (L8):=[[109,111,100,117,108,101],[117,115,101],[112,117,98],[99,111,110,115,116],[118,97,114],[97,114,114,97,121],[112,114,111,99],[108,111,99,97,108],[109,97,105,110],[105,102],[101,108,115,101],[119,104,105,108,101],[114,101,116,117,114,110],[111,117,116],[105,110]]
def opTexts:List ByteArray:=[⟨#[38]⟩,⟨#[124]⟩,⟨#[43]⟩,⟨#[45]⟩,⟨#[42]⟩,⟨#[47]⟩,⟨#[37]⟩,⟨#[61]⟩,⟨#[60]⟩]
def zlj (s:ByteArray):Bool:=zzu.any (fun k=>s.toList == k)
def noTk:Tk:=⟨0,0,⟨#[]⟩⟩
def hd (l:List Tk):Tk:=l.getD 0 noTk
def skB (l:List Tk) (t:ByteArray):Bool:=(hd l).text.toList == t.toList
def zh5 (l:List Tk) (ts:List ByteArray):Option ByteArray:=ts.find? (fun t=>skB l t)
def zcs (l:List Tk):Option (ByteArray × List Tk):=if ((hd l).kind == 1 && !zlj (hd l).text)=true then some ((hd l).text,l.tail) else none
def pNum (l:List Tk):Option (Int × List Tk):=if (hd l).kind=2 then some ((hd l).n,l.tail) else none
def ztb (l:List Tk):Option ((ByteArray × ByteArray) × List Tk):=
 match zcs l with
 | none=>none
 | some (a,l1)=>if skB l1 zzt then (match zcs l1.tail with | none=>none | some (b,l2)=>some ((a,b),l2)) else some ((⟨#[]⟩,a),l1)
def ztn (l:List Tk):Option Nat:=opTexts.findIdx? (fun t=>skB l t)
mutual
def zbf:Nat->List Tk->Option (Ex × List Tk)
 | 0,_=>none
 | f+1,l=>
   if (hd l).kind=2 then some (.mk 1 (hd l).n ⟨#[]⟩ ⟨#[]⟩ [],l.tail)
   else if skB l tIn then some (.mk 2 0 ⟨#[]⟩ ⟨#[]⟩ [],l.tail)
   else if skB l z1g then (match zbf f l.tail with | none=>none | some (x,l1)=>some (.mk 6 0 ⟨#[]⟩ ⟨#[]⟩ [x],l1))
   else if skB l tLp then ze2 f l.tail
   else match ztb l with
    | none=>none
    | some ((m,n),l1)=>
      if skB l1 tLs then (match zbf f l1.tail with | none=>none | some (x,l2)=>if skB l2 tRs then some (.mk 4 0 m n [x],l2.tail) else none)
      else if skB l1 tLp then (match zdo f l1.tail with | none=>none | some (xs,l2)=>some (.mk 5 0 m n xs,l2))
      else some (.mk 3 0 m n [],l1)
def ze2:Nat->List Tk->Option (Ex × List Tk)
 | 0,_=>none
 | f + 1,l=>
   match zbf f l with
   | none=>none
   | some (a,l1)=>match ztn l1 with
     | none=>none
     | some k=>match zbf f l1.tail with
       | none=>none
       | some (b,l2)=>if skB l2 tRp then some (.mk (7+k) 0 ⟨#[]⟩ ⟨#[]⟩ [a,b],l2.tail) else none
def zdo:Nat->List Tk->Option (List Ex × List Tk)
 | 0,_=>none
 | f+1,l=>
   if skB l tRp then some ([],l.tail)
   else match zbf f l with
    | none=>none
    | some (x,l1)=>zfv f [x] l1
def zfv:Nat->List Ex->List Tk->Option (List Ex × List Tk)
 | 0,_,_=>none
 | f+1,acc,l=>
   if skB l zwr then (match zbf f l.tail with | none=>none | some (x,l1)=>zfv f (acc++[x]) l1)
   else if skB l tRp then some (acc,l.tail) else none
end
theorem zto {l:List Tk} {t:ByteArray} (ht:0<t.size) (h:skB l t=true):l≠[]:=by
 rintro rfl;unfold skB at h
 have e:(hd ([]:List Tk)).text.toList=[]:=by rw [vax];rfl
 rw [e,vax] at h;have h1:t.data.toList=[]:=(beq_iff_eq.1 h).symm;have h2:=Lx.zau t;rw [h1] at h2;simp at h2;omega
theorem zhf {l:List Tk} (h:l≠[]):l.tail.length<l.length:=by cases l with | nil=>exact absurd rfl h | cons x r=>simp
theorem zaj {l:List Tk} {t:ByteArray} (ht:0<t.size) (h:skB l t=true):l.tail.length<l.length:=zhf (zto ht h)
theorem zim {l:List Tk} (h:(hd l).kind≠0):l≠[]:=by rintro rfl;exact h rfl
theorem zbc {l l':List Tk} {a:ByteArray} (h:zcs l=some (a,l')):l'.length<l.length:=by
 unfold zcs at h
 split at h
 . rename_i hk
   have hk':(hd l).kind=1:=by
    simp only [vae,beq_iff_eq] at hk;exact hk.1
   obtain ⟨_,rfl⟩:=vak (vab h);exact zhf (zim (by rw [hk'];decide))
 . cases h
theorem ztp {l l':List Tk} {a:Int} (h:pNum l=some (a,l')):l'.length<l.length:=by
 unfold pNum at h
 split at h
 . rename_i hk
   obtain ⟨_,rfl⟩:=vak (vab h);exact zhf (zim (by rw [hk];decide))
 . cases h
theorem zos {l l':List Tk} {a:ByteArray × ByteArray} (h:ztb l=some (a,l')):l'.length<l.length:=by
 unfold ztb at h
 split at h
 . cases h
 . rename_i a1 l1 h1
   have:=zbc h1
   split at h
   . rename_i hs
     have:=zaj (by decide) hs
     split at h
     . cases h
     . rename_i b l2 h2
       have:=zbc h2;obtain ⟨_,rfl⟩:=vak (vab h);omega
   . obtain ⟨_,rfl⟩:=vak (vab h)
     omega
theorem ztq {l:List Tk} {k:Nat} (h:ztn l=some k):l≠[]:=by
 unfold ztn at h;obtain ⟨hk,h2,_⟩:=vbk.1 h
 have:0<(opTexts[k]).size:=by
  have:∀ x ∈ opTexts,0<x.size:=by decide
  exact this _ (vah hk)
 exact zto this h2
mutual
theorem zb5:∀ (f:Nat) (l l':List Tk) (x:Ex),zbf f l=some (x,l')->l'.length<l.length
 | 0,_,_,_,h=>by simp [zbf] at h
 | f + 1,l,l',x,h=>by
   unfold zbf at h
   split at h
   . rename_i hk
     obtain ⟨_,rfl⟩:=vak (vab h);exact zhf (zim (by rw [hk];decide))
   split at h
   . rename_i hs
     obtain ⟨_,rfl⟩:=vak (vab h);exact zaj (by decide) hs
   split at h
   . rename_i hs
     have:=zaj (by decide) hs
     split at h
     . cases h
     . rename_i y l1 h1
       have:=zb5 f _ _ _ h1;obtain ⟨_,rfl⟩:=vak (vab h);omega
   split at h
   . rename_i hs
     have:=zaj (by decide) hs;have:=zws f _ _ _ h;omega
   split at h
   . cases h
   . rename_i m n l1 h1
     have:=zos h1
     split at h
     . rename_i hs
       have:=zaj (by decide) hs
       split at h
       . cases h
       . rename_i y l2 h2
         have:=zb5 f _ _ _ h2
         split at h
         . rename_i hs2
           have:=zaj (by decide) hs2;obtain ⟨_,rfl⟩:=vak (vab h);omega
         . cases h
     split at h
     . rename_i hs
       have:=zaj (by decide) hs
       split at h
       . cases h
       . rename_i y l2 h2
         have:=zqj f _ _ _ h2;obtain ⟨_,rfl⟩:=vak (vab h);omega
     . obtain ⟨_,rfl⟩:=vak (vab h)
       omega
theorem zws:∀ (f:Nat) (l l':List Tk) (x:Ex),ze2 f l=some (x,l')->l'.length<l.length
 | 0,_,_,_,h=>by simp [ze2] at h
 | f + 1,l,l',x,h=>by
   unfold ze2 at h
   split at h
   . cases h
   . rename_i a l1 h1
     have:=zb5 f _ _ _ h1
     split at h
     . cases h
     . rename_i k hk
       have:=zhf (ztq hk)
       split at h
       . cases h
       . rename_i b l2 h2
         have:=zb5 f _ _ _ h2
         split at h
         . rename_i hs2
           have:=zaj (by decide) hs2;obtain ⟨_,rfl⟩:=vak (vab h);omega
         . cases h
theorem zqj:∀ (f:Nat) (l l':List Tk) (x:List Ex),zdo f l=some (x,l')->l'.length<l.length
 | 0,_,_,_,h=>by simp [zdo] at h
 | f + 1,l,l',x,h=>by
   unfold zdo at h
   split at h
   . rename_i hs
     obtain ⟨_,rfl⟩:=vak (vab h);exact zaj (by decide) hs
   split at h
   . cases h
   . rename_i y l1 h1
     have:=zb5 f _ _ _ h1;have:=zqk f _ _ _ _ h;omega
theorem zqk:∀ (f:Nat) (acc:List Ex) (l l':List Tk) (x:List Ex),zfv f acc l=some (x,l')->l'.length<l.length
 | 0,_,_,_,_,h=>by simp [zfv] at h
 | f + 1,acc,l,l',x,h=>by
   unfold zfv at h
   split at h
   . rename_i hs
     have:=zaj (by decide) hs
     split at h
     . cases h
     . rename_i y l1 h1
       have:=zb5 f _ _ _ h1;have:=zqk f _ _ _ _ h;omega
   split at h
   . rename_i hs
     obtain ⟨_,rfl⟩:=vak (vab h);exact zaj (by decide) hs
   . cases h
end
def pX (l:List Tk):Option (Ex × List Tk):=zbf (3*l.length+8) l
def pAs (l:List Tk):Option (List Ex × List Tk):=zdo (3*l.length+8) l
theorem zlk {l l':List Tk} {x:Ex} (h:pX l=some (x,l')):l'.length<l.length:=zb5 _ _ _ _ h
theorem z1h {l l':List Tk} {x:List Ex} (h:pAs l=some (x,l')):l'.length<l.length:=zqj _ _ _ _ h
def zbk (l:List Tk):Option (St × List Tk):=
 match ztb l with
 | none=>none
 | some ((m,n),l1)=>
   if skB l1 tEq then (match pX l1.tail with | none=>none | some (x,l2)=>some (.mk 1 m n [x] [] [],l2))
   else if skB l1 tLs then (match pX l1.tail with
    | none=>none
    | some (x,l2)=>if skB l2 tRs then (if skB l2.tail tEq then (match pX l2.tail.tail with | none=>none | some (y,l3)=>some (.mk 2 m n [x,y] [] [],l3)) else none) else none)
   else if skB l1 tLp then (match pAs l1.tail with | none=>none | some (xs,l2)=>some (.mk 3 m n xs [] [],l2))
   else none
def zc1 (r:Option (St × List Tk)):Option (St × List Tk):=match r with | none=>none | some (s,l)=>if skB l zgl then some (s,l.tail) else none
mutual
def zb3:Nat->List Tk->Option (St × List Tk)
 | 0,_=>none
 | f+1,l=>
   if skB l tIf then (match pX l.tail with
    | none=>none
    | some (x,l1)=>match zbm f l1 with
      | none=>none
      | some (b,l2)=>if skB l2 zor then (match zbm f l2.tail with | none=>none | some (o,l3)=>if o.length=0 then none else some (.mk 4 ⟨#[]⟩ ⟨#[]⟩ [x] b o,l3))
        else some (.mk 4 ⟨#[]⟩ ⟨#[]⟩ [x] b [],l2))
   else if skB l zf0 then (match pX l.tail with
    | none=>none
    | some (x,l1)=>match zbm f l1 with | none=>none | some (b,l2)=>some (.mk 5 ⟨#[]⟩ ⟨#[]⟩ [x] b [],l2))
   else if skB l zel then zc1 (match pX l.tail with | none=>none | some (x,l1)=>some (.mk 6 ⟨#[]⟩ ⟨#[]⟩ [x] [] [],l1))
   else if skB l zy4 then zc1 (match pX l.tail with | none=>none | some (x,l1)=>some (.mk 7 ⟨#[]⟩ ⟨#[]⟩ [x] [] [],l1))
   else zc1 (zbk l)
def zbm:Nat->List Tk->Option (List St × List Tk)
 | 0,_=>none
 | f+1,l=>if skB l tLb then zdp f [] l.tail else none
def zdp:Nat->List St->List Tk->Option (List St × List Tk)
 | 0,_,_=>none
 | f+1,acc,l=>
   if skB l tRb then some (acc,l.tail)
   else match zb3 f l with | none=>none | some (s,l1)=>zdp f (acc++[s]) l1
end
end Go.Proofs.YtndkhgakfodldaaGreatDoor
