import Derived.Test.YtndkhgakfodldaaGreatDoorUt
import Derived.Test.YtndkhgakfodldaaGreatDoorXe
namespace Go.Proofs.YtndkhgakfodldaaGreatDoor
set_option maxRecDepth 100000
set_option maxHeartbeats 12800000
open Go.RowKit Go.Maps Go.WideMaps
set_option linter.unusedSimpArgs false
set_option linter.unusedVariables false
theorem zvr {α:Type} [DecidableEq α] (l:List α):l.Nodup↔∀ i (h:i<l.length),l[i] ∉ l.take i:=by
 rw [vdh,List.pairwise_iff_getElem]
 constructor
 . intro h i hi hm
   obtain ⟨k,hk,e⟩:=vbd hm;rw [vbb] at hk;rw [List.getElem_take] at e;exact h k i (by omega) hi (by omega) e
 . intro h i j hi hj hij e
   exact h j hj (by rw [← e];exact List.mem_iff_getElem.2 ⟨i,by rw [vbb];omega,by rw [List.getElem_take]⟩)
theorem ztp (l:List ByteArray):(Fx.zbs l).Nodup↔l.Nodup:=by
 unfold Fx.zbs;rw [vdh,vdh,List.pairwise_map]
 constructor
 . intro h;exact h.imp (fun hn e=>hn (by rw [e]))
 . intro h;exact h.imp (fun hn e=>hn (zji e))
def nmB (s:ByteArray):Bool:=Lx.zbx s.data.toList
theorem zy7 (o:Ob):zd9 o=((o.name :: o.uses).all nmB && !Fx.zgu (Fx.zbs (o.name :: o.uses))):=by
 rw [vcq]
 have hd:(!Fx.zgu (Fx.zbs (o.name :: o.uses)))=true↔(o.name :: o.uses).Nodup:=by
  rw [vdm,z1u,ztp]
 rw [vad,hd,List.nodup_cons,vda,vad,vax];unfold zd9;rw [vad,zbk]
 have hu:∀ i (h:i<o.uses.length),zkw o i=true↔(nmB o.uses[i]=true/\o.uses[i]≠o.name/\o.uses[i] ∉ o.uses.take i):=fun i h=>by
  unfold zkw;rw [vaj h];simp only [vad,vdm,decide_eq_false_iff_not];rw [show (Go.Lib.containsS (o.uses.take i) o.uses[i]=false)↔o.uses[i] ∉ o.uses.take i from by rw [← Go.Lib.containsS_iff];simp]
  rfl
 constructor
 . rintro ⟨h1,h2⟩
   refine ⟨⟨h1,fun s hs=>?_⟩,fun hm=>?_,(zvr o.uses).2 fun i hi=>((hu i hi).1 (h2 i hi)).2.2⟩
   . obtain ⟨k,hk,rfl⟩:=vbd hs
     exact ((hu k hk).1 (h2 k hk)).1
   . obtain ⟨k,hk,e⟩:=vbd hm
     exact ((hu k hk).1 (h2 k hk)).2.1 e
 . rintro ⟨⟨h1,h2⟩,h3,h4⟩
   refine ⟨h1,fun i hi=>(hu i hi).2 ⟨h2 _ (vap hi),fun e=>h3 (e ▸ vap hi),(zvr o.uses).1 h4 i hi⟩⟩
theorem z50 {w:World} {base g:Nat} {x:ByteArray} (h:w.heap[g]? = some (.cells #[.string x] 9)) (hb:base<=g):w.ownsRow base 9 1 (.slice (some ⟨g,0,none⟩) 1 1) 1 (strV [x]):=
 ⟨rfl,Or.inr ⟨g,1,#[.string x],rfl,hb,h,vaa _,by decide,rfl,rfl⟩⟩
theorem z52 {o:Ob} (hm:zhy o=false) (h:(zd9 o&&(zd3 o&&zea o))=false):oChk o=1:=by
 unfold oChk;rw [hm,h]
 rfl
theorem wi (n lo hi:Int) (b:Bool) (h:(decide (lo<=n)&&decide (n<=hi))=b) (w:World):Calls Tryz.prog 63 #[.int .i64 n,.int .i64 lo,.int .i64 hi] w fun e w'=>e = .returned (.bool b)/\w'=w:=by
 rw [← h];exact zfc n lo hi w
def inB (n lo hi:Int):Bool:=decide (lo<=n)&&decide (n<=hi)
theorem z53 (n lo hi:Int) (w:World):Calls Tryz.prog 63 #[.int .i64 n,.int .i64 lo,.int .i64 hi] w fun e w'=>e = .returned (.bool (inB n lo hi))/\w'=w:=zfc n lo hi w
theorem zvs {o:Ob} {k:Nat} {fk fm:Int} (hk:k<o.code.length) (hc:o.code.length<=2048):zzg o ⟨k,fk,fm⟩=true↔((1<=fk/\fk<=3)/\(0<=fm/\fm<=o.uses.length)/\(0<=o.code[k].a/\o.code[k].a<=2048)/\(fk=1->fm=0/\o.code[k].a<=o.code.length)):=by
 have ha:aAt o (k:Int)=o.code[k].a:=by unfold aAt;rw [vbm,vaj hk]
 unfold zzg okF;simp only [ha];generalize o.code[k].a=ca
 by_cases h1:fk=1
 . subst h1
   simp only [if_true,vad,decide_eq_true_eq]
   constructor
   . rintro ⟨x1,x2,x3,x4⟩
     exact ⟨by omega,by omega,by omega,fun _=>by omega⟩
   . rintro ⟨x1,x2,x3,x4⟩
     have x5:=x4 trivial;omega
 . rw [if_neg h1]
   by_cases h2:fk=2\/fk=3
   . rw [if_pos h2]
     simp only [vad,decide_eq_true_eq]
     constructor
     . rintro ⟨x1,x2,x3,x4⟩
       exact ⟨by omega,by omega,by omega,fun e=>absurd e h1⟩
     . rintro ⟨x1,x2,x3,x4⟩
       clear x4;omega
   . rw [if_neg h2]
     constructor
     . intro h;cases h
     . rintro ⟨x1,x2,x3,x4⟩;clear x4;omega
theorem inb {n lo hi:Int} (h1:lo<=n) (h2:n<=hi):(decide (lo<=n)&&decide (n<=hi))=true:=by rw [decide_eq_true h1,decide_eq_true h2];rfl
theorem zxc {n lo hi:Int} (h:¬ (lo<=n/\n<=hi)):(decide (lo<=n)&&decide (n<=hi))=false:=by
 rw [vcp,decide_eq_false_iff_not,decide_eq_false_iff_not];omega
theorem zgx (o:Ob) (x1:OA) (y1:Nat) (x3:OA) (y3:Nat) (x4:OA) (y4:Nat) (x5:OA) (y5:Nat) (w:World) (hO:OvAt w o x1 x3 x4 x5) :
 Calls Tryz.prog 34 #[.agg #[.string o.name,.slice x1 o.uses.length y1,.int .i64 o.data,.slice x3 o.code.length y3,.slice x4 o.fixes.length y4,.slice x5 o.entries.length y5,.int .i64 o.main]] w fun e w'=>e = .returned (.int .i64 (oChk o))/\Below w.heap.size w w':=by
 have b1:=hO.uses.bound;have b3:=hO.code.bound;have b4:=hO.fixes.bound;have b5:=hO.entries.bound;have hX:=heap_newP w (.cells #[.string o.name,.slice x1 o.uses.length y1,.int .i64 o.data,.slice x3 o.code.length y3,.slice x4 o.fixes.length y4,.slice x5 o.entries.length y5,.int .i64 o.main] 62);have hb0:=al1 w (.cells #[.string o.name,.slice x1 o.uses.length y1,.int .i64 o.data,.slice x3 o.code.length y3,.slice x4 o.fixes.length y4,.slice x5 o.entries.length y5,.int .i64 o.main] 62);generalize hW:w.alloc (.cells #[.string o.name,.slice x1 o.uses.length y1,.int .i64 o.data,.slice x3 o.code.length y3,.slice x4 o.fixes.length y4,.slice x5 o.entries.length y5,.int .i64 o.main] 62)=W0 at *;have HX:=hid hX;have HO:=hid (hO.later hb0);have HB0:=hid hb0;have HM:Hid (zhy o=(decide (3<o.uses.length)||(decide (6<o.entries.length)||(decide (o.code.length<1)||decide (2048<o.code.length))))):=rfl
 have HM2:=hid (fun (h:zhy o=true)=>(by unfold oChk;rw [h];rfl:oChk o=2));obtain ⟨q0,q1,q2,q3,q4,q5,q6,qz⟩:=zaj hX;clear hO hX hb0
 by_cases t1:3<o.uses.length
 . have HR:=hid (HM2.out (by rw [HM.out,decide_eq_true t1];rfl))
   have t1':(3:Int)<o.uses.length:=by omega
   go_enter Tryz.func34,Tryz.ntmps34;go_wp2_with fail;go_ret;exact ⟨by rw [HR.out];first | done | rfl,HB0.out⟩
 by_cases t2:6<o.entries.length
 . have HR:=hid (HM2.out (by rw [HM.out,decide_eq_true t2];simp))
   have t1':¬ (3:Int)<o.uses.length:=by omega
   have t2':(6:Int)<o.entries.length:=by omega
   go_enter Tryz.func34,Tryz.ntmps34;go_wp2_with fail;go_ret;exact ⟨by rw [HR.out];first | done | rfl,HB0.out⟩
 have t1':¬ (3:Int)<o.uses.length:=by omega
 have t2':¬ (6:Int)<o.entries.length:=by omega
 by_cases t3:1<=o.code.length/\o.code.length<=2048
 case neg=>
  have HR:=hid (HM2.out (by rw [HM.out];simp only [vei,decide_eq_true_eq];omega));have HWi:=hid (fun W=>wi (o.code.length:Int) 1 2048 false (zxc (by omega)) W);go_enter Tryz.func34,Tryz.ntmps34;go_wp2_with fail;refine (HWi.out _).mono ?_;rintro e w' ⟨rfl,rfl⟩;go_wp2_with fail;go_ret;exact ⟨by rw [HR.out];first | done | rfl,HB0.out⟩
 have HMf:Hid (zhy o=false):=by show _=_;rw [HM.out];simp only [vay,decide_eq_false_iff_not];omega
 have HF:=hid (fun (h:(zd9 o&&(zd3 o&&zea o))=false)=>z52 HMf.out h);have HWi:=hid (fun W=>wi (o.code.length:Int) 1 2048 true (inb (by omega) (by omega)) W)
 obtain ⟨T,hT⟩:∃ T:Int,T=(o.code.length:Int) - 1:=⟨_,rfl⟩
 have hTw:IntKind.i64.wrap ((o.code.length:Int) - 1)=T:=by rw [hT];simp only [IntKind.wrap,IntKind.bits,IntKind.signed];simp;omega
 have HT:=hid hT;clear t1 t2 HM HM2 hT;go_enter Tryz.func34,Tryz.ntmps34;go_wp2_with fail;refine (HWi.out _).mono ?_;rintro e w' ⟨rfl,rfl⟩;obtain ⟨v4,w4,hr4,ho4,hg4⟩:=zck w'.heap.size 22 (.slice (some ⟨w'.heap.size,0,none⟩) 1 1) 1 (strV [o.name]) (z50 (heap_newP w' (.cells #[.string o.name] 9)) (vaa _)) o.uses x1 y1 (zef (HO.out.later (al1 w' (.cells #[.string o.name] 9))).uses).1 (by omega) (by simp);have hb4:Below w'.heap.size w' w4:=(al1 w' _).grown hg4 (by simp) (fun k hk=>by simp only [Value.ownBlock,vbh] at hk;omega);rw [show strV [o.name]++strV o.uses=strV (o.name :: o.uses) from rfl,show 1+o.uses.length=(o.name :: o.uses).length from by simp;omega] at ho4;obtain ⟨a4,c4,rfl,hS4⟩:=zjh ho4;have HR4:=hid hr4;have HB4:=hid hb4;have HS4:=hid hS4
 have HNs:Hid (∀ s ∈ o.name :: o.uses,s.size<=maxLen):=fun s hs=>by
  rcases vcm.1 hs with rfl | hs
  . exact HO.out.wn
  . exact (zef HO.out.uses).2 s hs
 have HN2:=hid (zy7 o);have HTw:=hid (Fx.z14 a4 c4 (o.name :: o.uses))
 have hnl:(o.name :: o.uses).length<=4:=by simp;omega
 clear hr4 hb4 ho4 hg4 hS4;generalize o.name :: o.uses=ns at *
 go_wp2_with (at_builtin;refine Lib.wpList_append_run _ rfl _ _ _ _ rfl _ _ rfl rfl _ w4 HR4.out ?_)
 clear hTw hW HWi HR4
 go_loopw [5] (fun i wr=>∃ j:Nat,j<=ns.length/\i = .int .i64 j/\(ns.take j).all nmB=true/\wr=w4) (fun i _=>ns.length - (intOf i).toNat)
 case atStart=>exact ⟨0,vae _,rfl,rfl,rfl⟩
 case round=>
  obtain ⟨j,hj,rfl,hall,rfl⟩:=hrel;have HL:=hid hall;clear hall
  by_cases hlt:j<ns.length
  . obtain ⟨b,off,rfl,hbl,c0⟩:=HS4.out.place hlt
    have HNm:=hid (zxf ns[j] wr (HNs.out _ (vap hlt)));have HA:=hid (fun (h:nmB ns[j]=true)=>(by rw [all_snoc ns nmB j hlt,HL.out,h];rfl:(ns.take (j+1)).all nmB=true));have HR:=hid (fun (h:nmB ns[j]=false)=>HF.out (by rw [HN2.out,all_not ns nmB j hlt h];rfl));unfold nmB at HA HR;generalize ns[j]=x at *;go_wp2_with fail;refine HNm.out.mono ?_;rintro e w5 ⟨rfl,rfl⟩
    cases hn:Lx.zbx x.data.toList with
    | false=>
      have HR':=hid (HR.out hn);go_wp2_with fail;go_ret;exact ⟨by rw [HR'.out];first | done | rfl,thenB HB0.out HB4.out⟩
    | true=>
      have HA':=hid (HA.out hn);go_wp2_with fail;go_roundw
      case rel=>exact ⟨j+1,by omega,by go_num,HA'.out,by first | rfl | trivial⟩
      case measure=>simp [intOf];omega
  . have HA : Hid (ns.all nmB=true):=zde HL.out hlt
    have HN3:Hid (zd9 o = !Fx.zgu (Fx.zbs ns)):=by show _=_;rw [HN2.out,HA.out];rfl
    go_wp2_with fail;refine (HTw.out wr HS4.out (by omega)).mono ?_;rintro e w5 ⟨rfl,hb5⟩;have HB5:=hid (thenB HB4.out hb5);have HBw:=hid (thenB HB0.out HB5.out);clear hb5 q0 q1 q2 q3 q4 q5 q6 qz;obtain ⟨q0,q1,q2,q3,q4,q5,q6,qz⟩:=zaj (zak HX.out HB5.out)
    cases hd:Fx.zgu (Fx.zbs ns) with
    | true=>
      have HR:=hid (HF.out (by rw [HN3.out,hd];rfl));go_wp2_with fail;go_ret;exact ⟨by rw [HR.out];first | done | rfl,HBw.out⟩
    | false=>
    have HN4:Hid (zd9 o=true):=by show _=_;rw [HN3.out,hd];rfl
    have HF2:=hid (fun (h:(zd3 o&&zea o)=false)=>HF.out (by rw [HN4.out,h];rfl));clear HF HN2 HN3 hd
    by_cases d1:0<=o.data/\o.data<=512
    case neg=>
     have HR:=hid (HF2.out (by rw [show zd3 o=false from by unfold zd3 ztq;rw [decide_eq_false d1];simp];rfl));have HWd:=hid (fun W=>wi o.data 0 512 false (zxc d1) W);clear d1;go_wp2_with fail;refine (HWd.out _).mono ?_;rintro e w6 ⟨rfl,rfl⟩;go_wp2_with fail;go_ret;exact ⟨by rw [HR.out];first | done | rfl,HBw.out⟩
    have HWd:=hid (fun W=>wi o.data 0 512 true (inb d1.1 d1.2) W)
    by_cases d2:0<=o.main/\o.main<=T
    case neg=>
     have HR:=hid (HF2.out (by rw [show zd3 o=false from by unfold zd3 ztq zbv;rw [decide_eq_false (p:=0<=o.main/\o.main<o.code.length) (by have:=HT.out;omega)];simp];rfl));have HWm:=hid (fun W=>wi o.main 0 T false (zxc d2) W);clear d1 d2;go_wp2_with fail;refine (HWd.out _).mono ?_;rintro e w6 ⟨rfl,rfl⟩;go_wp2_with fail;refine (HWm.out _).mono ?_;rintro e w6 ⟨rfl,rfl⟩;go_wp2_with fail;go_ret;exact ⟨by rw [HR.out];first | done | rfl,HBw.out⟩
    have HWm:=hid (fun W=>wi o.main 0 T true (inb d2.1 d2.2) W)
    have HDt:Hid (ztq o=true):=by show _=_;unfold ztq zbv;rw [decide_eq_true d1,decide_eq_true (p:=0<=o.main/\o.main<o.code.length) (by have:=HT.out;omega)];rfl
    clear d1 d2;go_wp2_with fail;refine (HWd.out _).mono ?_;rintro e w6 ⟨rfl,rfl⟩;go_wp2_with fail;refine (HWm.out _).mono ?_;rintro e w6 ⟨rfl,rfl⟩;go_wp2_with fail;clear HWd HWm;have HO6:=hid (HO.out.later HB5.out)
    go_loopw [6] (fun i wr=>∃ j:Nat,j<=o.code.length/\i = .int .i64 j/\(∀ k,k<j->z22 o k=true)/\wr=w6) (fun i _=>o.code.length - (intOf i).toNat)
    case atStart=>exact ⟨0,vae _,rfl,fun k hk=>absurd hk (vcv k),rfl⟩
    case round =>
     obtain ⟨j,hj,rfl,hall,rfl⟩:=hrel;have HL:=hid hall;clear hall
     by_cases hlt:j<o.code.length
     . obtain ⟨b3,off3,rfl,hbl3,c0,_,_,_,_,_⟩:=HO6.out.code.gi j hlt
       have HE:Hid (z22 o j=opB o.code[j]):=by show _=_;unfold z22;rw [vaj hlt]
       have HRn:=hid (fun (h:opB o.code[j]=false)=>HF2.out (by rw [show zd3 o=false from by unfold zd3;rw [zc7 hlt (HE.out.trans h)];rfl];rfl));have HTn:=hid (fun (h:opB o.code[j]=true)=>zfh HL.out (HE.out.trans h));generalize o.code[j]=p at *
       by_cases t:1<=p.op/\p.op<=22
       case neg=>
        have HR:=hid (HRn.out (decide_eq_false t));have HWo:=hid (fun W=>wi p.op 1 22 false (zxc t) W);clear t;go_wp2_with fail;refine (HWo.out _).mono ?_;rintro e w7 ⟨rfl,rfl⟩;go_wp2_with fail;go_ret;exact ⟨by rw [HR.out];first | done | rfl,HBw.out⟩
       have HTt:=hid (HTn.out (decide_eq_true t));have HWo:=hid (fun W=>wi p.op 1 22 true (inb t.1 t.2) W);clear t;go_wp2_with fail;refine (HWo.out _).mono ?_;rintro e w7 ⟨rfl,rfl⟩;go_wp2_with fail;go_roundw
       case rel=>exact ⟨j+1,by omega,by go_num,HTt.out,by first | rfl | trivial⟩
       case measure=>simp [intOf];omega
     . obtain rfl : j = o.code.length:=by omega
       have HC1:Hid (zd3 o=zic o.entries.length (znm o)):=by show _=_;unfold zd3;rw [zbk.2 HL.out,HDt.out];simp
       go_wp2_with fail
       go_loopw [7] (fun i wr'=>∃ j:Nat,j<=o.entries.length/\i = .int .i64 j/\(∀ k,k<j->znm o k=true)/\wr'=wr) (fun i _=>o.entries.length - (intOf i).toNat)
       case atStart=>exact ⟨0,vae _,rfl,fun k hk=>absurd hk (vcv k),rfl⟩
       case round =>
        obtain ⟨j,hj,rfl,hall,rfl⟩:=hrel;have HL:=hid hall;clear hall
        by_cases hlt:j<o.entries.length
        . obtain ⟨b5',off5,rfl,hbl5,c0,_⟩:=HO6.out.entries.num j hlt
          have HE:Hid (znm o j=zbv o o.entries[j]):=by show _=_;unfold znm;rw [vaj hlt]
          have HRn:=hid (fun (h:zbv o o.entries[j]=false)=>HF2.out (by rw [HC1.out,zc7 hlt (HE.out.trans h)];rfl));have HTn:=hid (fun (h:zbv o o.entries[j]=true)=>zfh HL.out (HE.out.trans h));generalize o.entries[j]=p at *
          by_cases t:0<=p/\p<=T
          case neg=>
           have HR:=hid (HRn.out (decide_eq_false (by have:=HT.out;omega)));have HWo:=hid (fun W=>wi p 0 T false (zxc t) W);clear t;go_wp2_with fail;refine (HWo.out _).mono ?_;rintro e w7 ⟨rfl,rfl⟩;go_wp2_with fail;go_ret;exact ⟨by rw [HR.out];first | done | rfl,HBw.out⟩
          have HTt:=hid (HTn.out (decide_eq_true (by have:=HT.out;omega)));have HWo:=hid (fun W=>wi p 0 T true (inb t.1 t.2) W);clear t;go_wp2_with fail;refine (HWo.out _).mono ?_;rintro e w7 ⟨rfl,rfl⟩;go_wp2_with fail;go_roundw
          case rel=>exact ⟨j+1,by omega,by go_num,HTt.out,by first | rfl | trivial⟩
          case measure=>simp [intOf];omega
        . obtain rfl : j=o.entries.length:=by omega
          have HC2:Hid (zd3 o=true):=by show _=_;rw [HC1.out,zbk.2 HL.out]
          have HF3:=hid (fun (h:zea o=false)=>HF2.out (by rw [HC2.out,h];rfl));have HOK:=hid (fun (h:zea o=true)=>(by unfold oChk;rw [HMf.out,HN4.out,HC2.out,h];rfl:oChk o=0));clear q0 q1 q2 q3 q4 q5 q6 qz;have HXr:=hid (zak HX.out HB5.out);have HIn:Hid (∀ n lo hi W,Calls Tryz.prog 63 #[.int .i64 n,.int .i64 lo,.int .i64 hi] W fun e w'=>e = .returned (.bool (inB n lo hi))/\w'=W):=z53;have qz:=zab HXr.out;obtain ⟨q0,q1,q2,q3,q4,q5,q6,_⟩:=zaj HXr.out;go_wp2_with fail;clear q0 q1 q2 q3 q4 q5 q6 qz;generalize hV:wr=V at *
          go_loopw [8] (fun i wr'=>∃ j:Nat,j<=o.fixes.length/\i = .int .i64 j/\(∀ k,k<j->zg1 o k=true)/\Below V.heap.size V wr') (fun i _=>o.fixes.length - (intOf i).toNat)
          case atStart=>exact ⟨0,vae _,rfl,fun k hk=>absurd hk (vcv k),Below.refl _ _⟩
          case round =>
           obtain ⟨j,hj,rfl,hall,hb⟩:=hrel;have HL:=hid hall;have HBr:=hid hb;have HBV:=hid (thenB HBw.out hb);obtain ⟨q0,q1,q2,q3,q4,q5,q6,_⟩:=zaj (zak HXr.out hb);have qz:=zab (zak HXr.out hb);clear hall hb
           by_cases hlt:j<o.fixes.length
           . obtain ⟨b4',off4,rfl,hbl4,f0,f1,f2,_,_,_⟩:=(HO6.out.later HBr.out).fixes.gf j hlt
             have HE:Hid (zg1 o j=(decide (lastAt o j<o.fixes[j].at_)&&(zbv o o.fixes[j].at_&&zzg o o.fixes[j]))):=by show _=_;unfold zg1;rw [vaj hlt]
             have HRn:=hid (fun (h:zg1 o j=false)=>HF3.out (by unfold zea;exact zc7 hlt h));have HTn:=hid (fun (h:zg1 o j=true)=>zfh HL.out h)
             cases j with
             | zero =>
               rw [show ((0:Nat):Int)=0 from rfl];generalize hf:o.fixes[0]=f at *;obtain ⟨fa,fk,fm⟩:=f;simp only [vbo,vbw] at f0 f1 f2 hbl4;simp only at HE;clear hf
               by_cases tA:0<=fa/\fa<=T
               case neg=>
                have HR:=hid (HRn.out (by rw [HE.out,show zbv o fa=false from decide_eq_false (by have:=HT.out;omega)];simp));have hA:inB fa 0 T=false:=zxc tA;clear tA
                as_aux_lemma=>
                 go_wp2_with fail
                 go_quiet ((go_at_call 63;exact Calls.quiet_of_same (HIn.out _ _ _ _)))
                 go_wp2_with fail;go_ret;exact ⟨by rw [HR.out];first | done | rfl,thenB HBV.out (zdw (al1 _ _) _)⟩
               have hA:inB fa 0 T=true:=inb tA.1 tA.2
               obtain ⟨k,hk⟩:∃ k:Nat,fa=k:=⟨fa.toNat,by omega⟩
               have hkl:k<o.code.length:=by have:=HT.out;omega
               have HPl:Hid (zbv o fa=true):=decide_eq_true (by have:=HT.out;omega);clear tA;subst hk
               have HE2:Hid (zg1 o 0=zzg o ⟨k,fk,fm⟩):=by show _=_;rw [HE.out,HPl.out,decide_eq_true (p:=lastAt o 0<(k:Int)) (by show (-1:Int)<k;omega)];rfl
               obtain ⟨b3,off3,rfl,hbl3,_,a1,_,_,_,_⟩:=(HO6.out.later HBr.out).code.gi k hkl;have HIff:=hid (zvs (o:=o) (fk:=fk) (fm:=fm) hkl (by omega));generalize o.code[k].a=ca at *
               by_cases tC:1<=fk/\fk<=3
               case neg=>
                have HR:=hid (HRn.out (HE2.out.trans (vbv.2 (fun h=>tC (HIff.out.1 h).1))));have hC:inB fk 1 3=false:=zxc tC;clear tC
                as_aux_lemma=>
                 go_wp2_with fail
                 go_quiet ((go_at_call 63;exact Calls.quiet_of_same (HIn.out _ _ _ _)))
                 go_wp2_with fail;go_ret;exact ⟨by rw [HR.out];first | done | rfl,thenB HBV.out (zdw (al1 _ _) _)⟩
               have hC:inB fk 1 3=true:=inb tC.1 tC.2
               by_cases tD:0<=fm/\fm<=o.uses.length
               case neg=>
                have HR:=hid (HRn.out (HE2.out.trans (vbv.2 (fun h=>tD (HIff.out.1 h).2.1))));have hD:inB fm 0 (o.uses.length:Int)=false:=zxc tD;clear tC tD
                as_aux_lemma=>
                 go_wp2_with fail
                 go_quiet ((go_at_call 63;exact Calls.quiet_of_same (HIn.out _ _ _ _)))
                 go_wp2_with fail;go_ret;exact ⟨by rw [HR.out];first | done | rfl,thenB HBV.out (zdw (al1 _ _) _)⟩
               have hD:inB fm 0 (o.uses.length:Int)=true:=inb tD.1 tD.2
               by_cases tE:0<=ca/\ca<=2048
               case neg=>
                have HR:=hid (HRn.out (HE2.out.trans (vbv.2 (fun h=>tE (HIff.out.1 h).2.2.1))));have hE:inB ca 0 2048=false:=zxc tE;clear tC tD tE
                as_aux_lemma=>
                 go_wp2_with fail
                 go_quiet ((go_at_call 63;exact Calls.quiet_of_same (HIn.out _ _ _ _)))
                 go_wp2_with fail;go_ret;exact ⟨by rw [HR.out];first | done | rfl,thenB HBV.out (zdw (al1 _ _) _)⟩
               have hE:inB ca 0 2048=true:=inb tE.1 tE.2
               by_cases tG:fk=1
               . by_cases tM:fm=0
                 . by_cases tL:ca<=o.code.length
                   . have HTt:=hid (HTn.out (HE2.out.trans (HIff.out.2 ⟨tC,tD,tE,fun _=>⟨tM,tL⟩⟩)))
                     have tL':¬ (o.code.length:Int)<ca:=by omega
                     subst tG;subst tM;clear tC tD tE tL
                     as_aux_lemma=>
                      go_wp2_with fail
                      go_quiet ((go_at_call 63;exact Calls.quiet_of_same (HIn.out _ _ _ _)))
                      go_wp2_with fail;go_roundw
                      case rel=>exact ⟨0+1,by omega,by go_num,HTt.out,thenB HBr.out (zdw (al1 _ _) _)⟩
                      case measure=>simp [intOf];omega
                   . have HR:=hid (HRn.out (HE2.out.trans (vbv.2 (fun h=>tL ((HIff.out.1 h).2.2.2 tG).2))))
                     have tL':(o.code.length:Int)<ca:=by omega
                     subst tG;subst tM;clear tC tD tE tL
                     as_aux_lemma=>
                      go_wp2_with fail
                      go_quiet ((go_at_call 63;exact Calls.quiet_of_same (HIn.out _ _ _ _)))
                      go_wp2_with fail;go_ret;exact ⟨by rw [HR.out];first | done | rfl,thenB HBV.out (zdw (al1 _ _) _)⟩
                 . have HR:=hid (HRn.out (HE2.out.trans (vbv.2 (fun h=>tM ((HIff.out.1 h).2.2.2 tG).1))))
                   have hM1:(fm != 0)=true:=by simpa using tM
                   have hM2:(fm == 0)=false:=by simpa using tM
                   subst tG;clear tC tD tE
                   as_aux_lemma=>
                    go_wp2_with fail
                    go_quiet ((go_at_call 63;exact Calls.quiet_of_same (HIn.out _ _ _ _)))
                    go_wp2_with fail;go_ret;exact ⟨by rw [HR.out];first | done | rfl,thenB HBV.out (zdw (al1 _ _) _)⟩
               . have HTt:=hid (HTn.out (HE2.out.trans (HIff.out.2 ⟨tC,tD,tE,fun e=>absurd e tG⟩)))
                 have dG:decide (fk=1)=false:=decide_eq_false tG
                 have dG1:(fk == 1)=false:=by simpa using tG
                 clear tC tD tE tG
                 as_aux_lemma=>
                  go_wp2_with fail
                  go_quiet ((go_at_call 63;exact Calls.quiet_of_same (HIn.out _ _ _ _)))
                  go_wp2_with fail;go_roundw
                  case rel=>exact ⟨0+1,by omega,by go_num,HTt.out,thenB HBr.out (zdw (al1 _ _) _)⟩
                  case measure=>simp [intOf];omega
             | succ j =>
               obtain ⟨_,_,he,_,g0,_,_,_,_,_⟩:=(HO6.out.later HBr.out).fixes.gf j (by omega);cases he
               have HLa:Hid (lastAt o (j+1)=o.fixes[j].at_):=by show (match o.fixes[j]? with | some f=>f.at_ | none=>-1)=_;rw [vaj (by omega)]
               generalize o.fixes[j+1]=f at *;generalize o.fixes[j]=g at *;obtain ⟨fa,fk,fm⟩:=f;simp only at f0 f1 f2 HE
               by_cases tA:0<=fa/\fa<=T
               case neg=>
                have HR:=hid (HRn.out (by rw [HE.out,show zbv o fa=false from decide_eq_false (by have:=HT.out;omega)];simp));have hA:inB fa 0 T=false:=zxc tA;clear tA
                as_aux_lemma=>
                 go_wp2_with fail
                 go_quiet ((go_at_call 63;exact Calls.quiet_of_same (HIn.out _ _ _ _)))
                 go_wp2_with fail;go_ret;exact ⟨by rw [HR.out];first | done | rfl,thenB HBV.out (zdw (al1 _ _) _)⟩
               have hA:inB fa 0 T=true:=inb tA.1 tA.2
               obtain ⟨k,hk⟩:∃ k:Nat,fa=k:=⟨fa.toNat,by omega⟩
               have hkl:k<o.code.length:=by have:=HT.out;omega
               have HPl:Hid (zbv o fa=true):=decide_eq_true (by have:=HT.out;omega);clear tA;subst hk
               by_cases tB:g.at_<(k:Int)
               case neg=>
                have HR:=hid (HRn.out (by rw [HE.out,HLa.out,decide_eq_false tB];rfl))
                have tB':(k:Int)<=g.at_:=by omega
                clear tB
                as_aux_lemma=>
                 go_wp2_with fail
                 go_quiet ((go_at_call 63;exact Calls.quiet_of_same (HIn.out _ _ _ _)))
                 go_wp2_with fail;go_ret;exact ⟨by rw [HR.out];first | done | rfl,thenB HBV.out (zdw (al1 _ _) _)⟩
               have HE2:Hid (zg1 o (j+1)=zzg o ⟨k,fk,fm⟩):=by show _=_;rw [HE.out,HLa.out,HPl.out,decide_eq_true tB];rfl
               have tB1:¬ ((k:Int)<=g.at_):=by omega
               have tB2:decide ((k:Int)<=g.at_)=false:=decide_eq_false tB1;obtain ⟨b3,off3,rfl,hbl3,_,a1,_,_,_,_⟩:=(HO6.out.later HBr.out).code.gi k hkl;have HIff:=hid (zvs (o:=o) (fk:=fk) (fm:=fm) hkl (by omega));generalize o.code[k].a=ca at *
               by_cases tC:1<=fk/\fk<=3
               case neg=>
                have HR:=hid (HRn.out (HE2.out.trans (vbv.2 (fun h=>tC (HIff.out.1 h).1))));have hC:inB fk 1 3=false:=zxc tC;clear tC
                as_aux_lemma=>
                 go_wp2_with fail
                 go_quiet ((go_at_call 63;exact Calls.quiet_of_same (HIn.out _ _ _ _)))
                 go_wp2_with fail;go_ret;exact ⟨by rw [HR.out];first | done | rfl,thenB HBV.out (zdw (al1 _ _) _)⟩
               have hC:inB fk 1 3=true:=inb tC.1 tC.2
               by_cases tD:0<=fm/\fm<=o.uses.length
               case neg=>
                have HR:=hid (HRn.out (HE2.out.trans (vbv.2 (fun h=>tD (HIff.out.1 h).2.1))));have hD:inB fm 0 (o.uses.length:Int)=false:=zxc tD;clear tC tD
                as_aux_lemma=>
                 go_wp2_with fail
                 go_quiet ((go_at_call 63;exact Calls.quiet_of_same (HIn.out _ _ _ _)))
                 go_wp2_with fail;go_ret;exact ⟨by rw [HR.out];first | done | rfl,thenB HBV.out (zdw (al1 _ _) _)⟩
               have hD:inB fm 0 (o.uses.length:Int)=true:=inb tD.1 tD.2
               by_cases tE:0<=ca/\ca<=2048
               case neg=>
                have HR:=hid (HRn.out (HE2.out.trans (vbv.2 (fun h=>tE (HIff.out.1 h).2.2.1))));have hE:inB ca 0 2048=false:=zxc tE;clear tC tD tE
                as_aux_lemma=>
                 go_wp2_with fail
                 go_quiet ((go_at_call 63;exact Calls.quiet_of_same (HIn.out _ _ _ _)))
                 go_wp2_with fail;go_ret;exact ⟨by rw [HR.out];first | done | rfl,thenB HBV.out (zdw (al1 _ _) _)⟩
               have hE:inB ca 0 2048=true:=inb tE.1 tE.2
               by_cases tG:fk=1
               . by_cases tM:fm=0
                 . by_cases tL:ca<=o.code.length
                   . have HTt:=hid (HTn.out (HE2.out.trans (HIff.out.2 ⟨tC,tD,tE,fun _=>⟨tM,tL⟩⟩)))
                     have tL':¬ (o.code.length:Int)<ca:=by omega
                     subst tG;subst tM;clear tC tD tE tL
                     as_aux_lemma=>
                      go_wp2_with fail
                      go_quiet ((go_at_call 63;exact Calls.quiet_of_same (HIn.out _ _ _ _)))
                      go_wp2_with fail;go_roundw
                      case rel=>exact ⟨(j+1)+1,by omega,by go_num,HTt.out,thenB HBr.out (zdw (al1 _ _) _)⟩
                      case measure=>simp [intOf];omega
                   . have HR:=hid (HRn.out (HE2.out.trans (vbv.2 (fun h=>tL ((HIff.out.1 h).2.2.2 tG).2))))
                     have tL':(o.code.length:Int)<ca:=by omega
                     subst tG;subst tM;clear tC tD tE tL
                     as_aux_lemma=>
                      go_wp2_with fail
                      go_quiet ((go_at_call 63;exact Calls.quiet_of_same (HIn.out _ _ _ _)))
                      go_wp2_with fail;go_ret;exact ⟨by rw [HR.out];first | done | rfl,thenB HBV.out (zdw (al1 _ _) _)⟩
                 . have HR:=hid (HRn.out (HE2.out.trans (vbv.2 (fun h=>tM ((HIff.out.1 h).2.2.2 tG).1))))
                   have hM1:(fm != 0)=true:=by simpa using tM
                   have hM2:(fm == 0)=false:=by simpa using tM
                   subst tG;clear tC tD tE
                   as_aux_lemma=>
                    go_wp2_with fail
                    go_quiet ((go_at_call 63;exact Calls.quiet_of_same (HIn.out _ _ _ _)))
                    go_wp2_with fail;go_ret;exact ⟨by rw [HR.out];first | done | rfl,thenB HBV.out (zdw (al1 _ _) _)⟩
               . have HTt:=hid (HTn.out (HE2.out.trans (HIff.out.2 ⟨tC,tD,tE,fun e=>absurd e tG⟩)))
                 have dG:decide (fk=1)=false:=decide_eq_false tG
                 have dG1:(fk == 1)=false:=by simpa using tG
                 clear tC tD tE tG
                 as_aux_lemma=>
                  go_wp2_with fail
                  go_quiet ((go_at_call 63;exact Calls.quiet_of_same (HIn.out _ _ _ _)))
                  go_wp2_with fail;go_roundw
                  case rel=>exact ⟨(j+1)+1,by omega,by go_num,HTt.out,thenB HBr.out (zdw (al1 _ _) _)⟩
                  case measure=>simp [intOf];omega
           . obtain rfl:j=o.fixes.length:=by omega
             have HR:=hid (HOK.out (by unfold zea;exact zbk.2 HL.out));go_wp2_with fail;go_ret;exact ⟨by rw [HR.out];first | done | rfl,HBV.out⟩
end Go.Proofs.YtndkhgakfodldaaGreatDoor
