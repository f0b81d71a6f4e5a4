import Derived.Test.YtndkhgakfodldaaGreatDoorLeaf
import Derived.Test.YtndkhgakfodldaaGreatDoorShelf
import Derived.Test.YtndkhgakfodldaaGreatDoorNum
namespace Go.Proofs.YtndkhgakfodldaaGreatDoor
set_option maxRecDepth 100000
set_option maxHeartbeats 400000
open Go.RowKit
theorem ah{P:Prop}(h:P:=by kernel_rfl):P:=h
theorem aX{P:Prop}(h:P:=by (simp [results,Tryz.results256,go_sem,Mg.val,mg0])):P:=h
theorem bm{P:Prop}(h:P:=by (simp [results,Tryz.results162,go_sem,r0,r1_,r2_,r3_,r4,r5,r6,Ch])):P:=h
theorem bp{P:Prop}(h:P:=by (simp [results,Tryz.results283,go_sem,h0,h1,h2,h3,h4])):P:=h
theorem bt{P:Prop}(h:P:=by (simp [results,Tryz.results254,go_sem,h0,h1,h2,h3,h4,h5])):P:=h
theorem bB{P:Prop}(h:P:=by (simp [results,Tryz.results205,go_sem,h0,h1,h2,h3,h4,h5,h6,A0])):P:=h
theorem bM{P:Prop}(h:P:=by (simp [results,Tryz.results288,go_sem,h0,h1,h2,h3,h4,A0])):P:=h
theorem b6{P:Prop}(h:P:=by (simp [results,Tryz.results258,go_sem,h0,h1,h2,h3,h4,A0])):P:=h
theorem b8{P:Prop}(h:P:=by (simp [results,Tryz.results21,go_sem,r0,r1,r2,r3,r4,Eu])):P:=h
theorem cA{P:Prop}(h:P:=by (simp [results,Tryz.results55,go_sem,h0,h1,h2,h3,h4])):P:=h
theorem cH{P:Prop}(h:P:=by (simp [results,Tryz.results199,go_sem,h0,h1,h2,h3])):P:=h
theorem cN{P:Prop}(h:P:=by (simp [go_sem])):P:=h
theorem cQ{P:Prop}(h:P:=by (simp [results,Tryz.results40,go_sem,r0,r1,Ia])):P:=h
theorem cR{P:Prop}(h:P:=by (simp [results,Tryz.results41,go_sem,r0,r1,Dk])):P:=h
theorem cV{P:Prop}(h:P:=by (simp [results,Tryz.results194,go_sem,Tk.val])):P:=h
theorem dJ{P:Prop}(h:P:=by (simp [results,Tryz.results282,go_sem,h0,h1,h2,h3,h4,h5])):P:=h
theorem dP{P:Prop}(h:P:=by (simp [results,Tryz.results64,go_sem,r0,r1,r2,r3,r4,Dk])):P:=h
theorem dQ{P:Prop}(h:P:=by (simp [results,Tryz.results21,go_sem,r0,r1,r2,r3,r4,Dk])):P:=h
theorem dR{P:Prop}(h:P:=by (simp [results,Tryz.results21,go_sem,r0,r1,r2,r3,r4,Ka])):P:=h
theorem fs{P:Prop}(h:P:=by
 go_wp2_with fail;refine (HI.out l[j].body a2 p2 _ (HX.out.body.later As) ((HS.out.later hb).later As) ((HU.out.later hb).later As) (HM.out j A0).2.1).mono ?_
 cases h7:zau k l[j].body with
 | false=>
   rintro e w6 ⟨rfl,c6⟩;have AK:=thenB As c6;clear c6;go_wp2_with fail;go_ret;exact ⟨ret_bool (HF.out (by simp [h7])).symm,thenB hb AK⟩
 | true=>
   rintro e w6 ⟨rfl,c6⟩;have B0:=K0.out.later c6;have B1:=K1.out.later c6;have B2:=K2.out.later c6;have AK:=thenB As c6;clear c6 K0 K1 K2;clear q0 q1 qz x0 x1 x2 x3 x4 x5 xz y0 y1 y2 y3 y4 y5 yz;obtain ⟨q0,q1,qz⟩:=B0.c2;obtain ⟨x0,x1,x2,x3,x4,x5,xz⟩:=B1.c6;obtain ⟨y0,y1,y2,y3,y4,y5,yz⟩:=B2.c6;have K0:Hid (Blk w6 w.heap.size [.map (some be),.map (some bs)]):=B0;have K1:Hid (Blk w6 wr.heap.size [qi l[j].op,.string l[j].mod,.string l[j].name,.slice a1 l[j].args.length p1,.slice a2 l[j].body.length p2,.slice a3 l[j].other.length p3]):=B1;have K2:Hid (Blk w6 (wr.heap.size+1) [.bool s.named,.bool s.number,qi s.least,qi s.most,.bool s.body,.bool s.other]):=B2;clear B0 B1 B2;go_wp2_with fail;refine (HI.out l[j].other a3 p3 _ (HX.out.other.later AK) ((HS.out.later hb).later AK) ((HU.out.later hb).later AK) (HM.out j A0).2.2).mono ?_
   cases h8:zau k l[j].other with
   | false=>
     rintro e w7 ⟨rfl,c7⟩;have AR:=thenB AK c7;clear c7;go_wp2_with fail;go_ret;exact ⟨ret_bool (HF.out (by simp [h8])).symm,thenB hb AR⟩
   | true=>
     rintro e w7 ⟨rfl,c7⟩;have K0':=K0.out.later c7;have AR:=thenB AK c7;clear c7;have Bc:Hid ((l.take (j+1)).all (fun s=>zc5 (stS s.op) s.mod s.name&&(zbd (stS s.op) s.args.length&&(zbk 6 s.args&&(((stS s.op).body||decide (s.body.length=0))&&(((stS s.op).other||decide (s.other.length=0))&&(zau k s.body&&zau k s.other))))))=true):=HT.out cC;go_wp2_with fail;go_roundw
     case rel=>exact ⟨j+1,ae,aR,Bc.out,thenB hb AR,K0'⟩
     case measure=>simp [intOf];omega):P:=h
theorem fY{P:Prop}(h:P:=by
 rintro e w8 ⟨rfl,AW⟩;have k0:=Aw.out.later AW;have k1:=A8.out.later AW;go_wp2_with fail;go_roundw
 case rel=>exact ⟨j+1,ae,aR,HT.out,thenB AR AW,k0,k1⟩
 case measure=>simp [intOf];omega):P:=h
theorem gG{P:Prop}(h:P:=by
 go_wp2_with fail
 go_loopw [10] (fun i wr=>i=qi 0/\qb w wr) (fun _ _=>0)
 case atStart=>exact ⟨rfl,al1 _ _⟩
 case round=>
  obtain ⟨rfl,hb⟩:=hrel;go_wp2_with fail;go_ret;exact ⟨ret_bool HR.out.symm,hb⟩):P:=h
theorem gU{P:Prop}(h:P:=by
 clear ZK ZR zs DO CZ C9;go_wp2_with fail;go_roundw
 case rel=>exact ⟨g,A5++[y],ly.tail,_,Og,aF,aF,Ll.out,cw⟩
 case measure=>rw [Ll.out.rd.left,EN.out];simp;omega):P:=h
theorem gW{P:Prop}(h:P:=by
 go_wp2_with fail;go_roundw
 case rel=>exact ⟨j+1,ae,aR,HT.out,thenB hb (al1 _ _),Aw.out.later (al1 _ _),A8.out.later (al1 _ _)⟩
 case measure=>simp [intOf];omega):P:=h
theorem ie{P:Prop}(h:P:=by
 go_enter Tryz.func146,Tryz.ntmps146;go_wp2_with fail;refine bodyPost_ret (v:=plV l k xk nk yk) (by simp [results,Tryz.results146,go_sem,r0,r1,r2,r3,CJ]) rfl ⟨rfl,bl2 _ _ _⟩):P:=h
theorem zfn (s:ByteArray) (w:World) :
 qc 203 #[.string s] w fun e w'=>e = .returned (.bool (Lx.zkd s.data.toList))/\w'=w:=by
 by_cases h1:s.size=1
 . have h0:0<s.size:=by omega
   have HN:Hid (Lx.zkd s.data.toList=decide (0<=Lib.indexByte zyo.data.toList s[0])):=by
    have:=Lx.zmz s[0];exact (Lx.zzo s h1).trans this.symm
   have Ah:((s.size:Int) == 1)=true:=by rw [beq_iff_eq];omega
   clear h1;go_enter Tryz.func203,Tryz.ntmps203
   go_wp2_with (go_at_call 255;refine (Tryz.strings_IndexByte zyo _ _).mono ?_;rintro e w' ⟨rfl,rfl⟩)
   all_goals go_ret
   all_goals exact ⟨ret_bool (by rw [HN.out];simp),rfl⟩
 . have HN:Hid (Lx.zkd s.data.toList=false):=Lx.ztb s h1
   have Ah:((s.size:Int) == 1)=false:=by rw [beq_eq_false_iff_ne];omega
   clear h1;go_enter Tryz.func203,Tryz.ntmps203;go_wp2_with fail;exact gX
def zai:List PanicEntry:=[{ v:=.iface 31 (qi 1),recovered:=false }]
def zjv (l:L8):Ending:=if Lx.zhc l then .returned (qi (Lx.valL l)) else .panicked zai
theorem zni {l:L8} (h:Lx.zhc l=true):zjv l = .returned (qi (Lx.valL l)):=by unfold zjv;rw [h];rfl
theorem zh7 {l:L8} (h:Lx.zhc l=false):zjv l = .panicked zai:=by unfold zjv;rw [h];rfl
theorem znj (s:ByteArray) (w:World) (hs:s.size<=maxLen) :
 qc 250 #[.string s] w fun e w'=>e=zjv s.data.toList/\w'=w:=by
 unfold maxLen at hs
 by_cases E8:∃ h:1<s.size,s[0]=48
 . obtain ⟨h1,h0⟩:=E8
   have HN:Hid (zjv s.data.toList = .panicked zai):=zh7 (Lx.zwv _ (Lx.z2u s h1 h0))
   have hb:(((s[0].toNat:Nat):Int) == 48)=true:=by rw [h0];rfl
   clear h0;go_enter Tryz.func250,Tryz.ntmps250;go_wp2_with fail;exact ⟨rfl,HN.out.symm,rfl⟩
 . have HL : Hid (Lx.znu s.data.toList=true):=Lx.zzm s (fun h1 h0=>E8 ⟨h1,h0⟩)
   have Fb:(¬ 1<s.size)\/∃ h:1<s.size,(((s[0].toNat:Nat):Int) == 48)=false:=by
    by_cases h1:1<s.size
    . refine Or.inr ⟨h1,?_⟩
      rw [beq_eq_false_iff_ne];intro e;exact E8 ⟨h1,veh.1 (by show s[0].toNat=48;omega)⟩
    . exact Or.inl h1
   clear E8
   rcases Fb with h1 | ⟨h1,hb⟩
   all_goals
    go_enter Tryz.func250,Tryz.ntmps250;go_wp2_with fail
    go_loop [16,3,4] (fun i n _=>∃ k:Nat,k<=s.size/\i=qi k/\n=qi (Lx.valL (s.data.toList.take k))/\(s.data.toList.take k).all Lx.zi7=true/\Lx.valL (s.data.toList.take k)<=1099511627775) (fun i _ _=>s.size - (intOf i).toNat)
    case atStart=>exact ⟨0,vaf _,rfl,rfl,rfl,by simp [Lx.valL]⟩
    case round=>
     obtain ⟨k,hk,rfl,rfl,A7,hv⟩:=hrel;have HA:Hid ((s.data.toList.take k).all Lx.zi7=true):=A7;clear A7
     by_cases A0:k<s.size
     . by_cases hd:Lx.zi7 s[k]=true
       . have HS:Hid ((s.data.toList.take (k+1)).all Lx.zi7=((s.data.toList.take k).all Lx.zi7&&Lx.zi7 s[k])):=Lx.zf1 s k A0 Lx.zi7
         have HV:Hid (Lx.valL (s.data.toList.take (k+1))=10*Lx.valL (s.data.toList.take k)+Lx.dv s[k]):=Lx.zo7 s k A0;have hr:=Lx.zzl _ hd
         have HB:Hid (Lx.valL (s.data.toList.take (k+1))<=1099511627775\/Lx.zhc s.data.toList=false):=by
          by_cases hm:Lx.valL (s.data.toList.take (k+1))<=1099511627775
          . exact Or.inl hm
          . exact Or.inr (Lx.zzn s (k+1) ae)
         generalize hV:Lx.valL (s.data.toList.take k)=V at *;have UV:Hid (Lx.valL (s.data.toList.take k)=V):=hV;clear hV;obtain ⟨BJ,Es⟩:=hr
         go_wp2_with (go_at_call 249;refine (zb0 _ _).mono ?_;rintro e w' ⟨rfl,rfl⟩)
         . have hN:Lx.zhc s.data.toList=false:=by
            rcases HB.out with h | h
            . rw [HV.out] at h;unfold Lx.dv at h;omega
            . exact h
           exact ⟨rfl,(zh7 hN).symm,rfl⟩
         . go_round
           case rel=>exact ⟨k+1,ae,aR,by rw [HV.out];unfold Lx.dv;go_num,by rw [HS.out,HA.out];simp [hd],by rw [HV.out];unfold Lx.dv;omega⟩
           case measure=>simp [intOf];omega
       . have Fo:Lx.zi7 s[k]=false:=by simpa using hd
         clear hd;have HN:Hid (zjv s.data.toList = .panicked zai):=zh7 (Lx.zmy _ (Lx.ztj s k A0 _ Fo))
         go_wp2_with (go_at_call 249;refine (zb0 _ _).mono ?_;rintro e w' ⟨rfl,rfl⟩)
         exact ⟨rfl,HN.out.symm,rfl⟩
     . obtain rfl:k=s.size:=by omega
       have HN:Hid (zjv s.data.toList = .returned (qi (Lx.valL (s.data.toList.take s.size)))):=by
        have hT:s.data.toList.take s.size=s.data.toList:=vav (by rw [Lx.za0];exact vaa _);rw [hT] at HA hv ⊢;exact zni (by unfold Lx.zhc;rw [HA.out,HL.out];simp;exact hv)
       go_wp2_with fail;go_ret;exact ⟨HN.out.symm,rfl⟩
def strOf (l:L8):ByteArray:=⟨l.toArray⟩
theorem strOf_list (l:L8):(strOf l).data.toList=l:=by simp [strOf]
theorem strOf_back (s:ByteArray):strOf s.data.toList=s:=by simp [strOf]
theorem strOf_size (l:L8):(strOf l).size=l.length:=by simp [strOf,ByteArray.size]
structure Tk where
 kind:Int
 n:Int
 text:ByteArray
def Tk.val (t:Tk):Value:=.agg #[qi t.kind,qi t.n,.string t.text]
def zc9 (s:ByteArray):Option Tk:=
 if Lx.zkd s.data.toList then some ⟨3,0,s⟩ else if Lx.zbw s.data.toList then some ⟨1,0,s⟩ else if Lx.zhc s.data.toList then some ⟨2,Lx.valL s.data.toList,⟨#[]⟩⟩ else none
theorem zqt (s:ByteArray) (w:World) (hs:s.size<=281474976710656) :
 qc 173 #[.string s] w fun e w'=>e = .returned (.string s)/\qb w w':=by
 go_enter Tryz.func173,Tryz.ntmps173
 go_wp2_with (go_at_call 220;refine (Tryz.stringslite_Clone s _ hs).mono ?_;rintro e w' ⟨rfl,hb⟩)
 exact jZ
theorem zqu (s:ByteArray) (w:World) (hs:s.size<=maxLen) :
 qc 194 #[.string s] w fun e w'=>((∃ t,zc9 s=some t/\e = .returned t.val)\/(zc9 s=none/\e = .panicked zai))/\qb w w':=by
 by_cases h1:Lx.zkd s.data.toList=true
 . have HT:Hid (zc9 s=some ⟨3,0,s⟩):=by show zc9 s=_;unfold zc9;rw [if_pos h1]
   go_enter Tryz.func194,Tryz.ntmps194
   go_wp2_with (go_at_call 203;refine (zfn s _).mono ?_;rintro e w' ⟨rfl,rfl⟩)
   exact bodyPost_ret (v:=Tk.val ⟨3,0,s⟩) cV rfl ⟨Or.inl ⟨_,HT.out,rfl⟩,(Below.refl _ _).alloc (vaa _) _⟩
 . have Dn:Lx.zkd s.data.toList=false:=by simpa using h1
   clear h1
   by_cases h2:Lx.zbw s.data.toList=true
   . have HT:Hid (zc9 s=some ⟨1,0,s⟩):=by show zc9 s=_;unfold zc9;rw [if_neg (by simp [Dn]),if_pos h2]
     go_enter Tryz.func194,Tryz.ntmps194
     go_wp2_with (first | (go_at_call 203;refine (zfn s _).mono ?_;rintro e w' ⟨rfl,rfl⟩) | (go_at_call 202;refine (zfm s _ hs).mono ?_;rintro e w' ⟨rfl,rfl⟩))
     exact bodyPost_ret (v:=Tk.val ⟨1,0,s⟩) cV rfl ⟨Or.inl ⟨_,HT.out,rfl⟩,(Below.refl _ _).alloc (vaa _) _⟩
   . have Gz:Lx.zbw s.data.toList=false:=by simpa using h2
     clear h2
     by_cases h3:Lx.zhc s.data.toList=true
     . have HT:Hid (zc9 s=some ⟨2,Lx.valL s.data.toList,⟨#[]⟩⟩):=by show zc9 s=_;unfold zc9;rw [if_neg (by simp [Dn]),if_neg (by simp [Gz]),if_pos h3]
       have hN:=zni h3
       have HC:Hid (∀ w:World,qc 250 #[.string s] w fun e w'=>e = .returned (qi (Lx.valL s.data.toList))/\w'=w):=fun w=>by rw [← hN];exact znj s w hs
       clear hN h3;go_enter Tryz.func194,Tryz.ntmps194
       go_wp2_with (first | (go_at_call 203;refine (zfn s _).mono ?_;rintro e w' ⟨rfl,rfl⟩) | (go_at_call 202;refine (zfm s _ hs).mono ?_;rintro e w' ⟨rfl,rfl⟩) | (go_at_call 250;refine (HC.out _).mono ?_;rintro e w' ⟨rfl,rfl⟩))
       exact bodyPost_ret (v:=Tk.val ⟨2,Lx.valL s.data.toList,⟨#[]⟩⟩) cV rfl ⟨Or.inl ⟨_,HT.out,rfl⟩,(Below.refl _ _).alloc (vaa _) _⟩
     . have He:Lx.zhc s.data.toList=false:=by simpa using h3
       have HT:Hid (zc9 s=none):=by show zc9 s=_;unfold zc9;rw [if_neg (by simp [Dn]),if_neg (by simp [Gz]),if_neg h3]
       have hN:=zh7 He
       have HC:Hid (∀ w:World,qc 250 #[.string s] w fun e w'=>e = .panicked zai/\w'=w):=fun w=>by rw [← hN];exact znj s w hs
       clear hN h3 He;go_enter Tryz.func194,Tryz.ntmps194
       go_wp2_with (first | (go_at_call 203;refine (zfn s _).mono ?_;rintro e w' ⟨rfl,rfl⟩) | (go_at_call 202;refine (zfm s _ hs).mono ?_;rintro e w' ⟨rfl,rfl⟩) | (go_at_call 250;refine (HC.out _).mono ?_;rintro e w' ⟨rfl,rfl⟩))
       exact ⟨rfl,Or.inr ⟨HT.out,rfl⟩,(Below.refl _ _).alloc (vaa _) _⟩
def Tk.inB (t:Tk):Prop:=t.kind=2->0<=t.n/\t.n<=1099511627775
set_option maxHeartbeats 800000
def Tk.okB (t:Tk):Bool:=
 if t.kind=1 then decide (t.n=0)&&Lx.zbw t.text.data.toList
 else if t.kind=2 then t.text.toList.isEmpty&&(decide (0<=t.n)&&decide (t.n<=1099511627775))
 else decide (t.n=0)&&Lx.zkd t.text.data.toList
theorem zk6 (t:Tk) (w:World) (hs:t.text.size<=maxLen) :
 qc 160 #[t.val] w fun e w'=>e = .returned (.bool t.okB)/\qb w w':=by
 obtain ⟨K,N,S⟩:=t;simp only [Tk.val] at *
 by_cases k1:K=1
 . have HT:Hid (Tk.okB ⟨K,N,S⟩=(decide (N=0)&&Lx.zbw S.data.toList)):=if_pos k1
   have Dw:(K == 1)=true:=beq_iff_eq.2 k1;clear k1
   by_cases n0:N=0
   . have MW:(N == 0)=true:=beq_iff_eq.2 n0
     have HR:Hid (Tk.okB ⟨K,N,S⟩=Lx.zbw S.data.toList):=by show Tk.okB _=_;rw [HT.out,decide_eq_true n0,vec]
     clear n0;go_enter Tryz.func160,Tryz.ntmps160
     go_wp2_with (go_at_call 202;refine (zfm S _ hs).mono ?_;rintro e w' ⟨rfl,rfl⟩)
     exact iC
   . exact gn
 . by_cases k2:K=2
   . have HT:Hid (Tk.okB ⟨K,N,S⟩=(S.toList.isEmpty&&(decide (0<=N)&&decide (N<=1099511627775)))):=by show Tk.okB _=_;unfold Tk.okB;rw [if_neg k1,if_pos k2]
     have Dw:(K == 1)=false:=beq_eq_false_iff_ne.2 k1;have RH:(K == 2)=true:=beq_iff_eq.2 k2;clear k1 k2
     by_cases he:S.toList.isEmpty=true
     . by_cases h0:0<=N
       . go_enter Tryz.func160,Tryz.ntmps160
         go_wp2_with fail;go_ret;exact ⟨ret_bool (by rw [HT.out];simp [he,h0]),(Below.refl _ _).alloc (vaa _) _⟩
       . go_enter Tryz.func160,Tryz.ntmps160
         go_wp2_with fail;go_ret;exact ⟨ret_bool (by rw [HT.out,decide_eq_false (show ¬ 0<=N from ae)];simp),(Below.refl _ _).alloc (vaa _) _⟩
     . have Gp:S.toList.isEmpty=false:=by simpa using he
       clear he;go_enter Tryz.func160,Tryz.ntmps160;go_wp2_with fail;go_ret;exact ⟨ret_bool (by rw [HT.out];simp [Gp]),(Below.refl _ _).alloc (vaa _) _⟩
   . have HT:Hid (Tk.okB ⟨K,N,S⟩=(decide (N=0)&&Lx.zkd S.data.toList)):=by show Tk.okB _=_;unfold Tk.okB;rw [if_neg k1,if_neg k2]
     have Dw:(K == 1)=false:=beq_eq_false_iff_ne.2 k1;have RH:(K == 2)=false:=beq_eq_false_iff_ne.2 k2;clear k1 k2
     by_cases n0:N=0
     . have MW:(N == 0)=true:=beq_iff_eq.2 n0
       have HR:Hid (Tk.okB ⟨K,N,S⟩=Lx.zkd S.data.toList):=by show Tk.okB _=_;rw [HT.out,decide_eq_true n0,vec]
       clear n0;go_enter Tryz.func160,Tryz.ntmps160
       go_wp2_with (go_at_call 203;refine (zfn S _).mono ?_;rintro e w' ⟨rfl,rfl⟩)
       exact iC
     . exact gn
def Tk.fits (t:Tk):Prop:=t.text.size<=maxLen
structure TokCells (w:World) (b off:Nat) (ts:List Tk):Prop where
 lt:b<w.heap.size
 kind:∀ i (h:i<ts.length),w.cell? ⟨b,off+i*3,none⟩=some (qi ts[i].kind)
 num:∀ i (h:i<ts.length),w.cell? ⟨b,off+i*3+1,none⟩=some (qi ts[i].n)
 text:∀ i (h:i<ts.length),w.cell? ⟨b,off+i*3+2,none⟩=some (.string ts[i].text)
 fits:∀ i (h:i<ts.length),ts[i].fits
theorem TokCells.below {B:Nat} {w w':World} {b off:Nat} {ts:List Tk} (h:TokCells w b off ts) (hb:Below B w w') (hB:b<B):TokCells w' b off ts:=
 ⟨vai h.lt hb.size,fun i hi=>(hb.cell (p:=⟨b,off+i*3,none⟩) hB).trans (h.kind i hi),fun i hi=>(hb.cell (p:=⟨b,off+i*3+1,none⟩) hB).trans (h.num i hi),fun i hi=>(hb.cell (p:=⟨b,off+i*3+2,none⟩) hB).trans (h.text i hi),h.fits⟩
def zem (t:Tk):Bool:=decide (1<=t.kind)&&decide (t.kind<=3)
def zda (ts:List Tk):Int:=if ts.all zem then (if ts.all Tk.okB then (if 4096<ts.length then 2 else 0) else 1) else 4
def zdb (w:World) (a:OA) (ts:List Tk):Prop:=ts=[]\/∃ b off,a=some (qa b off)/\TokCells w b off ts
theorem zdb.later {w w':World} {a:OA} {ts:List Tk} (h:zdb w a ts) (hb:qb w w'):zdb w' a ts:=by
 exact ja
theorem zdb.place {w:World} {a:OA} {ts:List Tk} (h:zdb w a ts) {k:Nat} (hk:k<ts.length):∃ b off,a=some (qa b off)/\TokCells w b off ts:=by
 rcases h with h | h
 . subst h;simp at hk
 . exact h
theorem all_snoc {α:Type} (ts:List α) (p:α->Bool) (k:Nat) (h:k<ts.length):(ts.take (k+1)).all p=((ts.take k).all p&&p ts[k]):=by
 rw [vag h,vbp];simp
theorem all_not {α:Type} (ts:List α) (p:α->Bool) (k:Nat) (h:k<ts.length) (hp:p ts[k]=false):ts.all p=false:=by
 rw [vcs];exact ⟨ts[k],vah _,by simp [hp]⟩
theorem zss {ts:List Tk} (h:ts.all zem=false):zda ts=4:=by unfold zda;rw [h];rfl
theorem zst {ts:List Tk} (h:ts.all zem=true) (h1:ts.all Tk.okB=false):zda ts=1:=by unfold zda;rw [h,h1];rfl
theorem zsu {ts:List Tk} (h:ts.all zem=true) (h1:ts.all Tk.okB=true) (h2:4096<ts.length):zda ts=2:=by unfold zda;rw [h,h1,if_pos rfl,if_pos rfl,if_pos h2]
theorem zyp {ts:List Tk} (h:ts.all zem=true) (h1:ts.all Tk.okB=true) (h2:¬ 4096<ts.length):zda ts=0:=by unfold zda;rw [h,h1,if_pos rfl,if_pos rfl,if_neg h2]
theorem Check_any (a:OA) (cap:Nat) (ts:List Tk) (w:World) (hT:zdb w a ts) (hl:ts.length<=1000000000000000) :
 qc 116 #[.slice a ts.length cap] w fun e w'=>e = .returned (qi (zda ts))/\qb w w':=by
 have HT:Hid (zdb w a ts):=hT;clear hT;go_enter Tryz.func116,Tryz.ntmps116;go_wp2_with fail
 go_loopw [9,4] (fun i _ wr=>∃ k:Nat,k<=ts.length/\i=qi k/\(ts.take k).all zem=true/\qb w wr) (fun i _ _=>ts.length - (intOf i).toNat)
 case atStart=>exact ⟨0,vaf _,rfl,rfl,Below.refl _ _⟩
 case round=>
  obtain ⟨k,hk,rfl,A7,hb⟩:=hrel;have HA:Hid ((ts.take k).all zem=true):=A7;clear A7
  by_cases A0:k<ts.length
  . obtain ⟨b,off,rfl,hT⟩:=(HT.out.later hb).place A0
    have CL:=hT.kind k A0;have Bk:=hT.num k A0;have C7:=hT.text k A0;have Bd:=hT.lt;clear hT;have HS:Hid ((ts.take (k+1)).all zem=((ts.take k).all zem&&zem ts[k])):=all_snoc ts zem k A0
    by_cases Dw:1<=ts[k].kind/\ts[k].kind<=3
    . obtain ⟨Nf,hkb3⟩:=Dw
      have HK:Hid (zem ts[k]=true):=by show zem ts[k]=true;simp [zem,Nf,hkb3]
      go_wp2_with fail;go_roundw
      case rel=>exact ⟨k+1,ae,aR,by rw [HS.out,HA.out,HK.out];rfl,hb.alloc hb.size _⟩
      case measure=>simp [intOf];omega
    . have HF:Hid (zda ts=4):=zss (all_not ts zem k A0 (by simp [zem];omega))
      by_cases CK:ts[k].kind<1
      . clear Dw
        exact jB
      . have FX:3<ts[k].kind:=by omega
        clear Dw;exact jB
  . have HK:Hid (ts.all zem=true):=by
     have:=HA.out;rw [vav ae] at this;exact this
    clear HA;go_wp2_with fail
    go_loopw [24,6] (fun i _ wr=>∃ k:Nat,k<=ts.length/\i=qi k/\(ts.take k).all Tk.okB=true/\qb w wr) (fun i _ _=>ts.length - (intOf i).toNat)
    case atStart=>exact ⟨0,vaf _,rfl,rfl,hb⟩
    case round=>
     obtain ⟨k',FY,rfl,A7,A6⟩:=hrel;have HA:Hid ((ts.take k').all Tk.okB=true):=A7;clear A7
     by_cases D3:k'<ts.length
     . obtain ⟨b,off,rfl,hT⟩:=(HT.out.later A6).place D3
       have CL:=hT.kind k' D3;have Bk:=hT.num k' D3;have C7:=hT.text k' D3;have Bu:=hT.fits k' D3;have Bd:=hT.lt;clear hT;have HS:Hid ((ts.take (k'+1)).all Tk.okB=((ts.take k').all Tk.okB&&Tk.okB ts[k'])):=all_snoc ts Tk.okB k' D3
       by_cases Dw:Tk.okB ts[k']=true
       . go_wp2_with (go_at_call 160;refine (zk6 ts[k'] _ Bu).mono ?_;rintro e w' ⟨rfl,Ab⟩)
         go_roundw
         case rel=>exact ⟨k'+1,ae,aR,by rw [HS.out,HA.out];simp [Dw],(A6.alloc A6.size _).trans (Ab.mono eu)⟩
         case measure=>simp [intOf];omega
       . have Ng:Tk.okB ts[k']=false:=by simpa using Dw
         have HF:Hid (zda ts=1):=zst HK.out (all_not ts Tk.okB k' D3 Ng);clear Dw
         go_wp2_with (go_at_call 160;refine (zk6 ts[k'] _ Bu).mono ?_;rintro e w' ⟨rfl,Ab⟩)
         go_ret;exact ⟨ret_int HF.out.symm,(A6.alloc A6.size _).trans (Ab.mono eu)⟩
     . have HO:Hid (ts.all Tk.okB=true):=by
        have:=HA.out;rw [vav ae] at this;exact this
       clear HA
       by_cases hm:4096<ts.length
       . have HF:Hid (zda ts=2):=zsu HK.out HO.out hm
         go_wp2_with fail;go_ret;exact ⟨ret_int HF.out.symm,A6⟩
       . have HF:Hid (zda ts=0):=zyp HK.out HO.out hm
         go_wp2_with fail;go_ret;exact ⟨ret_int HF.out.symm,A6⟩
def zc4 (ts:List Tk):Prop:=ts.all zem=true/\ts.all Tk.okB=true
theorem zc4.get {ts:List Tk} (h:zc4 ts) (k:Nat) (hk:k<ts.length):zem ts[k]=true/\Tk.okB ts[k]=true:=
 ⟨vas.1 h.1 _ (vah _),vas.1 h.2 _ (vah _)⟩
theorem lt_of_heap {w:World} {b:Nat} {o:Obj} (h:w.heap[b]? = some o):b<w.heap.size:=by
 rcases vbi b w.heap.size with h' | h'
 . exact h'
 . simp [vbb h'] at h
def ze4 (c:UInt8):Bool:=c == 32||c == 10
def zdm (s:ByteArray) (a:Nat):Option (List Tk):=
 if h:a<s.size then
  if ze4 s[a] then zdm s (a+Lx.pieceN s a)
  else match zc9 (s.extract a (a+Lx.pieceN s a)) with
   | none=>none
   | some t=>(zdm s (a+Lx.pieceN s a)).map (t :: ·)
 else some []
termination_by s.size - a
decreasing_by
 all_goals have:=Lx.zg4 s a;omega
theorem zk7 (s:ByteArray) (a:Nat) (h:¬ a<s.size):zdm s a=some []:=by rw [zdm,dif_neg h]
theorem zk8 (s:ByteArray) (a:Nat) (h:a<s.size) (hb:ze4 s[a]=true):zdm s a=zdm s (a+Lx.pieceN s a):=by
 rw [zdm,dif_pos h,if_pos hb]
theorem znk (s:ByteArray) (a:Nat) (h:a<s.size) (hb:ze4 s[a]=false) (ht:zc9 (s.extract a (a+Lx.pieceN s a))=none):zdm s a=none:=by
 rw [zdm,dif_pos h,if_neg (by simp [hb]),ht]
theorem znl (s:ByteArray) (a:Nat) (t:Tk) (h:a<s.size) (hb:ze4 s[a]=false) (ht:zc9 (s.extract a (a+Lx.pieceN s a))=some t):zdm s a=(zdm s (a+Lx.pieceN s a)).map (t :: ·):=by
 rw [zdm,dif_pos h,if_neg (by simp [hb]),ht]
def zcf (s:ByteArray) (a:Nat) (ts:List Tk):Prop:=zdm s 0=(zdm s a).map (ts++·)
theorem zcf.start (s:ByteArray):zcf s 0 []:=by
 unfold zcf;cases zdm s 0<;>rfl
theorem zcf.blank {s:ByteArray} {a:Nat} {ts:List Tk} (h:zcf s a ts) (ha:a<s.size) (hb:ze4 s[a]=true):zcf s (a+Lx.pieceN s a) ts:=by
 unfold zcf at *;rw [h,zk8 s a ha hb]
theorem zcf.tok {s:ByteArray} {a:Nat} {ts:List Tk} {t:Tk} (h:zcf s a ts) (ha:a<s.size) (hb:ze4 s[a]=false) (ht:zc9 (s.extract a (a+Lx.pieceN s a))=some t):zcf s (a+Lx.pieceN s a) (ts++[t]):=by
 unfold zcf at *;rw [h,znl s a t ha hb ht]
 cases zdm s (a+Lx.pieceN s a)<;>simp
theorem zcf.stop {s:ByteArray} {a:Nat} {ts:List Tk} (h:zcf s a ts) (ha:a<s.size) (hb:ze4 s[a]=false) (ht:zc9 (s.extract a (a+Lx.pieceN s a))=none):zdm s 0=none:=by
 unfold zcf at *;rw [h,znk s a ha hb ht];rfl
theorem zcf.done {s:ByteArray} {a:Nat} {ts:List Tk} (h:zcf s a ts) (ha:¬ a<s.size):zdm s 0=some ts:=by
 unfold zcf at *;rw [h,zk7 s a ha];simp
def lexT (s:ByteArray):List Tk:=if 4096<s.size then [] else (zdm s 0).getD []
def lexE (s:ByteArray):Int:=if 4096<s.size then 2 else if (zdm s 0).isSome then 0 else 1
theorem z2b {s:ByteArray} (h:4096<s.size):lexT s=[]/\lexE s=2:=⟨if_pos h,if_pos h⟩
theorem z70 {s:ByteArray} (h:¬ 4096<s.size) (hn:zdm s 0=none):lexT s=[]/\lexE s=1:=by
 exact jV
theorem zyq {s:ByteArray} {ts:List Tk} (h:¬ 4096<s.size) (hn:zdm s 0=some ts):lexT s=ts/\lexE s=0:=by
 exact jV
theorem zwg (s:ByteArray) (a n:Nat):(s.extract a (a+n)).data.toList=(s.data.toList.drop a).take n:=by
 rw [Lib.extract_data,show a+n - a=n from ae]
theorem zyr (s:ByteArray) (a:Nat) (h:a<s.size):s.data.toList.drop a=s[a] :: s.data.toList.drop (a+1):=by
 rw [List.drop_eq_getElem_cons (by rw [Lx.za0];exact h)];rfl
def tkCells (t:Tk):List Value:=[qi t.kind,qi t.n,.string t.text]
def cellsOf (ts:List Tk):List Value:=ts.flatMap tkCells
theorem zqv (ts:List Tk) (t:Tk):cellsOf (ts++[t])=cellsOf ts++tkCells t:=by simp [cellsOf]
theorem zk9:∀ (ts:List Tk) (i:Nat) (h:i<ts.length),(cellsOf ts)[i*3]? = some (qi ts[i].kind)/\(cellsOf ts)[i*3+1]? = some (qi ts[i].n)/\(cellsOf ts)[i*3+2]? = some (.string ts[i].text)
 | [],i,h=>dH
 | t :: r,0,_=>⟨rfl,rfl,rfl⟩
 | t :: r,i+1,h=>by
   have ih:=zk9 r i bT
   have e:cellsOf (t :: r)=qi t.kind :: qi t.n :: .string t.text :: cellsOf r:=by simp [cellsOf,tkCells]
   rw [e,show (i+1)*3=i*3+1+1+1 from ae];simpa using ih
def AllFit (ts:List Tk):Prop:=∀ i (h:i<ts.length),ts[i].fits
theorem AllFit.nil:AllFit []:=fun i h=>dH
theorem AllFit.snoc {ts:List Tk} {t:Tk} (h:AllFit ts) (ht:t.fits):AllFit (ts++[t]):=by
 intro i hi
 by_cases hl:i<ts.length
 . rw [vcl hl];exact h i hl
 . have:i=ts.length:=by simp at hi;omega
   subst this
   simp;exact ht
theorem zwh {w:World} {B:Nat} {v:Value} {ts:List Tk} (h:w.ownsRow B 184 3 v ts.length (cellsOf ts)) (hf:AllFit ts):∃ a cap,v = .slice a ts.length cap/\zdb w a ts:=by
 obtain ⟨h1,h2⟩:=h
 rcases h2 with ⟨hv,h0⟩ | ⟨g,cap,AD,hv,hg,hc,hn,hm,Cy,FP⟩
 . have:ts=[]:=vam h0
   subst this;exact ⟨none,0,hv,Or.inl rfl⟩
 . refine ⟨some (qa g 0),cap,hv,Or.inr ⟨g,0,rfl,lt_of_heap hc,?_,?_,?_,hf⟩⟩
   all_goals
    intro i hi;have hx:=zk9 ts i hi;rw [vep hc];rw [← FP] at hx;simp only [vdy,Array.getElem?_toList] at hx;rw [if_pos ae,if_pos ae,if_pos ae] at hx;simp only [vaz]
   . exact hx.1
   . exact hx.2.1
   . exact hx.2.2
theorem Tryz.infoTok:(Tryz.prog.info? 184).map (fun i=>(i.zero,i.size,i.bytes))=some (some (.agg #[qi 0,qi 0,.string ⟨#[]⟩]),3,32):=ah
theorem zgk (s:ByteArray) (a n:Nat) (h:a+n<=s.size):(s.extract a (a+n)).size=n:=by
 rw [ByteArray.size_extract];omega
theorem ownsRow_later {W W':World} {B:Nat} {e:TypeId} {size:Nat} {v:Value} {n:Nat} {xs:List Value} (h:W.ownsRow B e size v n xs) (hb:qb W W'):W'.ownsRow B e size v n xs:=by
 obtain ⟨h1,h2⟩:=h;refine ⟨h1,?_⟩
 rcases h2 with h2 | ⟨g,cap,AD,hv,hg,hc,hrest⟩
 . exact Or.inl h2
 . exact Or.inr ⟨g,cap,AD,hv,hg,(hb.block g (lt_of_heap hc)).trans hc,hrest⟩
theorem zys (w:World) (x y z:Value) (t:TypeId):∀ j u,[x,y,z][j]? = some u->(w.alloc (.cells #[x,y,z] t)).cell? (((qa w.heap.size 0):Addr).add j)=some u:=by
 intro j u hj;have hh:(w.alloc (.cells #[x,y,z] t)).heap[w.heap.size]? = some (.cells #[x,y,z] t):=_root_.Go.heap_alloc_new w _
 have:((qa w.heap.size 0):Addr).add j=(qa w.heap.size j):=by simp [Addr.add];exact fun h=>h.symm
 rw [this,vep hh,← hj];simp
theorem zyt (t:Tk):∀ u ∈ tkCells t,u.oneCell'=true:=by
 intro u hu;simp only [tkCells,vby,List.not_mem_nil,or_false] at hu
 rcases hu with h | h | h
 all_goals subst h;rfl
end Go.Proofs.YtndkhgakfodldaaGreatDoor
