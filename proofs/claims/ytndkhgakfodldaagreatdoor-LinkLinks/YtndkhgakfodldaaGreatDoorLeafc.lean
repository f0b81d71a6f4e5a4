import Derived.Test.YtndkhgakfodldaaGreatDoorLeaf
import Derived.Test.YtndkhgakfodldaaGreatDoorShelf
import Derived.Test.YtndkhgakfodldaaGreatDoorNum
namespace Go.Proofs.YtndkhgakfodldaaGreatDoor
set_option maxRecDepth 100000
set_option maxHeartbeats 400000
open Go.RowKit
theorem zev (s:ByteArray) (w:World) :
 qc 203 #[.string s] w fun e w'=>e = .returned (.bool (Lx.zj0 s.data.toList))/\w'=w:=by
 by_cases h1:s.size=1
 . have h0:0<s.size:=by omega
   have HN:Hid (Lx.zj0 s.data.toList=decide (0<=Lib.indexByte zwj.data.toList s[0])):=by
    have:=Lx.zlj s[0];exact (Lx.zxd s h1).trans this.symm
   have Ai:((s.size:Int) == 1)=true:=by rw [beq_iff_eq];omega
   clear h1;go_enter Tryz.func203,Tryz.ntmps203
   go_wp2_with (go_at_call 255;refine (Tryz.strings_IndexByte zwj _ _).mono ?_;rintro e w' ⟨rfl,rfl⟩)
   all_goals go_ret
   all_goals exact ⟨ret_bool (by rw [HN.out];simp),rfl⟩
 . have HN:Hid (Lx.zj0 s.data.toList=false):=Lx.zrd s h1
   have Ai:((s.size:Int) == 1)=false:=by rw [beq_eq_false_iff_ne];omega
   clear h1;go_enter Tryz.func203,Tryz.ntmps203;go_wp2_with fail;go_ret;exact ⟨ret_bool HN.out.symm,rfl⟩
def zbb:List PanicEntry:=[{ v:=.iface 31 (qi 1),recovered:=false }]
def zik (l:L8):Ending:=if Lx.zgu l then .returned (qi (Lx.valL l)) else .panicked zbb
theorem zl5 {l:L8} (h:Lx.zgu l=true):zik l = .returned (qi (Lx.valL l)):=by unfold zik;rw [h];rfl
theorem zg2 {l:L8} (h:Lx.zgu l=false):zik l = .panicked zbb:=by unfold zik;rw [h];rfl
theorem zl6 (s:ByteArray) (w:World) (hs:s.size<=maxLen) :
 qc 250 #[.string s] w fun e w'=>e=zik s.data.toList/\w'=w:=by
 unfold maxLen at hs
 by_cases Dz:∃ h:1<s.size,s[0]=48
 . obtain ⟨h1,h0⟩:=Dz
   have HN:Hid (zik s.data.toList = .panicked zbb):=zg2 (Lx.zus _ (Lx.z0g s h1 h0))
   have hb:(((s[0].toNat:Nat):Int) == 48)=true:=by rw [h0];rfl
   clear h0;go_enter Tryz.func250,Tryz.ntmps250;go_wp2_with fail;exact ⟨rfl,HN.out.symm,rfl⟩
 . have HL : Hid (Lx.zmb s.data.toList=true):=Lx.zxb s (fun h1 h0=>Dz ⟨h1,h0⟩)
   have Ez:(¬ 1<s.size)\/∃ h:1<s.size,(((s[0].toNat:Nat):Int) == 48)=false:=by
    by_cases h1:1<s.size
    . refine Or.inr ⟨h1,?_⟩
      rw [beq_eq_false_iff_ne];intro e;exact Dz ⟨h1,veh.1 (by show s[0].toNat=48;omega)⟩
    . exact Or.inl h1
   clear Dz
   rcases Ez with h1 | ⟨h1,hb⟩
   all_goals
    go_enter Tryz.func250,Tryz.ntmps250;go_wp2_with fail
    go_loop [16,3,4] (fun i n _=>∃ k:Nat,k<=s.size/\i=qi k/\n=qi (Lx.valL (s.data.toList.take k))/\(s.data.toList.take k).all Lx.zhu=true/\Lx.valL (s.data.toList.take k)<=1099511627775) (fun i _ _=>s.size - (intOf i).toNat)
    case atStart=>exact ⟨0,vae _,rfl,rfl,rfl,by simp [Lx.valL]⟩
    case round=>
     obtain ⟨k,hk,rfl,rfl,A6,hv⟩:=hrel;have HA:Hid ((s.data.toList.take k).all Lx.zhu=true):=A6;clear A6
     by_cases A0:k<s.size
     . by_cases hd:Lx.zhu s[k]=true
       . have HS:Hid ((s.data.toList.take (k+1)).all Lx.zhu=((s.data.toList.take k).all Lx.zhu&&Lx.zhu s[k])):=Lx.ze6 s k A0 Lx.zhu
         have HV:Hid (Lx.valL (s.data.toList.take (k+1))=10*Lx.valL (s.data.toList.take k)+Lx.dv s[k]):=Lx.znn s k A0;have hr:=Lx.zxa _ hd
         have HB:Hid (Lx.valL (s.data.toList.take (k+1))<=1099511627775\/Lx.zgu s.data.toList=false):=by
          by_cases hm:Lx.valL (s.data.toList.take (k+1))<=1099511627775
          . exact Or.inl hm
          . exact Or.inr (Lx.zxc s (k+1) (by omega))
         generalize hV:Lx.valL (s.data.toList.take k)=V at *;have TT:Hid (Lx.valL (s.data.toList.take k)=V):=hV;clear hV;obtain ⟨BA,DV⟩:=hr
         go_wp2_with (go_at_call 249;refine (zbq _ _).mono ?_;rintro e w' ⟨rfl,rfl⟩)
         . have hN:Lx.zgu s.data.toList=false:=by
            rcases HB.out with h | h
            . rw [HV.out] at h;unfold Lx.dv at h;omega
            . exact h
           exact ⟨rfl,(zg2 hN).symm,rfl⟩
         . go_round
           case rel=>exact ⟨k+1,by omega,by go_num,by rw [HV.out];unfold Lx.dv;go_num,by rw [HS.out,HA.out];simp [hd],by rw [HV.out];unfold Lx.dv;omega⟩
           case measure=>simp [intOf];omega
       . have EI:Lx.zhu s[k]=false:=by simpa using hd
         clear hd;have HN:Hid (zik s.data.toList = .panicked zbb):=zg2 (Lx.zli _ (Lx.zrk s k A0 _ EI))
         go_wp2_with (go_at_call 249;refine (zbq _ _).mono ?_;rintro e w' ⟨rfl,rfl⟩)
         exact ⟨rfl,HN.out.symm,rfl⟩
     . obtain rfl:k=s.size:=by omega
       have HN:Hid (zik s.data.toList = .returned (qi (Lx.valL (s.data.toList.take s.size)))):=by
        have hT:s.data.toList.take s.size=s.data.toList:=vau (by rw [Lx.zbe];exact vaa _);rw [hT] at HA hv ⊢;exact zl5 (by unfold Lx.zgu;rw [HA.out,HL.out];simp;exact hv)
       go_wp2_with fail;go_ret;exact ⟨HN.out.symm,rfl⟩
def strOf (l:L8):ByteArray:=⟨l.toArray⟩
theorem strOf_list (l:L8):(strOf l).data.toList=l:=by simp [strOf]
theorem strOf_back (s:ByteArray):strOf s.data.toList=s:=by simp [strOf]
theorem strOf_size (l:L8):(strOf l).size=l.length:=by simp [strOf,ByteArray.size]
structure Tk where
 kind:Int
 n:Int
 text:ByteArray
def Tk.val (t:Tk):Value:=.agg #[qi t.kind,qi t.n,.string t.text]
def zdu (s:ByteArray):Option Tk:=
 if Lx.zj0 s.data.toList then some ⟨3,0,s⟩ else if Lx.zbt s.data.toList then some ⟨1,0,s⟩ else if Lx.zgu s.data.toList then some ⟨2,Lx.valL s.data.toList,⟨#[]⟩⟩ else none
theorem zo7 (s:ByteArray) (w:World) (hs:s.size<=281474976710656) :
 qc 173 #[.string s] w fun e w'=>e = .returned (.string s)/\qb w w':=by
 go_enter Tryz.func173,Tryz.ntmps173
 go_wp2_with (go_at_call 220;refine (Tryz.stringslite_Clone s _ hs).mono ?_;rintro e w' ⟨rfl,hb⟩)
 go_ret;exact ⟨rfl,hb⟩
theorem zo8 (s:ByteArray) (w:World) (hs:s.size<=maxLen) :
 qc 194 #[.string s] w fun e w'=>((∃ t,zdu s=some t/\e = .returned t.val)\/(zdu s=none/\e = .panicked zbb))/\qb w w':=by
 by_cases h1:Lx.zj0 s.data.toList=true
 . have HT:Hid (zdu s=some ⟨3,0,s⟩):=by show zdu s=_;unfold zdu;rw [if_pos h1]
   go_enter Tryz.func194,Tryz.ntmps194
   go_wp2_with (go_at_call 203;refine (zev s _).mono ?_;rintro e w' ⟨rfl,rfl⟩)
   exact bodyPost_ret (v:=Tk.val ⟨3,0,s⟩) (by simp [results,Tryz.results194,go_sem,Tk.val]) rfl ⟨Or.inl ⟨_,HT.out,rfl⟩,(Below.refl _ _).alloc (vaa _) _⟩
 . have D8:Lx.zj0 s.data.toList=false:=by simpa using h1
   clear h1
   by_cases h2:Lx.zbt s.data.toList=true
   . have HT:Hid (zdu s=some ⟨1,0,s⟩):=by show zdu s=_;unfold zdu;rw [if_neg (by simp [D8]),if_pos h2]
     go_enter Tryz.func194,Tryz.ntmps194
     go_wp2_with (first | (go_at_call 203;refine (zev s _).mono ?_;rintro e w' ⟨rfl,rfl⟩) | (go_at_call 202;refine (zeu s _ hs).mono ?_;rintro e w' ⟨rfl,rfl⟩))
     exact bodyPost_ret (v:=Tk.val ⟨1,0,s⟩) (by simp [results,Tryz.results194,go_sem,Tk.val]) rfl ⟨Or.inl ⟨_,HT.out,rfl⟩,(Below.refl _ _).alloc (vaa _) _⟩
   . have FG:Lx.zbt s.data.toList=false:=by simpa using h2
     clear h2
     by_cases h3:Lx.zgu s.data.toList=true
     . have HT:Hid (zdu s=some ⟨2,Lx.valL s.data.toList,⟨#[]⟩⟩):=by show zdu s=_;unfold zdu;rw [if_neg (by simp [D8]),if_neg (by simp [FG]),if_pos h3]
       have hN:=zl5 h3
       have HC:Hid (∀ w:World,qc 250 #[.string s] w fun e w'=>e = .returned (qi (Lx.valL s.data.toList))/\w'=w):=fun w=>by rw [← hN];exact zl6 s w hs
       clear hN h3;go_enter Tryz.func194,Tryz.ntmps194
       go_wp2_with (first | (go_at_call 203;refine (zev s _).mono ?_;rintro e w' ⟨rfl,rfl⟩) | (go_at_call 202;refine (zeu s _ hs).mono ?_;rintro e w' ⟨rfl,rfl⟩) | (go_at_call 250;refine (HC.out _).mono ?_;rintro e w' ⟨rfl,rfl⟩))
       exact bodyPost_ret (v:=Tk.val ⟨2,Lx.valL s.data.toList,⟨#[]⟩⟩) (by simp [results,Tryz.results194,go_sem,Tk.val]) rfl ⟨Or.inl ⟨_,HT.out,rfl⟩,(Below.refl _ _).alloc (vaa _) _⟩
     . have G5:Lx.zgu s.data.toList=false:=by simpa using h3
       have HT:Hid (zdu s=none):=by show zdu s=_;unfold zdu;rw [if_neg (by simp [D8]),if_neg (by simp [FG]),if_neg h3]
       have hN:=zg2 G5
       have HC:Hid (∀ w:World,qc 250 #[.string s] w fun e w'=>e = .panicked zbb/\w'=w):=fun w=>by rw [← hN];exact zl6 s w hs
       clear hN h3 G5;go_enter Tryz.func194,Tryz.ntmps194
       go_wp2_with (first | (go_at_call 203;refine (zev s _).mono ?_;rintro e w' ⟨rfl,rfl⟩) | (go_at_call 202;refine (zeu s _ hs).mono ?_;rintro e w' ⟨rfl,rfl⟩) | (go_at_call 250;refine (HC.out _).mono ?_;rintro e w' ⟨rfl,rfl⟩))
       exact ⟨rfl,Or.inr ⟨HT.out,rfl⟩,(Below.refl _ _).alloc (vaa _) _⟩
def Tk.inB (t:Tk):Prop:=t.kind=2->0<=t.n/\t.n<=1099511627775
set_option maxHeartbeats 800000
def Tk.okB (t:Tk):Bool:=
 if t.kind=1 then decide (t.n=0)&&Lx.zbt t.text.data.toList
 else if t.kind=2 then t.text.toList.isEmpty&&(decide (0<=t.n)&&decide (t.n<=1099511627775))
 else decide (t.n=0)&&Lx.zj0 t.text.data.toList
theorem zjr (t:Tk) (w:World) (hs:t.text.size<=maxLen) :
 qc 160 #[t.val] w fun e w'=>e = .returned (.bool t.okB)/\qb w w':=by
 obtain ⟨K,N,S⟩:=t;simp only [Tk.val] at *
 by_cases k1:K=1
 . have HT:Hid (Tk.okB ⟨K,N,S⟩=(decide (N=0)&&Lx.zbt S.data.toList)):=if_pos k1
   have D7:(K == 1)=true:=beq_iff_eq.2 k1;clear k1
   by_cases n0:N=0
   . have LO:(N == 0)=true:=beq_iff_eq.2 n0
     have HR:Hid (Tk.okB ⟨K,N,S⟩=Lx.zbt S.data.toList):=by show Tk.okB _=_;rw [HT.out,decide_eq_true n0,vec]
     clear n0;go_enter Tryz.func160,Tryz.ntmps160
     go_wp2_with (go_at_call 202;refine (zeu S _ hs).mono ?_;rintro e w' ⟨rfl,rfl⟩)
     go_ret;exact ⟨ret_bool HR.out.symm,(Below.refl _ _).alloc (vaa _) _⟩
   . have LO:(N == 0)=false:=beq_eq_false_iff_ne.2 n0
     have HR:Hid (Tk.okB ⟨K,N,S⟩=false):=by show Tk.okB _=_;rw [HT.out,decide_eq_false n0,vej]
     clear n0;go_enter Tryz.func160,Tryz.ntmps160;go_wp2_with fail;go_ret;exact ⟨ret_bool HR.out.symm,(Below.refl _ _).alloc (vaa _) _⟩
 . by_cases k2:K=2
   . have HT:Hid (Tk.okB ⟨K,N,S⟩=(S.toList.isEmpty&&(decide (0<=N)&&decide (N<=1099511627775)))):=by show Tk.okB _=_;unfold Tk.okB;rw [if_neg k1,if_pos k2]
     have D7:(K == 1)=false:=beq_eq_false_iff_ne.2 k1;have Qq:(K == 2)=true:=beq_iff_eq.2 k2;clear k1 k2
     by_cases he:S.toList.isEmpty=true
     . by_cases h0:0<=N
       . go_enter Tryz.func160,Tryz.ntmps160
         go_wp2_with fail;go_ret;exact ⟨ret_bool (by rw [HT.out];simp [he,h0]),(Below.refl _ _).alloc (vaa _) _⟩
       . go_enter Tryz.func160,Tryz.ntmps160
         go_wp2_with fail;go_ret;exact ⟨ret_bool (by rw [HT.out,decide_eq_false (show ¬ 0<=N from by omega)];simp),(Below.refl _ _).alloc (vaa _) _⟩
     . have Fv:S.toList.isEmpty=false:=by simpa using he
       clear he;go_enter Tryz.func160,Tryz.ntmps160;go_wp2_with fail;go_ret;exact ⟨ret_bool (by rw [HT.out];simp [Fv]),(Below.refl _ _).alloc (vaa _) _⟩
   . have HT:Hid (Tk.okB ⟨K,N,S⟩=(decide (N=0)&&Lx.zj0 S.data.toList)):=by show Tk.okB _=_;unfold Tk.okB;rw [if_neg k1,if_neg k2]
     have D7:(K == 1)=false:=beq_eq_false_iff_ne.2 k1;have Qq:(K == 2)=false:=beq_eq_false_iff_ne.2 k2;clear k1 k2
     by_cases n0:N=0
     . have LO:(N == 0)=true:=beq_iff_eq.2 n0
       have HR:Hid (Tk.okB ⟨K,N,S⟩=Lx.zj0 S.data.toList):=by show Tk.okB _=_;rw [HT.out,decide_eq_true n0,vec]
       clear n0;go_enter Tryz.func160,Tryz.ntmps160
       go_wp2_with (go_at_call 203;refine (zev S _).mono ?_;rintro e w' ⟨rfl,rfl⟩)
       go_ret;exact ⟨ret_bool HR.out.symm,(Below.refl _ _).alloc (vaa _) _⟩
     . have LO:(N == 0)=false:=beq_eq_false_iff_ne.2 n0
       have HR:Hid (Tk.okB ⟨K,N,S⟩=false):=by show Tk.okB _=_;rw [HT.out,decide_eq_false n0,vej]
       clear n0;go_enter Tryz.func160,Tryz.ntmps160;go_wp2_with fail;go_ret;exact ⟨ret_bool HR.out.symm,(Below.refl _ _).alloc (vaa _) _⟩
def Tk.fits (t:Tk):Prop:=t.text.size<=maxLen
structure TokCells (w:World) (b off:Nat) (ts:List Tk):Prop where
 lt:b<w.heap.size
 kind:∀ i (h:i<ts.length),w.cell? ⟨b,off+i*3,none⟩=some (qi ts[i].kind)
 num:∀ i (h:i<ts.length),w.cell? ⟨b,off+i*3+1,none⟩=some (qi ts[i].n)
 text:∀ i (h:i<ts.length),w.cell? ⟨b,off+i*3+2,none⟩=some (.string ts[i].text)
 fits:∀ i (h:i<ts.length),ts[i].fits
theorem TokCells.below {B:Nat} {w w':World} {b off:Nat} {ts:List Tk} (h:TokCells w b off ts) (hb:Below B w w') (hB:b<B):TokCells w' b off ts:=
 ⟨vah h.lt hb.size,fun i hi=>(hb.cell (p:=⟨b,off+i*3,none⟩) hB).trans (h.kind i hi),fun i hi=>(hb.cell (p:=⟨b,off+i*3+1,none⟩) hB).trans (h.num i hi),fun i hi=>(hb.cell (p:=⟨b,off+i*3+2,none⟩) hB).trans (h.text i hi),h.fits⟩
def zd6 (t:Tk):Bool:=decide (1<=t.kind)&&decide (t.kind<=3)
def zcs (ts:List Tk):Int:=if ts.all zd6 then (if ts.all Tk.okB then (if 4096<ts.length then 2 else 0) else 1) else 4
def zcm (w:World) (a:OA) (ts:List Tk):Prop:=ts=[]\/∃ b off,a=some (qa b off)/\TokCells w b off ts
theorem zcm.later {w w':World} {a:OA} {ts:List Tk} (h:zcm w a ts) (hb:qb w w'):zcm w' a ts:=by
 rcases h with h | ⟨b,off,e,h⟩
 . exact Or.inl h
 . exact Or.inr ⟨b,off,e,h.below hb h.lt⟩
theorem zcm.place {w:World} {a:OA} {ts:List Tk} (h:zcm w a ts) {k:Nat} (hk:k<ts.length):∃ b off,a=some (qa b off)/\TokCells w b off ts:=by
 rcases h with h | h
 . subst h;simp at hk
 . exact h
theorem all_snoc {α:Type} (ts:List α) (p:α->Bool) (k:Nat) (h:k<ts.length):(ts.take (k+1)).all p=((ts.take k).all p&&p ts[k]):=by
 rw [vaf h,vbo];simp
theorem all_not {α:Type} (ts:List α) (p:α->Bool) (k:Nat) (h:k<ts.length) (hp:p ts[k]=false):ts.all p=false:=by
 rw [vcp];exact ⟨ts[k],vag _,by simp [hp]⟩
theorem zq4 {ts:List Tk} (h:ts.all zd6=false):zcs ts=4:=by unfold zcs;rw [h];rfl
theorem zq5 {ts:List Tk} (h:ts.all zd6=true) (h1:ts.all Tk.okB=false):zcs ts=1:=by unfold zcs;rw [h,h1];rfl
theorem zq6 {ts:List Tk} (h:ts.all zd6=true) (h1:ts.all Tk.okB=true) (h2:4096<ts.length):zcs ts=2:=by unfold zcs;rw [h,h1,if_pos rfl,if_pos rfl,if_pos h2]
theorem zwk {ts:List Tk} (h:ts.all zd6=true) (h1:ts.all Tk.okB=true) (h2:¬ 4096<ts.length):zcs ts=0:=by unfold zcs;rw [h,h1,if_pos rfl,if_pos rfl,if_neg h2]
theorem Check_any (a:OA) (cap:Nat) (ts:List Tk) (w:World) (hT:zcm w a ts) (hl:ts.length<=1000000000000000) :
 qc 116 #[.slice a ts.length cap] w fun e w'=>e = .returned (qi (zcs ts))/\qb w w':=by
 have HT:Hid (zcm w a ts):=hT;clear hT;go_enter Tryz.func116,Tryz.ntmps116;go_wp2_with fail
 go_loopw [9,4] (fun i _ wr=>∃ k:Nat,k<=ts.length/\i=qi k/\(ts.take k).all zd6=true/\qb w wr) (fun i _ _=>ts.length - (intOf i).toNat)
 case atStart=>exact ⟨0,vae _,rfl,rfl,Below.refl _ _⟩
 case round=>
  obtain ⟨k,hk,rfl,A6,hb⟩:=hrel;have HA:Hid ((ts.take k).all zd6=true):=A6;clear A6
  by_cases A0:k<ts.length
  . obtain ⟨b,off,rfl,hT⟩:=(HT.out.later hb).place A0
    have CB:=hT.kind k A0;have Bg:=hT.num k A0;have C1:=hT.text k A0;have B9:=hT.lt;clear hT;have HS:Hid ((ts.take (k+1)).all zd6=((ts.take k).all zd6&&zd6 ts[k])):=all_snoc ts zd6 k A0
    by_cases D7:1<=ts[k].kind/\ts[k].kind<=3
    . obtain ⟨M3,hkb3⟩:=D7
      have HK:Hid (zd6 ts[k]=true):=by show zd6 ts[k]=true;simp [zd6,M3,hkb3]
      go_wp2_with fail;go_roundw
      case rel=>exact ⟨k+1,by omega,by go_num,by rw [HS.out,HA.out,HK.out];rfl,hb.alloc hb.size _⟩
      case measure=>simp [intOf];omega
    . have HF:Hid (zcs ts=4):=zq4 (all_not ts zd6 k A0 (by simp [zd6];omega))
      by_cases CA:ts[k].kind<1
      . clear D7
        go_wp2_with fail;go_ret;exact ⟨ret_int HF.out.symm,hb.alloc hb.size _⟩
      . have F4:3<ts[k].kind:=by omega
        clear D7;go_wp2_with fail;go_ret;exact ⟨ret_int HF.out.symm,hb.alloc hb.size _⟩
  . have HK:Hid (ts.all zd6=true):=by
     have:=HA.out;rw [vau (by omega)] at this;exact this
    clear HA;go_wp2_with fail
    go_loopw [24,6] (fun i _ wr=>∃ k:Nat,k<=ts.length/\i=qi k/\(ts.take k).all Tk.okB=true/\qb w wr) (fun i _ _=>ts.length - (intOf i).toNat)
    case atStart=>exact ⟨0,vae _,rfl,rfl,hb⟩
    case round=>
     obtain ⟨k',F5,rfl,A6,A5⟩:=hrel;have HA:Hid ((ts.take k').all Tk.okB=true):=A6;clear A6
     by_cases CM:k'<ts.length
     . obtain ⟨b,off,rfl,hT⟩:=(HT.out.later A5).place CM
       have CB:=hT.kind k' CM;have Bg:=hT.num k' CM;have C1:=hT.text k' CM;have Bo:=hT.fits k' CM;have B9:=hT.lt;clear hT;have HS:Hid ((ts.take (k'+1)).all Tk.okB=((ts.take k').all Tk.okB&&Tk.okB ts[k'])):=all_snoc ts Tk.okB k' CM
       by_cases D7:Tk.okB ts[k']=true
       . go_wp2_with (go_at_call 160;refine (zjr ts[k'] _ Bo).mono ?_;rintro e w' ⟨rfl,Aa⟩)
         go_roundw
         case rel=>exact ⟨k'+1,by omega,by go_num,by rw [HS.out,HA.out];simp [D7],(A5.alloc A5.size _).trans (Aa.mono (by have:=A5.size;simp;omega))⟩
         case measure=>simp [intOf];omega
       . have M4:Tk.okB ts[k']=false:=by simpa using D7
         have HF:Hid (zcs ts=1):=zq5 HK.out (all_not ts Tk.okB k' CM M4);clear D7
         go_wp2_with (go_at_call 160;refine (zjr ts[k'] _ Bo).mono ?_;rintro e w' ⟨rfl,Aa⟩)
         go_ret;exact ⟨ret_int HF.out.symm,(A5.alloc A5.size _).trans (Aa.mono (by have:=A5.size;simp;omega))⟩
     . have HO:Hid (ts.all Tk.okB=true):=by
        have:=HA.out;rw [vau (by omega)] at this;exact this
       clear HA
       by_cases hm:4096<ts.length
       . have HF:Hid (zcs ts=2):=zq6 HK.out HO.out hm
         go_wp2_with fail;go_ret;exact ⟨ret_int HF.out.symm,A5⟩
       . have HF:Hid (zcs ts=0):=zwk HK.out HO.out hm
         go_wp2_with fail;go_ret;exact ⟨ret_int HF.out.symm,A5⟩
def zd7 (ts:List Tk):Prop:=ts.all zd6=true/\ts.all Tk.okB=true
theorem zd7.get {ts:List Tk} (h:zd7 ts) (k:Nat) (hk:k<ts.length):zd6 ts[k]=true/\Tk.okB ts[k]=true:=
 ⟨var.1 h.1 _ (vag _),var.1 h.2 _ (vag _)⟩
theorem lt_of_heap {w:World} {b:Nat} {o:Obj} (h:w.heap[b]? = some o):b<w.heap.size:=by
 rcases vbi b w.heap.size with h' | h'
 . exact h'
 . simp [vaz h'] at h
def zff (c:UInt8):Bool:=c == 32||c == 10
def zdo (s:ByteArray) (a:Nat):Option (List Tk):=
 if h:a<s.size then
  if zff s[a] then zdo s (a+Lx.pieceN s a)
  else match zdu (s.extract a (a+Lx.pieceN s a)) with
   | none=>none
   | some t=>(zdo s (a+Lx.pieceN s a)).map (t :: ·)
 else some []
termination_by s.size - a
decreasing_by
 all_goals have:=Lx.zh2 s a;omega
theorem zo9 (s:ByteArray) (a:Nat) (h:¬ a<s.size):zdo s a=some []:=by rw [zdo,dif_neg h]
theorem zq7 (s:ByteArray) (a:Nat) (h:a<s.size) (hb:zff s[a]=true):zdo s a=zdo s (a+Lx.pieceN s a):=by
 rw [zdo,dif_pos h,if_pos hb]
theorem zuf (s:ByteArray) (a:Nat) (h:a<s.size) (hb:zff s[a]=false) (ht:zdu (s.extract a (a+Lx.pieceN s a))=none):zdo s a=none:=by
 rw [zdo,dif_pos h,if_neg (by simp [hb]),ht]
theorem zug (s:ByteArray) (a:Nat) (t:Tk) (h:a<s.size) (hb:zff s[a]=false) (ht:zdu (s.extract a (a+Lx.pieceN s a))=some t):zdo s a=(zdo s (a+Lx.pieceN s a)).map (t :: ·):=by
 rw [zdo,dif_pos h,if_neg (by simp [hb]),ht]
def zb5 (s:ByteArray) (a:Nat) (ts:List Tk):Prop:=zdo s 0=(zdo s a).map (ts++·)
theorem zb5.start (s:ByteArray):zb5 s 0 []:=by
 unfold zb5;cases zdo s 0<;>rfl
theorem zb5.blank {s:ByteArray} {a:Nat} {ts:List Tk} (h:zb5 s a ts) (ha:a<s.size) (hb:zff s[a]=true):zb5 s (a+Lx.pieceN s a) ts:=by
 unfold zb5 at *;rw [h,zq7 s a ha hb]
theorem zb5.tok {s:ByteArray} {a:Nat} {ts:List Tk} {t:Tk} (h:zb5 s a ts) (ha:a<s.size) (hb:zff s[a]=false) (ht:zdu (s.extract a (a+Lx.pieceN s a))=some t):zb5 s (a+Lx.pieceN s a) (ts++[t]):=by
 unfold zb5 at *;rw [h,zug s a t ha hb ht]
 cases zdo s (a+Lx.pieceN s a)<;>simp
theorem zb5.stop {s:ByteArray} {a:Nat} {ts:List Tk} (h:zb5 s a ts) (ha:a<s.size) (hb:zff s[a]=false) (ht:zdu (s.extract a (a+Lx.pieceN s a))=none):zdo s 0=none:=by
 unfold zb5 at *;rw [h,zuf s a ha hb ht];rfl
theorem zb5.done {s:ByteArray} {a:Nat} {ts:List Tk} (h:zb5 s a ts) (ha:¬ a<s.size):zdo s 0=some ts:=by
 unfold zb5 at *;rw [h,zo9 s a ha];simp
def lexT (s:ByteArray):List Tk:=if 4096<s.size then [] else (zdo s 0).getD []
def lexE (s:ByteArray):Int:=if 4096<s.size then 2 else if (zdo s 0).isSome then 0 else 1
theorem zz1 {s:ByteArray} (h:4096<s.size):lexT s=[]/\lexE s=2:=⟨if_pos h,if_pos h⟩
theorem z5j {s:ByteArray} (h:¬ 4096<s.size) (hn:zdo s 0=none):lexT s=[]/\lexE s=1:=by
 unfold lexT lexE;rw [if_neg h,if_neg h,hn];exact ⟨rfl,rfl⟩
theorem zwl {s:ByteArray} {ts:List Tk} (h:¬ 4096<s.size) (hn:zdo s 0=some ts):lexT s=ts/\lexE s=0:=by
 unfold lexT lexE;rw [if_neg h,if_neg h,hn];exact ⟨rfl,rfl⟩
def tkCells (t:Tk):List Value:=[qi t.kind,qi t.n,.string t.text]
def cellsOf (ts:List Tk):List Value:=ts.flatMap tkCells
theorem zpa (ts:List Tk) (t:Tk):cellsOf (ts++[t])=cellsOf ts++tkCells t:=by simp [cellsOf]
theorem zjs:∀ (ts:List Tk) (i:Nat) (h:i<ts.length),(cellsOf ts)[i*3]? = some (qi ts[i].kind)/\(cellsOf ts)[i*3+1]? = some (qi ts[i].n)/\(cellsOf ts)[i*3+2]? = some (.string ts[i].text)
 | [],i,h=>by simp at h
 | t :: r,0,_=>⟨rfl,rfl,rfl⟩
 | t :: r,i+1,h=>by
   have ih:=zjs r i (by simpa using h)
   have e:cellsOf (t :: r)=qi t.kind :: qi t.n :: .string t.text :: cellsOf r:=by simp [cellsOf,tkCells]
   rw [e,show (i+1)*3=i*3+1+1+1 from by omega];simpa using ih
def AllFit (ts:List Tk):Prop:=∀ i (h:i<ts.length),ts[i].fits
theorem AllFit.nil:AllFit []:=fun i h=>by simp at h
theorem AllFit.snoc {ts:List Tk} {t:Tk} (h:AllFit ts) (ht:t.fits):AllFit (ts++[t]):=by
 intro i hi
 by_cases hl:i<ts.length
 . rw [vch hl];exact h i hl
 . have:i=ts.length:=by simp at hi;omega
   subst this
   simp;exact ht
theorem zuh {w:World} {B:Nat} {v:Value} {ts:List Tk} (h:w.ownsRow B 184 3 v ts.length (cellsOf ts)) (hf:AllFit ts):∃ a cap,v = .slice a ts.length cap/\zcm w a ts:=by
 obtain ⟨h1,h2⟩:=h
 rcases h2 with ⟨hv,h0⟩ | ⟨g,cap,AC,hv,hg,hc,hn,hm,Co,EW⟩
 . have:ts=[]:=vam h0
   subst this;exact ⟨none,0,hv,Or.inl rfl⟩
 . refine ⟨some (qa g 0),cap,hv,Or.inr ⟨g,0,rfl,lt_of_heap hc,?_,?_,?_,hf⟩⟩
   all_goals
    intro i hi;have hx:=zjs ts i hi;rw [vep hc];rw [← EW] at hx;simp only [vdw,Array.getElem?_toList] at hx;rw [if_pos (by omega),if_pos (by omega),if_pos (by omega)] at hx;simp only [vax]
   . exact hx.1
   . exact hx.2.1
   . exact hx.2.2
theorem Tryz.infoTok:(Tryz.prog.info? 184).map (fun i=>(i.zero,i.size,i.bytes))=some (some (.agg #[qi 0,qi 0,.string ⟨#[]⟩]),3,32):=by kernel_rfl
theorem zfr (s:ByteArray) (a n:Nat) (h:a+n<=s.size):(s.extract a (a+n)).size=n:=by
 rw [ByteArray.size_extract];omega
theorem ownsRow_later {W W':World} {B:Nat} {e:TypeId} {size:Nat} {v:Value} {n:Nat} {xs:List Value} (h:W.ownsRow B e size v n xs) (hb:qb W W'):W'.ownsRow B e size v n xs:=by
 obtain ⟨h1,h2⟩:=h;refine ⟨h1,?_⟩
 rcases h2 with h2 | ⟨g,cap,AC,hv,hg,hc,hrest⟩
 . exact Or.inl h2
 . exact Or.inr ⟨g,cap,AC,hv,hg,(hb.block g (lt_of_heap hc)).trans hc,hrest⟩
theorem zwm (w:World) (x y z:Value) (t:TypeId):∀ j u,[x,y,z][j]? = some u->(w.alloc (.cells #[x,y,z] t)).cell? (((qa w.heap.size 0):Addr).add j)=some u:=by
 intro j u hj;have hh:(w.alloc (.cells #[x,y,z] t)).heap[w.heap.size]? = some (.cells #[x,y,z] t):=_root_.Go.heap_alloc_new w _
 have:((qa w.heap.size 0):Addr).add j=(qa w.heap.size j):=by simp [Addr.add];exact fun h=>h.symm
 rw [this,vep hh,← hj];simp
theorem zwn (t:Tk):∀ u ∈ tkCells t,u.oneCell'=true:=by
 intro u hu;simp only [tkCells,vby,List.not_mem_nil,or_false] at hu
 rcases hu with h | h | h
 all_goals subst h;rfl
end Go.Proofs.YtndkhgakfodldaaGreatDoor
