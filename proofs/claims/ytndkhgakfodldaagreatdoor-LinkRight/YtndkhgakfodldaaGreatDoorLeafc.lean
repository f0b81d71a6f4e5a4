import Derived.Test.YtndkhgakfodldaaGreatDoorLeaf
import Derived.Test.YtndkhgakfodldaaGreatDoorShelf
import Derived.Test.YtndkhgakfodldaaGreatDoorNum
namespace Go.Proofs.YtndkhgakfodldaaGreatDoor
set_option maxRecDepth 100000
set_option maxHeartbeats 400000
open Go.RowKit
theorem ze7 (s:ByteArray) (w:World) :
 qc 203 #[.string s] w fun e w'=>e = .returned (.bool (Lx.zjm s.data.toList))/\w'=w:=by
 by_cases h1:s.size=1
 . have h0:0<s.size:=by omega
   have HN:Hid (Lx.zjm s.data.toList=decide (0<=Lib.indexByte zxt.data.toList s[0])):=by
    have:=Lx.zma s[0];exact (Lx.zy1 s h1).trans this.symm
   have Ah:((s.size:Int) == 1)=true:=by rw [beq_iff_eq];omega
   clear h1;go_enter Tryz.func203,Tryz.ntmps203
   go_wp2_with (go_at_call 255;refine (Tryz.strings_IndexByte zxt _ _).mono ?_;rintro e w' ⟨rfl,rfl⟩)
   all_goals go_ret
   all_goals exact ⟨ret_bool (by rw [HN.out];simp),rfl⟩
 . have HN:Hid (Lx.zjm s.data.toList=false):=Lx.zss s h1
   have Ah:((s.size:Int) == 1)=false:=by rw [beq_eq_false_iff_ne];omega
   clear h1;go_enter Tryz.func203,Tryz.ntmps203;go_wp2_with fail;go_ret;exact ⟨ret_bool HN.out.symm,rfl⟩
def zag:List PanicEntry:=[{ v:=.iface 31 (qi 1),recovered:=false }]
def zi4 (l:L8):Ending:=if Lx.zgr l then .returned (qi (Lx.valL l)) else .panicked zag
theorem zms {l:L8} (h:Lx.zgr l=true):zi4 l = .returned (qi (Lx.valL l)):=by unfold zi4;rw [h];rfl
theorem zhk {l:L8} (h:Lx.zgr l=false):zi4 l = .panicked zag:=by unfold zi4;rw [h];rfl
theorem zmt (s:ByteArray) (w:World) (hs:s.size<=maxLen) :
 qc 250 #[.string s] w fun e w'=>e=zi4 s.data.toList/\w'=w:=by
 unfold maxLen at hs
 by_cases DN:∃ h:1<s.size,s[0]=48
 . obtain ⟨h1,h0⟩:=DN
   have HN:Hid (zi4 s.data.toList = .panicked zag):=zhk (Lx.zv6 _ (Lx.z10 s h1 h0))
   have hb:(((s[0].toNat:Nat):Int) == 48)=true:=by rw [h0];rfl
   clear h0;go_enter Tryz.func250,Tryz.ntmps250;go_wp2_with fail;exact ⟨rfl,HN.out.symm,rfl⟩
 . have HL : Hid (Lx.zm9 s.data.toList=true):=Lx.zyz s (fun h1 h0=>DN ⟨h1,h0⟩)
   have EH:(¬ 1<s.size)\/∃ h:1<s.size,(((s[0].toNat:Nat):Int) == 48)=false:=by
    by_cases h1:1<s.size
    . refine Or.inr ⟨h1,?_⟩
      rw [beq_eq_false_iff_ne];intro e;exact DN ⟨h1,vea.1 (by show s[0].toNat=48;omega)⟩
    . exact Or.inl h1
   clear DN
   rcases EH with h1 | ⟨h1,hb⟩
   all_goals
    go_enter Tryz.func250,Tryz.ntmps250;go_wp2_with fail
    go_loop [16,3,4] (fun i n _=>∃ k:Nat,k<=s.size/\i=qi k/\n=qi (Lx.valL (s.data.toList.take k))/\(s.data.toList.take k).all Lx.zie=true/\Lx.valL (s.data.toList.take k)<=1099511627775) (fun i _ _=>s.size - (intOf i).toNat)
    case atStart=>exact ⟨0,vag _,rfl,rfl,rfl,by simp [Lx.valL]⟩
    case round=>
     obtain ⟨k,hk,rfl,rfl,A8,hv⟩:=hrel;have HA:Hid ((s.data.toList.take k).all Lx.zie=true):=A8;clear A8
     by_cases A4:k<s.size
     . by_cases hd:Lx.zie s[k]=true
       . have HS:Hid ((s.data.toList.take (k+1)).all Lx.zie=((s.data.toList.take k).all Lx.zie&&Lx.zie s[k])):=Lx.zfn s k A4 Lx.zie
         have HV:Hid (Lx.valL (s.data.toList.take (k+1))=10*Lx.valL (s.data.toList.take k)+Lx.dv s[k]):=Lx.zor s k A4;have hr:=Lx.zyy _ hd
         have HB:Hid (Lx.valL (s.data.toList.take (k+1))<=1099511627775\/Lx.zgr s.data.toList=false):=by
          by_cases hm:Lx.valL (s.data.toList.take (k+1))<=1099511627775
          . exact Or.inl hm
          . exact Or.inr (Lx.zy0 s (k+1) (by omega))
         generalize hV:Lx.valL (s.data.toList.take k)=V at *;have Tm:Hid (Lx.valL (s.data.toList.take k)=V):=hV;clear hV;obtain ⟨Bz,Fl⟩:=hr
         go_wp2_with (go_at_call 249;refine (zbu _ _).mono ?_;rintro e w' ⟨rfl,rfl⟩)
         . have hN:Lx.zgr s.data.toList=false:=by
            rcases HB.out with h | h
            . rw [HV.out] at h;unfold Lx.dv at h;omega
            . exact h
           exact ⟨rfl,(zhk hN).symm,rfl⟩
         . go_round
           case rel=>exact ⟨k+1,by omega,by go_num,by rw [HV.out];unfold Lx.dv;go_num,by rw [HS.out,HA.out];simp [hd],by rw [HV.out];unfold Lx.dv;omega⟩
           case measure=>simp [intOf];omega
       . have EU:Lx.zie s[k]=false:=by simpa using hd
         clear hd;have HN:Hid (zi4 s.data.toList = .panicked zag):=zhk (Lx.zl9 _ (Lx.zs0 s k A4 _ EU))
         go_wp2_with (go_at_call 249;refine (zbu _ _).mono ?_;rintro e w' ⟨rfl,rfl⟩)
         exact ⟨rfl,HN.out.symm,rfl⟩
     . obtain rfl:k=s.size:=by omega
       have HN:Hid (zi4 s.data.toList = .returned (qi (Lx.valL (s.data.toList.take s.size)))):=by
        have hT:s.data.toList.take s.size=s.data.toList:=vaw (by rw [Lx.zaz];exact vaa _);rw [hT] at HA hv ⊢;exact zms (by unfold Lx.zgr;rw [HA.out,HL.out];simp;exact hv)
       go_wp2_with fail;go_ret;exact ⟨HN.out.symm,rfl⟩
def strOf (l:L8):ByteArray:=⟨l.toArray⟩
theorem strOf_list (l:L8):(strOf l).data.toList=l:=by simp [strOf]
theorem strOf_back (s:ByteArray):strOf s.data.toList=s:=by simp [strOf]
theorem strOf_size (l:L8):(strOf l).size=l.length:=by simp [strOf,ByteArray.size]
structure Tk where
 kind:Int
 n:Int
 text:ByteArray
def Tk.val (t:Tk):Value:=.agg #[qi t.kind,qi t.n,.string t.text]
def zc0 (s:ByteArray):Option Tk:=
 if Lx.zjm s.data.toList then some ⟨3,0,s⟩ else if Lx.zby s.data.toList then some ⟨1,0,s⟩ else if Lx.zgr s.data.toList then some ⟨2,Lx.valL s.data.toList,⟨#[]⟩⟩ else none
theorem zp5 (s:ByteArray) (w:World) (hs:s.size<=281474976710656) :
 qc 173 #[.string s] w fun e w'=>e = .returned (.string s)/\qb w w':=by
 go_enter Tryz.func173,Tryz.ntmps173
 go_wp2_with (go_at_call 220;refine (Tryz.stringslite_Clone s _ hs).mono ?_;rintro e w' ⟨rfl,hb⟩)
 go_ret;exact ⟨rfl,hb⟩
theorem zp6 (s:ByteArray) (w:World) (hs:s.size<=maxLen) :
 qc 194 #[.string s] w fun e w'=>((∃ t,zc0 s=some t/\e = .returned t.val)\/(zc0 s=none/\e = .panicked zag))/\qb w w':=by
 by_cases h1:Lx.zjm s.data.toList=true
 . have HT:Hid (zc0 s=some ⟨3,0,s⟩):=by show zc0 s=_;unfold zc0;rw [if_pos h1]
   go_enter Tryz.func194,Tryz.ntmps194
   go_wp2_with (go_at_call 203;refine (ze7 s _).mono ?_;rintro e w' ⟨rfl,rfl⟩)
   exact bodyPost_ret (v:=Tk.val ⟨3,0,s⟩) (by simp [results,Tryz.results194,go_sem,Tk.val]) rfl ⟨Or.inl ⟨_,HT.out,rfl⟩,(Below.refl _ _).alloc (vaa _) _⟩
 . have D6:Lx.zjm s.data.toList=false:=by simpa using h1
   clear h1
   by_cases h2:Lx.zby s.data.toList=true
   . have HT:Hid (zc0 s=some ⟨1,0,s⟩):=by show zc0 s=_;unfold zc0;rw [if_neg (by simp [D6]),if_pos h2]
     go_enter Tryz.func194,Tryz.ntmps194
     go_wp2_with (first | (go_at_call 203;refine (ze7 s _).mono ?_;rintro e w' ⟨rfl,rfl⟩) | (go_at_call 202;refine (ze6 s _ hs).mono ?_;rintro e w' ⟨rfl,rfl⟩))
     exact bodyPost_ret (v:=Tk.val ⟨1,0,s⟩) (by simp [results,Tryz.results194,go_sem,Tk.val]) rfl ⟨Or.inl ⟨_,HT.out,rfl⟩,(Below.refl _ _).alloc (vaa _) _⟩
   . have FU:Lx.zby s.data.toList=false:=by simpa using h2
     clear h2
     by_cases h3:Lx.zgr s.data.toList=true
     . have HT:Hid (zc0 s=some ⟨2,Lx.valL s.data.toList,⟨#[]⟩⟩):=by show zc0 s=_;unfold zc0;rw [if_neg (by simp [D6]),if_neg (by simp [FU]),if_pos h3]
       have hN:=zms h3
       have HC:Hid (∀ w:World,qc 250 #[.string s] w fun e w'=>e = .returned (qi (Lx.valL s.data.toList))/\w'=w):=fun w=>by rw [← hN];exact zmt s w hs
       clear hN h3;go_enter Tryz.func194,Tryz.ntmps194
       go_wp2_with (first | (go_at_call 203;refine (ze7 s _).mono ?_;rintro e w' ⟨rfl,rfl⟩) | (go_at_call 202;refine (ze6 s _ hs).mono ?_;rintro e w' ⟨rfl,rfl⟩) | (go_at_call 250;refine (HC.out _).mono ?_;rintro e w' ⟨rfl,rfl⟩))
       exact bodyPost_ret (v:=Tk.val ⟨2,Lx.valL s.data.toList,⟨#[]⟩⟩) (by simp [results,Tryz.results194,go_sem,Tk.val]) rfl ⟨Or.inl ⟨_,HT.out,rfl⟩,(Below.refl _ _).alloc (vaa _) _⟩
     . have Gn:Lx.zgr s.data.toList=false:=by simpa using h3
       have HT:Hid (zc0 s=none):=by show zc0 s=_;unfold zc0;rw [if_neg (by simp [D6]),if_neg (by simp [FU]),if_neg h3]
       have hN:=zhk Gn
       have HC:Hid (∀ w:World,qc 250 #[.string s] w fun e w'=>e = .panicked zag/\w'=w):=fun w=>by rw [← hN];exact zmt s w hs
       clear hN h3 Gn;go_enter Tryz.func194,Tryz.ntmps194
       go_wp2_with (first | (go_at_call 203;refine (ze7 s _).mono ?_;rintro e w' ⟨rfl,rfl⟩) | (go_at_call 202;refine (ze6 s _ hs).mono ?_;rintro e w' ⟨rfl,rfl⟩) | (go_at_call 250;refine (HC.out _).mono ?_;rintro e w' ⟨rfl,rfl⟩))
       exact ⟨rfl,Or.inr ⟨HT.out,rfl⟩,(Below.refl _ _).alloc (vaa _) _⟩
def Tk.inB (t:Tk):Prop:=t.kind=2->0<=t.n/\t.n<=1099511627775
set_option maxHeartbeats 800000
def Tk.okB (t:Tk):Bool:=
 if t.kind=1 then decide (t.n=0)&&Lx.zby t.text.data.toList
 else if t.kind=2 then t.text.toList.isEmpty&&(decide (0<=t.n)&&decide (t.n<=1099511627775))
 else decide (t.n=0)&&Lx.zjm t.text.data.toList
theorem zkk (t:Tk) (w:World) (hs:t.text.size<=maxLen) :
 qc 160 #[t.val] w fun e w'=>e = .returned (.bool t.okB)/\qb w w':=by
 obtain ⟨K,N,S⟩:=t;simp only [Tk.val] at *
 by_cases k1:K=1
 . have HT:Hid (Tk.okB ⟨K,N,S⟩=(decide (N=0)&&Lx.zby S.data.toList)):=if_pos k1
   have DO:(K == 1)=true:=beq_iff_eq.2 k1;clear k1
   by_cases n0:N=0
   . have LH:(N == 0)=true:=beq_iff_eq.2 n0
     have HR:Hid (Tk.okB ⟨K,N,S⟩=Lx.zby S.data.toList):=by show Tk.okB _=_;rw [HT.out,decide_eq_true n0,vdu]
     clear n0;go_enter Tryz.func160,Tryz.ntmps160
     go_wp2_with (go_at_call 202;refine (ze6 S _ hs).mono ?_;rintro e w' ⟨rfl,rfl⟩)
     go_ret;exact ⟨ret_bool HR.out.symm,(Below.refl _ _).alloc (vaa _) _⟩
   . have LH:(N == 0)=false:=beq_eq_false_iff_ne.2 n0
     have HR:Hid (Tk.okB ⟨K,N,S⟩=false):=by show Tk.okB _=_;rw [HT.out,decide_eq_false n0,vec]
     clear n0;go_enter Tryz.func160,Tryz.ntmps160;go_wp2_with fail;go_ret;exact ⟨ret_bool HR.out.symm,(Below.refl _ _).alloc (vaa _) _⟩
 . by_cases k2:K=2
   . have HT:Hid (Tk.okB ⟨K,N,S⟩=(S.toList.isEmpty&&(decide (0<=N)&&decide (N<=1099511627775)))):=by show Tk.okB _=_;unfold Tk.okB;rw [if_neg k1,if_pos k2]
     have DO:(K == 1)=false:=beq_eq_false_iff_ne.2 k1;have Qs:(K == 2)=true:=beq_iff_eq.2 k2;clear k1 k2
     by_cases he:S.toList.isEmpty=true
     . by_cases h0:0<=N
       . go_enter Tryz.func160,Tryz.ntmps160
         go_wp2_with fail;go_ret;exact ⟨ret_bool (by rw [HT.out];simp [he,h0]),(Below.refl _ _).alloc (vaa _) _⟩
       . go_enter Tryz.func160,Tryz.ntmps160
         go_wp2_with fail;go_ret;exact ⟨ret_bool (by rw [HT.out,decide_eq_false (show ¬ 0<=N from by omega)];simp),(Below.refl _ _).alloc (vaa _) _⟩
     . have FP:S.toList.isEmpty=false:=by simpa using he
       clear he;go_enter Tryz.func160,Tryz.ntmps160;go_wp2_with fail;go_ret;exact ⟨ret_bool (by rw [HT.out];simp [FP]),(Below.refl _ _).alloc (vaa _) _⟩
   . have HT:Hid (Tk.okB ⟨K,N,S⟩=(decide (N=0)&&Lx.zjm S.data.toList)):=by show Tk.okB _=_;unfold Tk.okB;rw [if_neg k1,if_neg k2]
     have DO:(K == 1)=false:=beq_eq_false_iff_ne.2 k1;have Qs:(K == 2)=false:=beq_eq_false_iff_ne.2 k2;clear k1 k2
     by_cases n0:N=0
     . have LH:(N == 0)=true:=beq_iff_eq.2 n0
       have HR:Hid (Tk.okB ⟨K,N,S⟩=Lx.zjm S.data.toList):=by show Tk.okB _=_;rw [HT.out,decide_eq_true n0,vdu]
       clear n0;go_enter Tryz.func160,Tryz.ntmps160
       go_wp2_with (go_at_call 203;refine (ze7 S _).mono ?_;rintro e w' ⟨rfl,rfl⟩)
       go_ret;exact ⟨ret_bool HR.out.symm,(Below.refl _ _).alloc (vaa _) _⟩
     . have LH:(N == 0)=false:=beq_eq_false_iff_ne.2 n0
       have HR:Hid (Tk.okB ⟨K,N,S⟩=false):=by show Tk.okB _=_;rw [HT.out,decide_eq_false n0,vec]
       clear n0;go_enter Tryz.func160,Tryz.ntmps160;go_wp2_with fail;go_ret;exact ⟨ret_bool HR.out.symm,(Below.refl _ _).alloc (vaa _) _⟩
def Tk.fits (t:Tk):Prop:=t.text.size<=maxLen
structure TokCells (w:World) (b off:Nat) (ts:List Tk):Prop where
 lt:b<w.heap.size
 kind:∀ i (h:i<ts.length),w.cell? ⟨b,off+i*3,none⟩=some (qi ts[i].kind)
 num:∀ i (h:i<ts.length),w.cell? ⟨b,off+i*3+1,none⟩=some (qi ts[i].n)
 text:∀ i (h:i<ts.length),w.cell? ⟨b,off+i*3+2,none⟩=some (.string ts[i].text)
 fits:∀ i (h:i<ts.length),ts[i].fits
theorem TokCells.below {B:Nat} {w w':World} {b off:Nat} {ts:List Tk} (h:TokCells w b off ts) (hb:Below B w w') (hB:b<B):TokCells w' b off ts:=
 ⟨vah h.lt hb.size,fun i hi=>(hb.cell (p:=⟨b,off+i*3,none⟩) hB).trans (h.kind i hi),fun i hi=>(hb.cell (p:=⟨b,off+i*3+1,none⟩) hB).trans (h.num i hi),fun i hi=>(hb.cell (p:=⟨b,off+i*3+2,none⟩) hB).trans (h.text i hi),h.fits⟩
def zea (t:Tk):Bool:=decide (1<=t.kind)&&decide (t.kind<=3)
def zc1 (ts:List Tk):Int:=if ts.all zea then (if ts.all Tk.okB then (if 4096<ts.length then 2 else 0) else 1) else 4
def zc2 (w:World) (a:OA) (ts:List Tk):Prop:=ts=[]\/∃ b off,a=some (qa b off)/\TokCells w b off ts
theorem zc2.later {w w':World} {a:OA} {ts:List Tk} (h:zc2 w a ts) (hb:qb w w'):zc2 w' a ts:=by
 rcases h with h | ⟨b,off,e,h⟩
 . exact Or.inl h
 . exact Or.inr ⟨b,off,e,h.below hb h.lt⟩
theorem zc2.place {w:World} {a:OA} {ts:List Tk} (h:zc2 w a ts) {k:Nat} (hk:k<ts.length):∃ b off,a=some (qa b off)/\TokCells w b off ts:=by
 rcases h with h | h
 . subst h;simp at hk
 . exact h
theorem all_snoc {α:Type} (ts:List α) (p:α->Bool) (k:Nat) (h:k<ts.length):(ts.take (k+1)).all p=((ts.take k).all p&&p ts[k]):=by
 rw [vaf h,vbm];simp
theorem all_not {α:Type} (ts:List α) (p:α->Bool) (k:Nat) (h:k<ts.length) (hp:p ts[k]=false):ts.all p=false:=by
 rw [vcw];exact ⟨ts[k],vaj _,by simp [hp]⟩
theorem zr4 {ts:List Tk} (h:ts.all zea=false):zc1 ts=4:=by unfold zc1;rw [h];rfl
theorem zr5 {ts:List Tk} (h:ts.all zea=true) (h1:ts.all Tk.okB=false):zc1 ts=1:=by unfold zc1;rw [h,h1];rfl
theorem zr6 {ts:List Tk} (h:ts.all zea=true) (h1:ts.all Tk.okB=true) (h2:4096<ts.length):zc1 ts=2:=by unfold zc1;rw [h,h1,if_pos rfl,if_pos rfl,if_pos h2]
theorem zxu {ts:List Tk} (h:ts.all zea=true) (h1:ts.all Tk.okB=true) (h2:¬ 4096<ts.length):zc1 ts=0:=by unfold zc1;rw [h,h1,if_pos rfl,if_pos rfl,if_neg h2]
theorem Check_any (a:OA) (cap:Nat) (ts:List Tk) (w:World) (hT:zc2 w a ts) (hl:ts.length<=1000000000000000) :
 qc 116 #[.slice a ts.length cap] w fun e w'=>e = .returned (qi (zc1 ts))/\qb w w':=by
 have HT:Hid (zc2 w a ts):=hT;clear hT;go_enter Tryz.func116,Tryz.ntmps116;go_wp2_with fail
 go_loopw [9,4] (fun i _ wr=>∃ k:Nat,k<=ts.length/\i=qi k/\(ts.take k).all zea=true/\qb w wr) (fun i _ _=>ts.length - (intOf i).toNat)
 case atStart=>exact ⟨0,vag _,rfl,rfl,Below.refl _ _⟩
 case round=>
  obtain ⟨k,hk,rfl,A8,hb⟩:=hrel;have HA:Hid ((ts.take k).all zea=true):=A8;clear A8
  by_cases A4:k<ts.length
  . obtain ⟨b,off,rfl,hT⟩:=(HT.out.later hb).place A4
    have Ct:=hT.kind k A4;have Be:=hT.num k A4;have BU:=hT.text k A4;have C4:=hT.lt;clear hT;have HS:Hid ((ts.take (k+1)).all zea=((ts.take k).all zea&&zea ts[k])):=all_snoc ts zea k A4
    by_cases DO:1<=ts[k].kind/\ts[k].kind<=3
    . obtain ⟨LY,hkb3⟩:=DO
      have HK:Hid (zea ts[k]=true):=by show zea ts[k]=true;simp [zea,LY,hkb3]
      go_wp2_with fail;go_roundw
      case rel=>exact ⟨k+1,by omega,by go_num,by rw [HS.out,HA.out,HK.out];rfl,hb.alloc hb.size _⟩
      case measure=>simp [intOf];omega
    . have HF:Hid (zc1 ts=4):=zr4 (all_not ts zea k A4 (by simp [zea];omega))
      by_cases Cs:ts[k].kind<1
      . clear DO
        go_wp2_with fail;go_ret;exact ⟨ret_int HF.out.symm,hb.alloc hb.size _⟩
      . have Ft:3<ts[k].kind:=by omega
        clear DO;go_wp2_with fail;go_ret;exact ⟨ret_int HF.out.symm,hb.alloc hb.size _⟩
  . have HK:Hid (ts.all zea=true):=by
     have:=HA.out;rw [vaw (by omega)] at this;exact this
    clear HA;go_wp2_with fail
    go_loopw [24,6] (fun i _ wr=>∃ k:Nat,k<=ts.length/\i=qi k/\(ts.take k).all Tk.okB=true/\qb w wr) (fun i _ _=>ts.length - (intOf i).toNat)
    case atStart=>exact ⟨0,vag _,rfl,rfl,hb⟩
    case round=>
     obtain ⟨k',Fu,rfl,A8,A6⟩:=hrel;have HA:Hid ((ts.take k').all Tk.okB=true):=A8;clear A8
     by_cases CO:k'<ts.length
     . obtain ⟨b,off,rfl,hT⟩:=(HT.out.later A6).place CO
       have Ct:=hT.kind k' CO;have Be:=hT.num k' CO;have BU:=hT.text k' CO;have Bv:=hT.fits k' CO;have C4:=hT.lt;clear hT;have HS:Hid ((ts.take (k'+1)).all Tk.okB=((ts.take k').all Tk.okB&&Tk.okB ts[k'])):=all_snoc ts Tk.okB k' CO
       by_cases DO:Tk.okB ts[k']=true
       . go_wp2_with (go_at_call 160;refine (zkk ts[k'] _ Bv).mono ?_;rintro e w' ⟨rfl,Ab⟩)
         go_roundw
         case rel=>exact ⟨k'+1,by omega,by go_num,by rw [HS.out,HA.out];simp [DO],(A6.alloc A6.size _).trans (Ab.mono (by have:=A6.size;simp;omega))⟩
         case measure=>simp [intOf];omega
       . have LZ:Tk.okB ts[k']=false:=by simpa using DO
         have HF:Hid (zc1 ts=1):=zr5 HK.out (all_not ts Tk.okB k' CO LZ);clear DO
         go_wp2_with (go_at_call 160;refine (zkk ts[k'] _ Bv).mono ?_;rintro e w' ⟨rfl,Ab⟩)
         go_ret;exact ⟨ret_int HF.out.symm,(A6.alloc A6.size _).trans (Ab.mono (by have:=A6.size;simp;omega))⟩
     . have HO:Hid (ts.all Tk.okB=true):=by
        have:=HA.out;rw [vaw (by omega)] at this;exact this
       clear HA
       by_cases hm:4096<ts.length
       . have HF:Hid (zc1 ts=2):=zr6 HK.out HO.out hm
         go_wp2_with fail;go_ret;exact ⟨ret_int HF.out.symm,A6⟩
       . have HF:Hid (zc1 ts=0):=zxu HK.out HO.out hm
         go_wp2_with fail;go_ret;exact ⟨ret_int HF.out.symm,A6⟩
def zcx (ts:List Tk):Prop:=ts.all zea=true/\ts.all Tk.okB=true
theorem zcx.get {ts:List Tk} (h:zcx ts) (k:Nat) (hk:k<ts.length):zea ts[k]=true/\Tk.okB ts[k]=true:=
 ⟨vas.1 h.1 _ (vaj _),vas.1 h.2 _ (vaj _)⟩
theorem lt_of_heap {w:World} {b:Nat} {o:Obj} (h:w.heap[b]? = some o):b<w.heap.size:=by
 rcases vbg b w.heap.size with h' | h'
 . exact h'
 . simp [vaz h'] at h
def zeq (c:UInt8):Bool:=c == 32||c == 10
def zdf (s:ByteArray) (a:Nat):Option (List Tk):=
 if h:a<s.size then
  if zeq s[a] then zdf s (a+Lx.pieceN s a)
  else match zc0 (s.extract a (a+Lx.pieceN s a)) with
   | none=>none
   | some t=>(zdf s (a+Lx.pieceN s a)).map (t :: ·)
 else some []
termination_by s.size - a
decreasing_by
 all_goals have:=Lx.zgj s a;omega
theorem zkl (s:ByteArray) (a:Nat) (h:¬ a<s.size):zdf s a=some []:=by rw [zdf,dif_neg h]
theorem zkm (s:ByteArray) (a:Nat) (h:a<s.size) (hb:zeq s[a]=true):zdf s a=zdf s (a+Lx.pieceN s a):=by
 rw [zdf,dif_pos h,if_pos hb]
theorem zmu (s:ByteArray) (a:Nat) (h:a<s.size) (hb:zeq s[a]=false) (ht:zc0 (s.extract a (a+Lx.pieceN s a))=none):zdf s a=none:=by
 rw [zdf,dif_pos h,if_neg (by simp [hb]),ht]
theorem zmv (s:ByteArray) (a:Nat) (t:Tk) (h:a<s.size) (hb:zeq s[a]=false) (ht:zc0 (s.extract a (a+Lx.pieceN s a))=some t):zdf s a=(zdf s (a+Lx.pieceN s a)).map (t :: ·):=by
 rw [zdf,dif_pos h,if_neg (by simp [hb]),ht]
def zca (s:ByteArray) (a:Nat) (ts:List Tk):Prop:=zdf s 0=(zdf s a).map (ts++·)
theorem zca.start (s:ByteArray):zca s 0 []:=by
 unfold zca;cases zdf s 0<;>rfl
theorem zca.blank {s:ByteArray} {a:Nat} {ts:List Tk} (h:zca s a ts) (ha:a<s.size) (hb:zeq s[a]=true):zca s (a+Lx.pieceN s a) ts:=by
 unfold zca at *;rw [h,zkm s a ha hb]
theorem zca.tok {s:ByteArray} {a:Nat} {ts:List Tk} {t:Tk} (h:zca s a ts) (ha:a<s.size) (hb:zeq s[a]=false) (ht:zc0 (s.extract a (a+Lx.pieceN s a))=some t):zca s (a+Lx.pieceN s a) (ts++[t]):=by
 unfold zca at *;rw [h,zmv s a t ha hb ht]
 cases zdf s (a+Lx.pieceN s a)<;>simp
theorem zca.stop {s:ByteArray} {a:Nat} {ts:List Tk} (h:zca s a ts) (ha:a<s.size) (hb:zeq s[a]=false) (ht:zc0 (s.extract a (a+Lx.pieceN s a))=none):zdf s 0=none:=by
 unfold zca at *;rw [h,zmu s a ha hb ht];rfl
theorem zca.done {s:ByteArray} {a:Nat} {ts:List Tk} (h:zca s a ts) (ha:¬ a<s.size):zdf s 0=some ts:=by
 unfold zca at *;rw [h,zkl s a ha];simp
def lexT (s:ByteArray):List Tk:=if 4096<s.size then [] else (zdf s 0).getD []
def lexE (s:ByteArray):Int:=if 4096<s.size then 2 else if (zdf s 0).isSome then 0 else 1
theorem z1e {s:ByteArray} (h:4096<s.size):lexT s=[]/\lexE s=2:=⟨if_pos h,if_pos h⟩
theorem z64 {s:ByteArray} (h:¬ 4096<s.size) (hn:zdf s 0=none):lexT s=[]/\lexE s=1:=by
 unfold lexT lexE;rw [if_neg h,if_neg h,hn];exact ⟨rfl,rfl⟩
theorem zxv {s:ByteArray} {ts:List Tk} (h:¬ 4096<s.size) (hn:zdf s 0=some ts):lexT s=ts/\lexE s=0:=by
 unfold lexT lexE;rw [if_neg h,if_neg h,hn];exact ⟨rfl,rfl⟩
theorem zvt (s:ByteArray) (a n:Nat):(s.extract a (a+n)).data.toList=(s.data.toList.drop a).take n:=by
 rw [Lib.extract_data,show a+n - a=n from by omega]
theorem zxw (s:ByteArray) (a:Nat) (h:a<s.size):s.data.toList.drop a=s[a] :: s.data.toList.drop (a+1):=by
 rw [List.drop_eq_getElem_cons (by rw [Lx.zaz];exact h)];rfl
def tkCells (t:Tk):List Value:=[qi t.kind,qi t.n,.string t.text]
def cellsOf (ts:List Tk):List Value:=ts.flatMap tkCells
theorem zp7 (ts:List Tk) (t:Tk):cellsOf (ts++[t])=cellsOf ts++tkCells t:=by simp [cellsOf]
theorem zkn:∀ (ts:List Tk) (i:Nat) (h:i<ts.length),(cellsOf ts)[i*3]? = some (qi ts[i].kind)/\(cellsOf ts)[i*3+1]? = some (qi ts[i].n)/\(cellsOf ts)[i*3+2]? = some (.string ts[i].text)
 | [],i,h=>by simp at h
 | t :: r,0,_=>⟨rfl,rfl,rfl⟩
 | t :: r,i+1,h=>by
   have ih:=zkn r i (by simpa using h)
   have e:cellsOf (t :: r)=qi t.kind :: qi t.n :: .string t.text :: cellsOf r:=by simp [cellsOf,tkCells]
   rw [e,show (i+1)*3=i*3+1+1+1 from by omega];simpa using ih
def AllFit (ts:List Tk):Prop:=∀ i (h:i<ts.length),ts[i].fits
theorem AllFit.nil:AllFit []:=fun i h=>by simp at h
theorem AllFit.snoc {ts:List Tk} {t:Tk} (h:AllFit ts) (ht:t.fits):AllFit (ts++[t]):=by
 intro i hi
 by_cases hl:i<ts.length
 . rw [vcf hl];exact h i hl
 . have:i=ts.length:=by simp at hi;omega
   subst this
   simp;exact ht
theorem zvu {w:World} {B:Nat} {v:Value} {ts:List Tk} (h:w.ownsRow B 184 3 v ts.length (cellsOf ts)) (hf:AllFit ts):∃ a cap,v = .slice a ts.length cap/\zc2 w a ts:=by
 obtain ⟨h1,h2⟩:=h
 rcases h2 with ⟨hv,h0⟩ | ⟨g,cap,AC,hv,hg,hc,hn,hm,Ce,Fk⟩
 . have:ts=[]:=vak h0
   subst this;exact ⟨none,0,hv,Or.inl rfl⟩
 . refine ⟨some (qa g 0),cap,hv,Or.inr ⟨g,0,rfl,lt_of_heap hc,?_,?_,?_,hf⟩⟩
   all_goals
    intro i hi;have hx:=zkn ts i hi;rw [vef hc];rw [← Fk] at hx;simp only [vdp,Array.getElem?_toList] at hx;rw [if_pos (by omega),if_pos (by omega),if_pos (by omega)] at hx;simp only [vba]
   . exact hx.1
   . exact hx.2.1
   . exact hx.2.2
theorem Tryz.infoTok:(Tryz.prog.info? 184).map (fun i=>(i.zero,i.size,i.bytes))=some (some (.agg #[qi 0,qi 0,.string ⟨#[]⟩]),3,32):=by kernel_rfl
theorem zf1 (s:ByteArray) (a n:Nat) (h:a+n<=s.size):(s.extract a (a+n)).size=n:=by
 rw [ByteArray.size_extract];omega
theorem ownsRow_later {W W':World} {B:Nat} {e:TypeId} {size:Nat} {v:Value} {n:Nat} {xs:List Value} (h:W.ownsRow B e size v n xs) (hb:qb W W'):W'.ownsRow B e size v n xs:=by
 obtain ⟨h1,h2⟩:=h;refine ⟨h1,?_⟩
 rcases h2 with h2 | ⟨g,cap,AC,hv,hg,hc,hrest⟩
 . exact Or.inl h2
 . exact Or.inr ⟨g,cap,AC,hv,hg,(hb.block g (lt_of_heap hc)).trans hc,hrest⟩
theorem zxx (w:World) (x y z:Value) (t:TypeId):∀ j u,[x,y,z][j]? = some u->(w.alloc (.cells #[x,y,z] t)).cell? (((qa w.heap.size 0):Addr).add j)=some u:=by
 intro j u hj;have hh:(w.alloc (.cells #[x,y,z] t)).heap[w.heap.size]? = some (.cells #[x,y,z] t):=_root_.Go.heap_alloc_new w _
 have:((qa w.heap.size 0):Addr).add j=(qa w.heap.size j):=by simp [Addr.add];exact fun h=>h.symm
 rw [this,vef hh,← hj];simp
theorem zxy (t:Tk):∀ u ∈ tkCells t,u.oneCell'=true:=by
 intro u hu;simp only [tkCells,vca,List.not_mem_nil,or_false] at hu
 rcases hu with h | h | h
 all_goals subst h;rfl
end Go.Proofs.YtndkhgakfodldaaGreatDoor
