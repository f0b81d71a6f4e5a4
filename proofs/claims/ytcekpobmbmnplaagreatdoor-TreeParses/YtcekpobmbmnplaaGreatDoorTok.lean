/-
  The functions that make one token, tell its text or look whether it is right answer what the plain mathematics says; of what was there nothing changes.
-/
import Derived.Test.YtcekpobmbmnplaaGreatDoorShelf
import Derived.Deep.LoopGhost
namespace Go.Proofs.YtcekpobmbmnplaaGreatDoor
set_option maxRecDepth 100000
set_option maxHeartbeats 400000
open Go.RowKit
theorem z2l {a b:Int} {x y:Bool} (h1:a=b) (h2:x=y):Ending.returned (.tuple #[.int .i64 a,.bool x]) = .returned (.tuple #[.int .i64 b,.bool y]):=by rw [h1,h2]
theorem zip (a b:List UInt8):(a == b)=decide (a=b):=by
 rw [Bool.eq_iff_iff];simp
theorem zjd (s:ByteArray) (w:World) (h0:0<s.size) (hs:s.size<=maxLen) :
 Calls Tryz.prog 50 #[.string s] w fun e w'=>∃ k:Int,e = .returned (.tuple #[.int .i64 k,.bool (Lx.numOk s.data.toList)])/\(Lx.numOk s.data.toList=true->k=Lx.valL s.data.toList)/\Below w.heap.size w w':=by
 unfold maxLen at hs
 by_cases h15:15<s.size
 . have HN:Hid (Lx.numOk s.data.toList=false):=Lx.numOk_long _ (by rw [Lx.len_toList];exact h15)
   go_enter Tryz.func50,Tryz.ntmps50;go_wp2_with fail;go_ret2;exact ⟨0,by rw [HN.out];rfl,(fun h=>by rw [HN.out] at h;cases h),Below.refl _ _⟩
 . go_enter Tryz.func50,Tryz.ntmps50
   go_wp2_with fail
   go_loop [5,4] (fun i n=>∃ k:Nat,k<=s.size/\i = .int .i64 k/\n = .int .i64 (Lx.valL (s.data.toList.take k))/\(s.data.toList.take k).all Lx.digB=true/\Lx.valL (s.data.toList.take k)<1000000000000000) (fun i _=>s.size - (intOf i).toNat)
   case atStart=>exact ⟨0,Nat.zero_le _,rfl,rfl,rfl,by simp [Lx.valL]⟩
   case round=>
    obtain ⟨k,hk,rfl,rfl,hall,hv⟩:=hrel;have HA:Hid ((s.data.toList.take k).all Lx.digB=true):=hall;clear hall
    by_cases hlt:k<s.size
    . by_cases hd:Lx.digB s[k]=true
      . have HS:Hid ((s.data.toList.take (k+1)).all Lx.digB=((s.data.toList.take k).all Lx.digB&&Lx.digB s[k])):=Lx.all_take_snoc s k hlt Lx.digB
        have HV:Hid (Lx.valL (s.data.toList.take (k+1))=10*Lx.valL (s.data.toList.take k)+Lx.dv s[k]):=Lx.val_take_snoc s k hlt
        have HB:Hid (Lx.valL (s.data.toList.take (k+1))<1000000000000000):=by
         have hb:=Lx.valL_bound (s.data.toList.take (k+1)) (by rw [HS.out,HA.out,hd];rfl)
         have hl:(s.data.toList.take (k+1)).length<=15:=by rw [List.length_take];omega
         have hp:10 ^ (s.data.toList.take (k+1)).length<=10 ^ 15:=Nat.pow_le_pow_right (by omega) hl;have e15:(10:Nat) ^ 15=1000000000000000:=rfl;show _<_;omega
        obtain ⟨hr0,hr1⟩:=Lx.dig_range _ hd;generalize hV:Lx.valL (s.data.toList.take k)=V at *;have HVV:Hid (Lx.valL (s.data.toList.take k)=V):=hV;clear hV
        go_wp2_with (go_at_call 90;refine (zfl _ _).mono ?_;rintro e w' ⟨rfl,rfl⟩)
        go_round
        case rel=>exact ⟨k+1,by omega,by go_num,by rw [HV.out];unfold Lx.dv;go_num,by rw [HS.out,HA.out];simp [hd],HB.out⟩
        case measure=>simp [intOf];omega
      . have hd':Lx.digB s[k]=false:=by simpa using hd
        clear hd;have HN:Hid (Lx.numOk s.data.toList=false):=Lx.numOk_nondigit _ (Lx.not_all s k hlt _ hd')
        go_wp2_with (go_at_call 90;refine (zfl _ _).mono ?_;rintro e w' ⟨rfl,rfl⟩)
        go_ret2;exact ⟨0,by rw [HN.out];rfl,(fun h=>by rw [HN.out] at h;cases h),Below.refl _ _⟩
    . obtain rfl:k=s.size:=by omega
      have hT:s.data.toList.take s.size=s.data.toList:=List.take_of_length_le (by rw [Lx.len_toList];exact Nat.le_refl _);rw [hT] at HA hv ⊢;clear hT
      have HN:Hid (Lx.numOk s.data.toList=(decide (Lx.valL s.data.toList<=1099511627775)&&decide (Lib.decDigits (Lx.valL s.data.toList)=s.data.toList))):=
       Lx.numOk_digits _ (fun e=>by have:=Lx.len_toList s;rw [e] at this;simp at this;omega) HA.out
      generalize hV:Lx.valL s.data.toList=V at *;have HVV:Hid (Lx.valL s.data.toList=V):=hV;clear hV
      by_cases hm:V<=1099511627775
      . go_wp2_with fail
        refine (zfo V _ (by omega)).mono ?_;rintro e w' ⟨rfl,hb⟩;go_wp2_with fail;go_ret2;refine ⟨V,z2l rfl ?_,fun _=>by rw [HVV.out],hb⟩;rw [HN.out,Lib.toList_data,Lib.toList_data,zdh,decide_eq_true hm,Bool.true_and];exact zip _ _
      . go_wp2_with fail
        go_ret2;exact ⟨V,by rw [HN.out];simp;omega,fun _=>by rw [HVV.out],Below.refl _ _⟩
structure Tk where
 kind:Int
 n:Int
 text:ByteArray
def Tk.val (t:Tk):Value:=.agg #[.int .i64 t.kind,.int .i64 t.n,.string t.text]
def zcg (s:ByteArray):Option Tk:=
 if Lx.signL s.data.toList then some ⟨3,0,s⟩ else if Lx.nameB s.data.toList then some ⟨1,0,s⟩ else if Lx.numOk s.data.toList then some ⟨2,Lx.valL s.data.toList,⟨#[]⟩⟩ else none
theorem zo2 (s:ByteArray) (w:World) (hs:s.size<=281474976710656) :
 Calls Tryz.prog 66 #[.string s] w fun e w'=>e = .returned (.string s)/\Below w.heap.size w w':=by
 go_enter Tryz.func66,Tryz.ntmps66
 go_wp2_with (go_at_call 107;refine (Tryz.stringslite_Clone s _ hs).mono ?_;rintro e w' ⟨rfl,hb⟩)
 go_ret;exact ⟨rfl,hb⟩
theorem zo3 (s:ByteArray) (w:World) (hs:s.size<=maxLen) :
 Calls Tryz.prog 65 #[.string s] w fun e w'=>((∃ t,zcg s=some t/\e = .returned t.val)\/(zcg s=none/\e = .panicked zau))/\Below w.heap.size w w':=by
 by_cases h1:Lx.signL s.data.toList=true
 . have HT:Hid (zcg s=some ⟨3,0,s⟩):=by show zcg s=_;unfold zcg;rw [if_pos h1]
   go_enter Tryz.func65,Tryz.ntmps65
   go_wp2_with (go_at_call 104;refine (zfn s _).mono ?_;rintro e w' ⟨rfl,rfl⟩)
   exact bodyPost_ret (v:=Tk.val ⟨3,0,s⟩) (by simp [results,Tryz.results65,go_sem,Tk.val]) rfl ⟨Or.inl ⟨_,HT.out,rfl⟩,(Below.refl _ _).alloc (Nat.le_refl _) _⟩
 . have h1':Lx.signL s.data.toList=false:=by simpa using h1
   clear h1
   by_cases h2:Lx.nameB s.data.toList=true
   . have HT:Hid (zcg s=some ⟨1,0,s⟩):=by show zcg s=_;unfold zcg;rw [if_neg (by simp [h1']),if_pos h2]
     go_enter Tryz.func65,Tryz.ntmps65
     go_wp2_with (first | (go_at_call 104;refine (zfn s _).mono ?_;rintro e w' ⟨rfl,rfl⟩) | (go_at_call 105;refine (zg0 s _ hs).mono ?_;rintro e w' ⟨rfl,rfl⟩))
     exact bodyPost_ret (v:=Tk.val ⟨1,0,s⟩) (by simp [results,Tryz.results65,go_sem,Tk.val]) rfl ⟨Or.inl ⟨_,HT.out,rfl⟩,(Below.refl _ _).alloc (Nat.le_refl _) _⟩
   . have h2':Lx.nameB s.data.toList=false:=by simpa using h2
     clear h2
     by_cases h3:Lx.numOk s.data.toList=true
     . have HT:Hid (zcg s=some ⟨2,Lx.valL s.data.toList,⟨#[]⟩⟩):=by show zcg s=_;unfold zcg;rw [if_neg (by simp [h1']),if_neg (by simp [h2']),if_pos h3]
       have hN:=zlx h3
       have HC:Hid (∀ w:World,Calls Tryz.prog 106 #[.string s] w fun e w'=>e = .returned (.int .i64 (Lx.valL s.data.toList))/\w'=w):=fun w=>by rw [← hN];exact zly s w hs
       clear hN h3;go_enter Tryz.func65,Tryz.ntmps65
       go_wp2_with (first | (go_at_call 104;refine (zfn s _).mono ?_;rintro e w' ⟨rfl,rfl⟩) | (go_at_call 105;refine (zg0 s _ hs).mono ?_;rintro e w' ⟨rfl,rfl⟩) | (go_at_call 106;refine (HC.out _).mono ?_;rintro e w' ⟨rfl,rfl⟩))
       exact bodyPost_ret (v:=Tk.val ⟨2,Lx.valL s.data.toList,⟨#[]⟩⟩) (by simp [results,Tryz.results65,go_sem,Tk.val]) rfl ⟨Or.inl ⟨_,HT.out,rfl⟩,(Below.refl _ _).alloc (Nat.le_refl _) _⟩
     . have h3':Lx.numOk s.data.toList=false:=by simpa using h3
       have HT:Hid (zcg s=none):=by show zcg s=_;unfold zcg;rw [if_neg (by simp [h1']),if_neg (by simp [h2']),if_neg h3]
       have hN:=zh4 h3'
       have HC:Hid (∀ w:World,Calls Tryz.prog 106 #[.string s] w fun e w'=>e = .panicked zau/\w'=w):=fun w=>by rw [← hN];exact zly s w hs
       clear hN h3 h3';go_enter Tryz.func65,Tryz.ntmps65
       go_wp2_with (first | (go_at_call 104;refine (zfn s _).mono ?_;rintro e w' ⟨rfl,rfl⟩) | (go_at_call 105;refine (zg0 s _ hs).mono ?_;rintro e w' ⟨rfl,rfl⟩) | (go_at_call 106;refine (HC.out _).mono ?_;rintro e w' ⟨rfl,rfl⟩))
       exact ⟨rfl,Or.inr ⟨HT.out,rfl⟩,(Below.refl _ _).alloc (Nat.le_refl _) _⟩
def Tab (w:World):Prop:=Lib.TabIs Tryz.prog w "internal/strconv.uint64pow10" .u64 Lib.pow10Tab/\0<w.heap.size
theorem ziq:Tryz.prog.globalNamed "internal/strconv.uint64pow10" = some 0:=by kernel_rfl
theorem Tab.below {B:Nat} {w w':World} (h:Tab w) (hB:0<B) (hb:Below B w w'):Tab w':=
 ⟨var?_below hb ziq hB h.1,Nat.lt_of_lt_of_le h.2 hb.size⟩
theorem Tab.later {w w':World} (h:Tab w) (hb:Below w.heap.size w w'):Tab w':=h.below h.2 hb
def Tk.txt (t:Tk):ByteArray:=if t.kind=2 then strOf (Lib.decDigits t.n.toNat) else t.text
def Tk.inB (t:Tk):Prop:=t.kind=2->0<=t.n/\t.n<=1099511627775
theorem zkz (t:Tk) (w:World) (ht:t.inB) :
 Calls Tryz.prog 97 #[t.val] w fun e w'=>e = .returned (.string t.txt)/\Below w.heap.size w w':=by
 obtain ⟨K,N,S⟩:=t;simp only [Tk.val]
 by_cases hk:K=2
 . obtain ⟨h0,h1⟩:0<=N/\N<=1099511627775:=ht hk
   have HT:Hid (Tk.txt ⟨K,N,S⟩=strOf (Lib.decDigits N.toNat)):=if_pos hk;have hkb:(K == 2)=true:=beq_iff_eq.2 hk;clear hk ht;obtain ⟨n,rfl⟩:=Int.eq_ofNat_of_zero_le h0;rw [Int.toNat_natCast] at HT;go_enter Tryz.func97,Tryz.ntmps97
   go_wp2_with (go_at_call 91;refine (zfo n _ (by omega)).mono ?_;rintro e w' ⟨rfl,hb⟩)
   go_ret;exact ⟨zbu HT.out.symm,((Below.refl _ _).alloc (Nat.le_refl _) _).trans (hb.mono (by simp))⟩
 . have HT:Hid (Tk.txt ⟨K,N,S⟩=S):=if_neg hk
   have hkb:(K == 2)=false:=beq_eq_false_iff_ne.2 hk;clear hk ht;go_enter Tryz.func97,Tryz.ntmps97;go_wp2_with fail;go_ret;exact ⟨zbu HT.out.symm,(Below.refl _ _).alloc (Nat.le_refl _) _⟩
theorem zir (t:Tk) (w:World) (ht:t.inB) (hT:Tab w) :
 Calls Tryz.prog 34 #[t.val] w fun e w'=>e = .returned (.string t.txt)/\Below w.heap.size w w':=by
 obtain ⟨K,N,S⟩:=t;simp only [Tk.val]
 by_cases hk:K=2
 . obtain ⟨h0,h1⟩:0<=N/\N<=1099511627775:=ht hk
   have HT:Hid (Tk.txt ⟨K,N,S⟩=strOf (Lib.decDigits N.toNat)):=if_pos hk;have hkb:(K == 2)=true:=beq_iff_eq.2 hk;clear hk ht;obtain ⟨n,rfl⟩:=Int.eq_ofNat_of_zero_le h0;rw [Int.toNat_natCast] at HT
   have hC:∀ w:World,Tab w->Calls Tryz.prog 69 #[.int .i64 n] w fun e w'=>e = .returned (.string (strOf (Lib.decDigits n)))/\Below w.heap.size w w':=fun w hT=>by
    refine (Tryz.strconv_Itoa n (by omega) (by omega) w hT.1).mono ?_;rintro e w' ⟨rfl,k,os,rfl⟩;rw [Lib.itoa_nonneg];exact ⟨rfl,⟨rfl,rfl,rfl,by simp [Sort.grow,World.drewN],fun j hj=>by simp [Sort.grow,World.drewN,Array.getElem?_append_left hj]⟩⟩
   have HC:Hid (∀ w:World,Tab w->Calls Tryz.prog 69 #[.int .i64 n] w fun e w'=>e = .returned (.string (strOf (Lib.decDigits n)))/\Below w.heap.size w w'):=hC;clear hC;go_enter Tryz.func34,Tryz.ntmps34;go_wp2_with fail;refine (HC.out _ ?_).mono ?_
   . exact hT.later ((Below.refl _ _).alloc (Nat.le_refl _) _)
   rintro e w' ⟨rfl,hb⟩;go_wp2_with fail;go_ret;exact ⟨zbu HT.out.symm,((Below.refl _ _).alloc (Nat.le_refl _) _).trans (hb.mono (by simp))⟩
 . have HT:Hid (Tk.txt ⟨K,N,S⟩=S):=if_neg hk
   have hkb:(K == 2)=false:=beq_eq_false_iff_ne.2 hk;clear hk ht;go_enter Tryz.func34,Tryz.ntmps34;go_wp2_with fail;go_ret;exact ⟨zbu HT.out.symm,(Below.refl _ _).alloc (Nat.le_refl _) _⟩
end Go.Proofs.YtcekpobmbmnplaaGreatDoor

namespace Go.Proofs.YtcekpobmbmnplaaGreatDoor
set_option maxRecDepth 100000
set_option maxHeartbeats 800000
open Go.RowKit
def Tk.okB (t:Tk):Bool:=
 if t.kind=1 then decide (t.n=0)&&Lx.nameB t.text.data.toList
 else if t.kind=2 then t.text.toList.isEmpty&&(decide (0<=t.n)&&decide (t.n<=1099511627775))
 else decide (t.n=0)&&Lx.signL t.text.data.toList
theorem zk0 (t:Tk) (w:World) (hs:t.text.size<=maxLen) :
 Calls Tryz.prog 67 #[t.val] w fun e w'=>e = .returned (.bool t.okB)/\Below w.heap.size w w':=by
 obtain ⟨K,N,S⟩:=t;simp only [Tk.val] at *
 by_cases k1:K=1
 . have HT:Hid (Tk.okB ⟨K,N,S⟩=(decide (N=0)&&Lx.nameB S.data.toList)):=if_pos k1
   have hkb:(K == 1)=true:=beq_iff_eq.2 k1;clear k1
   by_cases n0:N=0
   . have hnb:(N == 0)=true:=beq_iff_eq.2 n0
     have HR:Hid (Tk.okB ⟨K,N,S⟩=Lx.nameB S.data.toList):=by show Tk.okB _=_;rw [HT.out,decide_eq_true n0,Bool.true_and]
     clear n0;go_enter Tryz.func67,Tryz.ntmps67
     go_wp2_with (go_at_call 105;refine (zg0 S _ hs).mono ?_;rintro e w' ⟨rfl,rfl⟩)
     go_ret;exact ⟨zaa HR.out.symm,(Below.refl _ _).alloc (Nat.le_refl _) _⟩
   . have hnb:(N == 0)=false:=beq_eq_false_iff_ne.2 n0
     have HR:Hid (Tk.okB ⟨K,N,S⟩=false):=by show Tk.okB _=_;rw [HT.out,decide_eq_false n0,Bool.false_and]
     clear n0;go_enter Tryz.func67,Tryz.ntmps67;go_wp2_with fail;go_ret;exact ⟨zaa HR.out.symm,(Below.refl _ _).alloc (Nat.le_refl _) _⟩
 . by_cases k2:K=2
   . have HT:Hid (Tk.okB ⟨K,N,S⟩=(S.toList.isEmpty&&(decide (0<=N)&&decide (N<=1099511627775)))):=by show Tk.okB _=_;unfold Tk.okB;rw [if_neg k1,if_pos k2]
     have hkb:(K == 1)=false:=beq_eq_false_iff_ne.2 k1;have hkc:(K == 2)=true:=beq_iff_eq.2 k2;clear k1 k2
     by_cases he:S.toList.isEmpty=true
     . by_cases h0:0<=N
       . go_enter Tryz.func67,Tryz.ntmps67
         go_wp2_with fail;go_ret;exact ⟨zaa (by rw [HT.out];simp [he,h0]),(Below.refl _ _).alloc (Nat.le_refl _) _⟩
       . go_enter Tryz.func67,Tryz.ntmps67
         go_wp2_with fail;go_ret;exact ⟨zaa (by rw [HT.out,decide_eq_false (show ¬ 0<=N from by omega)];simp),(Below.refl _ _).alloc (Nat.le_refl _) _⟩
     . have he':S.toList.isEmpty=false:=by simpa using he
       clear he;go_enter Tryz.func67,Tryz.ntmps67;go_wp2_with fail;go_ret;exact ⟨zaa (by rw [HT.out];simp [he']),(Below.refl _ _).alloc (Nat.le_refl _) _⟩
   . have HT:Hid (Tk.okB ⟨K,N,S⟩=(decide (N=0)&&Lx.signL S.data.toList)):=by show Tk.okB _=_;unfold Tk.okB;rw [if_neg k1,if_neg k2]
     have hkb:(K == 1)=false:=beq_eq_false_iff_ne.2 k1;have hkc:(K == 2)=false:=beq_eq_false_iff_ne.2 k2;clear k1 k2
     by_cases n0:N=0
     . have hnb:(N == 0)=true:=beq_iff_eq.2 n0
       have HR:Hid (Tk.okB ⟨K,N,S⟩=Lx.signL S.data.toList):=by show Tk.okB _=_;rw [HT.out,decide_eq_true n0,Bool.true_and]
       clear n0;go_enter Tryz.func67,Tryz.ntmps67
       go_wp2_with (go_at_call 104;refine (zfn S _).mono ?_;rintro e w' ⟨rfl,rfl⟩)
       go_ret;exact ⟨zaa HR.out.symm,(Below.refl _ _).alloc (Nat.le_refl _) _⟩
     . have hnb:(N == 0)=false:=beq_eq_false_iff_ne.2 n0
       have HR:Hid (Tk.okB ⟨K,N,S⟩=false):=by show Tk.okB _=_;rw [HT.out,decide_eq_false n0,Bool.false_and]
       clear n0;go_enter Tryz.func67,Tryz.ntmps67;go_wp2_with fail;go_ret;exact ⟨zaa HR.out.symm,(Below.refl _ _).alloc (Nat.le_refl _) _⟩
end Go.Proofs.YtcekpobmbmnplaaGreatDoor

namespace Go.Proofs.YtcekpobmbmnplaaGreatDoor
set_option maxRecDepth 100000
set_option maxHeartbeats 800000
open Go.RowKit
def Tk.fits (t:Tk):Prop:=t.text.size<=maxLen
structure TokCells (w:World) (b off:Nat) (ts:List Tk):Prop where
 lt:b<w.heap.size
 kind:∀ i (h:i<ts.length),w.cell? ⟨b,off+i*3,none⟩=some (.int .i64 ts[i].kind)
 num:∀ i (h:i<ts.length),w.cell? ⟨b,off+i*3+1,none⟩=some (.int .i64 ts[i].n)
 text:∀ i (h:i<ts.length),w.cell? ⟨b,off+i*3+2,none⟩=some (.string ts[i].text)
 fits:∀ i (h:i<ts.length),ts[i].fits
theorem TokCells.below {B:Nat} {w w':World} {b off:Nat} {ts:List Tk} (h:TokCells w b off ts) (hb:Below B w w') (hB:b<B):TokCells w' b off ts:=
 ⟨Nat.lt_of_lt_of_le h.lt hb.size,fun i hi=>(hb.cell (p:=⟨b,off+i*3,none⟩) hB).trans (h.kind i hi),fun i hi=>(hb.cell (p:=⟨b,off+i*3+1,none⟩) hB).trans (h.num i hi),fun i hi=>(hb.cell (p:=⟨b,off+i*3+2,none⟩) hB).trans (h.text i hi),h.fits⟩
def zd7 (t:Tk):Bool:=decide (1<=t.kind)&&decide (t.kind<=3)
def checkN (ts:List Tk):Int:=if ts.all zd7 then (if ts.all Tk.okB then (if 4096<ts.length then 2 else 0) else 1) else 4
def zb9 (w:World) (a:Option Addr) (ts:List Tk):Prop:=ts=[]\/∃ b off,a=some ⟨b,off,none⟩/\TokCells w b off ts
theorem zb9.later {w w':World} {a:Option Addr} {ts:List Tk} (h:zb9 w a ts) (hb:Below w.heap.size w w'):zb9 w' a ts:=by
 rcases h with h | ⟨b,off,e,h⟩
 . exact Or.inl h
 . exact Or.inr ⟨b,off,e,h.below hb h.lt⟩
theorem zb9.place {w:World} {a:Option Addr} {ts:List Tk} (h:zb9 w a ts) {k:Nat} (hk:k<ts.length):∃ b off,a=some ⟨b,off,none⟩/\TokCells w b off ts:=by
 rcases h with h | h
 . subst h;simp at hk
 . exact h
theorem zdi {α:Type} (ts:List α) (p:α->Bool) (k:Nat) (h:k<ts.length):(ts.take (k+1)).all p=((ts.take k).all p&&p ts[k]):=by
 rw [List.take_succ_eq_append_getElem h,List.all_append];simp
theorem zea {α:Type} (ts:List α) (p:α->Bool) (k:Nat) (h:k<ts.length) (hp:p ts[k]=false):ts.all p=false:=by
 rw [List.all_eq_false];exact ⟨ts[k],List.getElem_mem _,by simp [hp]⟩
theorem zpr {ts:List Tk} (h:ts.all zd7=false):checkN ts=4:=by unfold checkN;rw [h];rfl
theorem zps {ts:List Tk} (h:ts.all zd7=true) (h1:ts.all Tk.okB=false):checkN ts=1:=by unfold checkN;rw [h,h1];rfl
theorem zkb {ts:List Tk} (h:ts.all zd7=true) (h1:ts.all Tk.okB=true) (h2:4096<ts.length):checkN ts=2:=by unfold checkN;rw [h,h1,if_pos rfl,if_pos rfl,if_pos h2]
theorem zkc {ts:List Tk} (h:ts.all zd7=true) (h1:ts.all Tk.okB=true) (h2:¬ 4096<ts.length):checkN ts=0:=by unfold checkN;rw [h,h1,if_pos rfl,if_pos rfl,if_neg h2]
theorem zkd (a:Option Addr) (cap:Nat) (ts:List Tk) (w:World) (hT:zb9 w a ts) (hl:ts.length<=1000000000000000) :
 Calls Tryz.prog 31 #[.slice a ts.length cap] w fun e w'=>e = .returned (.int .i64 (checkN ts))/\Below w.heap.size w w':=by
 have HT:Hid (zb9 w a ts):=hT;clear hT;go_enter Tryz.func31,Tryz.ntmps31;go_wp2_with fail
 go_loopw [9,4] (fun i _ wr=>∃ k:Nat,k<=ts.length/\i = .int .i64 k/\(ts.take k).all zd7=true/\Below w.heap.size w wr) (fun i _ _=>ts.length - (intOf i).toNat)
 case atStart=>exact ⟨0,Nat.zero_le _,rfl,rfl,Below.refl _ _⟩
 case round=>
  obtain ⟨k,hk,rfl,hall,hb⟩:=hrel;have HA:Hid ((ts.take k).all zd7=true):=hall;clear hall
  by_cases hlt:k<ts.length
  . obtain ⟨b,off,rfl,hT⟩:=(HT.out.later hb).place hlt
    have hc0:=hT.kind k hlt;have hc1:=hT.num k hlt;have hc2:=hT.text k hlt;have hlb:=hT.lt;clear hT;have HS:Hid ((ts.take (k+1)).all zd7=((ts.take k).all zd7&&zd7 ts[k])):=zdi ts zd7 k hlt
    by_cases hkb:1<=ts[k].kind/\ts[k].kind<=3
    . obtain ⟨hkb1,hkb3⟩:=hkb
      have HK:Hid (zd7 ts[k]=true):=by show zd7 ts[k]=true;simp [zd7,hkb1,hkb3]
      go_wp2_with fail;go_roundw
      case rel=>exact ⟨k+1,by omega,by go_num,by rw [HS.out,HA.out,HK.out];rfl,hb.alloc hb.size _⟩
      case measure=>simp [intOf];omega
    . have HF:Hid (checkN ts=4):=zpr (zea ts zd7 k hlt (by simp [zd7];omega))
      by_cases hk1:ts[k].kind<1
      . clear hkb
        go_wp2_with fail;go_ret;exact ⟨zcp HF.out.symm,hb.alloc hb.size _⟩
      . have hk3:3<ts[k].kind:=by omega
        clear hkb;go_wp2_with fail;go_ret;exact ⟨zcp HF.out.symm,hb.alloc hb.size _⟩
  . have HK:Hid (ts.all zd7=true):=by
     have:=HA.out;rw [List.take_of_length_le (by omega)] at this;exact this
    clear HA;go_wp2_with fail
    go_loopw [24,6] (fun i _ wr=>∃ k:Nat,k<=ts.length/\i = .int .i64 k/\(ts.take k).all Tk.okB=true/\Below w.heap.size w wr) (fun i _ _=>ts.length - (intOf i).toNat)
    case atStart=>exact ⟨0,Nat.zero_le _,rfl,rfl,hb⟩
    case round=>
     obtain ⟨k',hk',rfl,hall,hb1⟩:=hrel;have HA:Hid ((ts.take k').all Tk.okB=true):=hall;clear hall
     by_cases hlt':k'<ts.length
     . obtain ⟨b,off,rfl,hT⟩:=(HT.out.later hb1).place hlt'
       have hc0:=hT.kind k' hlt';have hc1:=hT.num k' hlt';have hc2:=hT.text k' hlt';have hfit:=hT.fits k' hlt';have hlb:=hT.lt;clear hT;have HS:Hid ((ts.take (k'+1)).all Tk.okB=((ts.take k').all Tk.okB&&Tk.okB ts[k'])):=zdi ts Tk.okB k' hlt'
       by_cases hkb:Tk.okB ts[k']=true
       . go_wp2_with (go_at_call 67;refine (zk0 ts[k'] _ hfit).mono ?_;rintro e w' ⟨rfl,hb2⟩)
         go_roundw
         case rel=>exact ⟨k'+1,by omega,by go_num,by rw [HS.out,HA.out];simp [hkb],(hb1.alloc hb1.size _).trans (hb2.mono (by have:=hb1.size;simp;omega))⟩
         case measure=>simp [intOf];omega
       . have hkb':Tk.okB ts[k']=false:=by simpa using hkb
         have HF:Hid (checkN ts=1):=zps HK.out (zea ts Tk.okB k' hlt' hkb');clear hkb
         go_wp2_with (go_at_call 67;refine (zk0 ts[k'] _ hfit).mono ?_;rintro e w' ⟨rfl,hb2⟩)
         go_ret;exact ⟨zcp HF.out.symm,(hb1.alloc hb1.size _).trans (hb2.mono (by have:=hb1.size;simp;omega))⟩
     . have HO:Hid (ts.all Tk.okB=true):=by
        have:=HA.out;rw [List.take_of_length_le (by omega)] at this;exact this
       clear HA
       by_cases hm:4096<ts.length
       . have HF:Hid (checkN ts=2):=zkb HK.out HO.out hm
         go_wp2_with fail;go_ret;exact ⟨zcp HF.out.symm,hb1⟩
       . have HF:Hid (checkN ts=0):=zkc HK.out HO.out hm
         go_wp2_with fail;go_ret;exact ⟨zcp HF.out.symm,hb1⟩
end Go.Proofs.YtcekpobmbmnplaaGreatDoor
