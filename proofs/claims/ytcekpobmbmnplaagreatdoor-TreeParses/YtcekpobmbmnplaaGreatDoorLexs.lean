/-
  The document's reading of a text: its tokens lie in a list with room for them.
-/
import Derived.Test.YtcekpobmbmnplaaGreatDoorPb
import Derived.Test.YtcekpobmbmnplaaGreatDoorEs
import Derived.Test.YtcekpobmbmnplaaGreatDoorQh
namespace Go.Proofs.YtcekpobmbmnplaaGreatDoor
set_option maxRecDepth 100000
set_option maxHeartbeats 1000000
open Go.RowKit
theorem zut {w:World} {B:Nat} {v:Value} {ts:List Tk} (h:w.ownsRow B 68 3 v ts.length (cellsOf ts)) (hf:zcx ts):∃ a cap,v = .slice a ts.length cap/\zb9 w a ts/\ts.length<=cap:=by
 obtain ⟨a,cap,hv,hT⟩:=zg2 h hf;refine ⟨a,cap,hv,hT,?_⟩
 rcases h.2 with ⟨h1,h0⟩ | ⟨g,c,cur,h1,_,_,hn,_⟩
 . omega
 . rw [hv] at h1
   injection h1 with _ _ h3
   omega
theorem zuu (s:ByteArray) (w:World) (hs:s.size<=maxLen) :
 Calls Tryz.prog 25 #[.string s] w fun e w'=>∃ a cap,e = .returned (.tuple #[.slice a (lexT s).length cap,.int .i64 (lexE s)])/\zb9 w' a (lexT s)/\Below w.heap.size w w'/\(lexT s).length<=cap:=by
 unfold maxLen at hs
 by_cases hlong:4096<s.size
 . have HE:Hid (lexT s=[]/\lexE s=2):=zm0 hlong
   go_enter Tryz.func25,Tryz.ntmps25;go_wp2_with fail;go_ret2;exact ⟨none,0,by rw [HE.out.1,HE.out.2];rfl,by rw [HE.out.1];exact Or.inl rfl,Below.refl _ _,by rw [HE.out.1];exact Nat.le_refl _⟩
 . obtain ⟨i0, hi,hz0,hz1,hz2⟩:=info_parts Tryz.infoTok
   go_enter Tryz.func25,Tryz.ntmps25;go_wp2_with fail
   go_loopw [5,4] (fun i v wr=>∃ (k:Nat) (ts:List Tk),k<=s.size/\i = .int .i64 k/\zbi s k ts/\zcx ts/\ts.length<=k/\wr.ownsRow w.heap.size 68 3 v ts.length (cellsOf ts)/\Below w.heap.size w wr) (fun i _ _=>s.size - (intOf i).toNat)
   case atStart=>exact ⟨0,[],Nat.zero_le _,rfl,zbi.start s,zcx.nil,Nat.le_refl _,World.ownsRow_nil _ _ _ _,Below.refl _ _⟩
   case round =>
    obtain ⟨k,ts,hk,rfl,hinv,hfit,hlen,hown,hb⟩:=hrel;have HI:Hid (zbi s k ts):=hinv;have HF:Hid (zcx ts):=hfit;have HO:Hid (wr.ownsRow w.heap.size 68 3 u4 ts.length (cellsOf ts)):=hown;clear hinv hfit hown
    by_cases hlt:k<s.size
    . have hrle:=Lx.runN_le s k
      have hrun:∀ w:World,Calls Tryz.prog 48 #[.string s,.int .i64 k] w fun e w'=>e = .returned (.int .i64 (Lx.runN s k))/\w'=w:=fun w=>zun s k w (by unfold maxLen;omega) (by omega)
      have HR:Hid (∀ w:World,Calls Tryz.prog 48 #[.string s,.int .i64 k] w fun e w'=>e = .returned (.int .i64 (Lx.runN s k))/\w'=w):=hrun;clear hrun
      by_cases hr:0<Lx.runN s k
      . have HP:Hid (Lx.pieceN s k=Lx.runN s k/\zcf s[k]=false):=⟨(zhl s k hlt hr).2,(zhl s k hlt hr).1⟩
        have HB:Hid (Lx.nameB (s.extract k (k+Lx.runN s k)).data.toList=true->zbi s (k+Lx.runN s k) (ts++[zjg (s.extract k (k+Lx.runN s k))])):=fun h=>by
         have:=HI.out.tok hlt HP.out.2 (zq3 s k hlt hr h);rwa [HP.out.1] at this
        have HC:Hid (Lx.nameB (s.extract k (k+Lx.runN s k)).data.toList=false->Lx.numOk (s.extract k (k+Lx.runN s k)).data.toList=true->zbi s (k+Lx.runN s k) (ts++[ztk (Lx.valL (s.extract k (k+Lx.runN s k)).data.toList)])):=fun h h'=>by
         have:=HI.out.tok hlt HP.out.2 (zur s k hlt hr h h');rwa [HP.out.1] at this
        have HD:Hid (Lx.nameB (s.extract k (k+Lx.runN s k)).data.toList=false->Lx.numOk (s.extract k (k+Lx.runN s k)).data.toList=false->zc6 s 0=none):=fun h h'=>
         HI.out.stop hlt HP.out.2 (zus s k hlt hr h h')
        clear HP;generalize Lx.runN s k=N at *;have hps:(s.extract k (k+N)).size=N:=zda s k N (by omega);have HPS:Hid ((s.extract k (k+N)).size=N):=hps;clear hps
        have hpl:(s.extract k (k+N)).size<=maxLen:=by rw [HPS.out];unfold maxLen;omega
        by_cases hn:Lx.nameB (s.extract k (k+N)).data.toList=true
        . have HM:Hid (∀ w:World,Calls Tryz.prog 49 #[.string (s.extract k (k+N))] w fun e w'=>e = .returned (.bool true)/\w'=w):=fun w=>by rw [← hn];exact zfm _ w hpl
          have HG:Hid (zbi s (k+N) (ts++[zjg (s.extract k (k+N))])/\zcx (ts++[zjg (s.extract k (k+N))])):=⟨HB.out hn,HF.out.snoc hpl⟩
          clear hn HB HC HD HPS hpl
          go_wp2_with (first | (go_at_call 48;refine (HR.out _).mono ?_;rintro e w2 ⟨rfl,h2⟩;obtain rfl:=h2.symm) | (go_at_call 49;refine (HM.out _).mono ?_;rintro e w2 ⟨rfl,h2⟩;obtain rfl:=h2.symm) | (at_builtin;refine wpList_append_own _ rfl (.tmp 31) (.tmp 39) 38 rfl w.heap.size 68 i0 _ 3 32 Tryz.underlying38 hi hz0 hz1 hz2 rfl (by decide) _ _ _ rfl (HO.out.alloc _) ⟨wr.heap.size,0,none⟩ 1 1 (tkCells (zjg (s.extract k (k+N)))) rfl rfl (zdb _ _ _ _ _) (zdc _) (by unfold maxLen;omega) (by omega) (by have:=hb.size;simp;omega) ?_))
          intro v1 w1 hown1 hgrow1 _;have HV:Hid (w1.ownsRow w.heap.size 68 3 v1 (ts++[zjg (s.extract k (k+N))]).length (cellsOf (ts++[zjg (s.extract k (k+N))]))/\Below w.heap.size w w1):=zev hb HO.out hown1 hgrow1;clear hown1 hgrow1;go_wp2_with fail;go_roundw
          case rel=>exact ⟨k+N,_,by omega,by go_num,HG.out.1,HG.out.2,by rw [List.length_append];simp only [List.length_cons,List.length_nil];omega,HV.out.1,HV.out.2⟩
          case measure=>simp [intOf];omega
        . have hn':Lx.nameB (s.extract k (k+N)).data.toList=false:=by simpa using hn
          clear hn
          have HM:Hid (∀ w:World,Calls Tryz.prog 49 #[.string (s.extract k (k+N))] w fun e w'=>e = .returned (.bool false)/\w'=w):=fun w=>by rw [← hn'];exact zfm _ w hpl
          have HQ:Hid (∀ w:World,Calls Tryz.prog 50 #[.string (s.extract k (k+N))] w fun e w'=>∃ k':Int,e = .returned (.tuple #[.int .i64 k',.bool (Lx.numOk (s.extract k (k+N)).data.toList)])/\(Lx.numOk (s.extract k (k+N)).data.toList=true->k'=Lx.valL (s.extract k (k+N)).data.toList)/\Below w.heap.size w w'):=fun w=>zjd _ w (by rw [HPS.out];exact hr) hpl
          by_cases hk2:Lx.numOk (s.extract k (k+N)).data.toList=true
          . generalize hV:Lx.valL (s.extract k (k+N)).data.toList=V at *
            have HG:Hid (zbi s (k+N) (ts++[ztk V])/\zcx (ts++[ztk V])):=⟨HC.out hn' hk2,HF.out.snoc (by show (⟨#[]⟩:ByteArray).size<=maxLen;exact Nat.zero_le _)⟩
            have HQ2:Hid (∀ w:World,Calls Tryz.prog 50 #[.string (s.extract k (k+N))] w fun e w'=>e = .returned (.tuple #[.int .i64 V,.bool true])/\Below w.heap.size w w'):=fun w=>by
             refine (HQ.out w).mono ?_;rintro e w' ⟨k',rfl,h1,h2⟩;rw [hk2,h1 hk2];exact ⟨rfl,h2⟩
            clear hV HQ hk2 hn' HB HC HD HPS hpl
            go_wp2_with (first | (go_at_call 48;refine (HR.out _).mono ?_;rintro e w2 ⟨rfl,h2⟩;obtain rfl:=h2.symm) | (go_at_call 49;refine (HM.out _).mono ?_;rintro e w2 ⟨rfl,h2⟩;obtain rfl:=h2.symm))
            refine (HQ2.out _).mono ?_;rintro e w2 ⟨rfl,hb2⟩;have HO2:Hid (w2.ownsRow w.heap.size 68 3 u4 ts.length (cellsOf ts)):=zd3 HO.out hb2;have hbb:=hb.trans (hb2.mono hb.size);have hz2':=hb2.size
            go_wp2_with (at_builtin;refine wpList_append_own _ rfl (.tmp 56) (.tmp 59) 38 rfl w.heap.size 68 i0 _ 3 32 Tryz.underlying38 hi hz0 hz1 hz2 rfl (by decide) _ _ _ rfl (HO2.out.alloc _) ⟨w2.heap.size,0,none⟩ 1 1 (tkCells (ztk V)) rfl rfl (zdb _ _ _ _ _) (zdc _) (by unfold maxLen;omega) (by omega) (by have:=hbb.size;simp;omega) ?_)
            intro v1 w1 hown1 hgrow1 _;have HV:Hid (w1.ownsRow w.heap.size 68 3 v1 (ts++[ztk V]).length (cellsOf (ts++[ztk V]))/\Below w.heap.size w w1):=zev hbb HO2.out hown1 hgrow1;clear hown1 hgrow1;go_wp2_with fail;go_roundw
            case rel=>exact ⟨k+N,_,by omega,by go_num,HG.out.1,HG.out.2,by rw [List.length_append];simp only [List.length_cons,List.length_nil];omega,HV.out.1,HV.out.2⟩
            case measure=>simp [intOf];omega
          . have hk2':Lx.numOk (s.extract k (k+N)).data.toList=false:=by simpa using hk2
            have HE:Hid (lexT s=[]/\lexE s=1):=zj8 hlong (HD.out hn' hk2')
            have HQ2:Hid (∀ w:World,Calls Tryz.prog 50 #[.string (s.extract k (k+N))] w fun e w'=>∃ k':Int,e = .returned (.tuple #[.int .i64 k',.bool false])/\Below w.heap.size w w'):=fun w=>by
             refine (HQ.out w).mono ?_;rintro e w' ⟨k',rfl,_,h2⟩;rw [hk2'];exact ⟨k',rfl,h2⟩
            clear HQ hk2 hk2' hn' HB HC HD HPS hpl
            go_wp2_with (first | (go_at_call 48;refine (HR.out _).mono ?_;rintro e w2 ⟨rfl,h2⟩;obtain rfl:=h2.symm) | (go_at_call 49;refine (HM.out _).mono ?_;rintro e w2 ⟨rfl,h2⟩;obtain rfl:=h2.symm))
            refine (HQ2.out _).mono ?_;rintro e w2 ⟨k',rfl,hb2⟩;go_wp2_with fail;go_ret2;exact ⟨none,0,by rw [HE.out.1,HE.out.2];rfl,by rw [HE.out.1];exact Or.inl rfl,hb.trans (hb2.mono hb.size),by rw [HE.out.1];exact Nat.le_refl _⟩
      . have hr0:Lx.runN s k=0:=by omega
        have HP:Hid (Lx.pieceN s k=1):=zg1 s k hr0
        have HR0:Hid (∀ w:World,Calls Tryz.prog 48 #[.string s,.int .i64 k] w fun e w'=>e = .returned (.int .i64 0)/\w'=w):=fun w=>by
         have:=HR.out w;rw [hr0] at this;exact this
        clear HR
        by_cases hsg:Lx.signB s[k]=true
        . have HG:Hid (zbi s (k+1) (ts++[zlb (s.extract k (k+1))])/\zcx (ts++[zlb (s.extract k (k+1))])):=by
           refine ⟨?_,HF.out.snoc ?_⟩
           . have:=HI.out.tok hlt (zfp hsg).2 (zq4 s k hlt hr0 hsg)
             rwa [HP.out] at this
           . show (s.extract k (k+1)).size<=maxLen
             rw [zda s k 1 (by omega)];unfold maxLen;omega
          clear hr0 hr hrle HP
          go_wp2_with (first | (go_at_call 48;refine (HR0.out _).mono ?_;rintro e w2 ⟨rfl,h2⟩;obtain rfl:=h2.symm) | (go_at_call 51;refine (zc9 _ _).mono ?_;rintro e w2 ⟨rfl,h2⟩;obtain rfl:=h2.symm) | (at_builtin;refine wpList_append_own _ rfl (.tmp 66) (.tmp 73) 38 rfl w.heap.size 68 i0 _ 3 32 Tryz.underlying38 hi hz0 hz1 hz2 rfl (by decide) _ _ _ rfl (HO.out.alloc _) ⟨wr.heap.size,0,none⟩ 1 1 (tkCells (zlb (s.extract k (k+1)))) rfl rfl (zdb _ _ _ _ _) (zdc _) (by unfold maxLen;omega) (by omega) (by have:=hb.size;simp;omega) ?_))
          intro v1 w1 hown1 hgrow1 _;have HV:Hid (w1.ownsRow w.heap.size 68 3 v1 (ts++[zlb (s.extract k (k+1))]).length (cellsOf (ts++[zlb (s.extract k (k+1))]))/\Below w.heap.size w w1):=zev hb HO.out hown1 hgrow1;clear hown1 hgrow1;go_wp2_with fail;go_roundw
          case rel=>exact ⟨k+1,_,by omega,by go_num,HG.out.1,HG.out.2,by rw [List.length_append];simp only [List.length_cons,List.length_nil];omega,HV.out.1,HV.out.2⟩
          case measure=>simp [intOf];omega
        . have hsg':Lx.signB s[k]=false:=by simpa using hsg
          clear hsg
          by_cases hbl:zcf s[k]=true
          . have HG:Hid (zbi s (k+1) ts):=by
             have:=HI.out.blank hlt hbl;rw [HP.out] at this;exact this
            by_cases h32:(((s[k].toNat:Nat):Int) == 32)=true
            . clear hr0 hr hrle HP hbl
              go_wp2_with (first | (go_at_call 48;refine (HR0.out _).mono ?_;rintro e w2 ⟨rfl,h2⟩;obtain rfl:=h2.symm) | (go_at_call 51;refine (zc9 _ _).mono ?_;rintro e w2 ⟨rfl,h2⟩;obtain rfl:=h2.symm))
              go_roundw
              case rel=>exact ⟨k+1,ts,by omega,by go_num,HG.out,HF.out,by omega,HO.out,hb⟩
              case measure=>simp [intOf];omega
            . have h32':(((s[k].toNat:Nat):Int) == 32)=false:=by simpa using h32
              have h10:(((s[k].toNat:Nat):Int) == 10)=true:=by
               unfold zcf at hbl;simp only [Bool.or_eq_true,beq_iff_eq] at hbl
               rcases hbl with h | h
               . rw [h] at h32';simp at h32'
               . rw [h];rfl
              clear hr0 hr hrle HP hbl h32
              go_wp2_with (first | (go_at_call 48;refine (HR0.out _).mono ?_;rintro e w2 ⟨rfl,h2⟩;obtain rfl:=h2.symm) | (go_at_call 51;refine (zc9 _ _).mono ?_;rintro e w2 ⟨rfl,h2⟩;obtain rfl:=h2.symm))
              go_roundw
              case rel=>exact ⟨k+1,ts,by omega,by go_num,HG.out,HF.out,by omega,HO.out,hb⟩
              case measure=>simp [intOf];omega
          . have hbl':zcf s[k]=false:=by simpa using hbl
            have HE:Hid (lexT s=[]/\lexE s=1):=zj8 hlong (HI.out.stop hlt hbl' (zq5 s k hlt hr0 hsg'))
            have h32:(((s[k].toNat:Nat):Int) == 32)=false:=by
             rw [beq_eq_false_iff_ne];intro h
             have:s[k]=32:=UInt8.toNat_inj.1 (by show s[k].toNat=32;omega)
             rw [this] at hbl';cases hbl'
            have h10:(((s[k].toNat:Nat):Int) == 10)=false:=by
             rw [beq_eq_false_iff_ne];intro h
             have:s[k]=10:=UInt8.toNat_inj.1 (by show s[k].toNat=10;omega)
             rw [this] at hbl';cases hbl'
            clear hr0 hr hrle HP hbl hbl'
            go_wp2_with (first | (go_at_call 48;refine (HR0.out _).mono ?_;rintro e w2 ⟨rfl,h2⟩;obtain rfl:=h2.symm) | (go_at_call 51;refine (zc9 _ _).mono ?_;rintro e w2 ⟨rfl,h2⟩;obtain rfl:=h2.symm))
            go_ret2;exact ⟨none,0,by rw [HE.out.1,HE.out.2];rfl,by rw [HE.out.1];exact Or.inl rfl,hb,by rw [HE.out.1];exact Nat.le_refl _⟩
    . have HE:Hid (lexT s=ts/\lexE s=0):=zgh hlong (HI.out.done hlt)
      go_wp2_with fail;go_ret2;obtain ⟨a,cap,hv,hT,hcap⟩:=zut HO.out HF.out;subst hv;exact ⟨a,cap,by rw [HE.out.1,HE.out.2];rfl,by rw [HE.out.1];exact hT,hb,by rw [HE.out.1];exact hcap⟩
end Go.Proofs.YtcekpobmbmnplaaGreatDoor

namespace Go.Proofs.YtcekpobmbmnplaaGreatDoor
set_option maxRecDepth 100000
set_option maxHeartbeats 1600000
open Go.RowKit
def zyi (s:ByteArray):Int:=if lexE s=0 then (if zeq (lexT s) then 0 else 1) else lexE s
def zy9 (s:ByteArray):Mo:=if lexE s=0 then fromM (lexT s) else mo0
theorem zt3 {s:ByteArray} {m:Mo} (h:zdq s=some m):lexE s=0/\zeq (lexT s)=true/\fromM (lexT s)=m:=by
 unfold zdq at h
 split at h
 . rename_i hl
   split at h
   . rename_i m' hm
     split at h
     . rename_i he
       cases h;obtain ⟨e,_⟩:=zg4 hm (zd6 s)
       have e2:eModule (lexT s)=m:=by rw [e];exact zn1 he
       have hB:zeq (lexT s)=true:=by
        unfold zeq
        rw [e2,← e,he];simp
       refine ⟨hl,hB,?_⟩;unfold fromM;rw [if_pos hB,e2]
     . cases h
   . cases h
 . cases h
theorem zt4 {s:ByteArray} (hl:lexE s=0) (h:zdq s=none):zeq (lexT s)=false:=by
 cases hB:zeq (lexT s) with
 | false=>rfl
 | true=>
   exfalso
   unfold zeq at hB;simp only [Bool.and_eq_true,decide_eq_true_eq] at hB;obtain ⟨he,ht⟩:=hB;have h1:=zmx _ (z28 (zqa he));have h2:=zmx _ (zd6 s).1;rw [ht,h2] at h1;have e:lexT s=tM (eModule (lexT s)):=Option.some.inj h1
   have h3:znb (lexT s)=some (eModule (lexT s)):=by
    conv=>lhs;rw [e]
    exact zr9 (zqa he)
   unfold zdq at h;rw [if_pos hl,h3] at h;simp only [if_pos he] at h;cases h
theorem zxb {s:ByteArray} {m:Mo} (h:zdq s=some m):zyi s=0/\zy9 s=m:=by
 obtain ⟨h1,h2,h3⟩:=zt3 h;unfold zyi zy9;rw [if_pos h1,if_pos h1,if_pos h2];exact ⟨rfl,h3⟩
theorem zt5 {s:ByteArray} (h:zdq s=none):zyi s=parsE s/\zy9 s=mo0:=by
 unfold zyi zy9 parsE
 by_cases hl:lexE s=0
 . have hB:=zt4 hl h
   rw [if_pos hl,if_pos hl,if_pos hl,hB,h];refine ⟨rfl,?_⟩;unfold fromM
   rw [hB];rfl
 . rw [if_neg hl,if_neg hl,if_neg hl]
   exact ⟨rfl,rfl⟩
theorem zpi (s:ByteArray) (w:World) (hs:s.size<=maxLen) :
 Calls Tryz.prog 10 #[.string s] w fun e w'=>∃ v,e = .returned (.tuple #[v,.int .i64 (zyi s)])/\zgk (w.heap.size<=·) (zy9 s) w' v/\Below w.heap.size w w':=by
 have HG:=hid (zd6 s);have HE:Hid (zyi s=if lexE s=0 then (if zeq (lexT s) then 0 else 1) else lexE s):=rfl;have HMo:Hid (zy9 s=if lexE s=0 then fromM (lexT s) else mo0):=rfl
 have HFm:Hid (zeq (lexT s)=false->fromM (lexT s)=mo0):=fun h=>by unfold fromM;rw [h];rfl
 go_enter Tryz.func10,Tryz.ntmps10;go_wp2_with fail;refine (zuu s _ hs).mono ?_;rintro e w1 ⟨a,cap,rfl,hT,hb1,hcap⟩;have HT:=hid hT;have hz1:=hb1.size;simp at hz1;have HB1:Hid (w1.heap[w.heap.size]? = some zcl):=(hb1.block w.heap.size (by simp)).trans (heap_newP _ _);have HBl:Hid (Below w.heap.size w w1):=zab (al1 _ _) hb1;clear hT hb1;obtain ⟨h0,h1,h2,h3,h4,h5⟩:=zaf HB1.out
 have hlt1:w.heap.size<w1.heap.size:=by omega
 by_cases he:lexE s=0
 . have HE2:=hid (HE.out.trans (if_pos he))
   have HM2:=hid (HMo.out.trans (if_pos he));rw [he];clear he HE HMo;generalize lexT s=ts at *;go_wp2_with fail;refine (zk8 ts a cap w1 HT.out HG.out.1 HG.out.2 hcap).mono ?_;rintro e w2 ⟨v,rfl,hM,hb2⟩;obtain ⟨a1,c1,a2,c2,a3,c3,a4,c4,rfl,hM'⟩:=hM
   have HM:Hid (zgk (w1.heap.size<=·) (fromM ts) w2 (.agg #[.string (fromM ts).name,.slice a1 (fromM ts).uses.length c1,.slice a2 (fromM ts).decls.length c2,.slice a3 (fromM ts).procs.length c3,.slice a4 (fromM ts).main.length c4])):=⟨a1,c1,a2,c2,a3,c3,a4,c4,rfl,hM'⟩
   have HBl2:=hid (zab HBl.out hb2);have hz2:=hb2.size;have HB2:Hid (w2.heap[w.heap.size]? = some zcl):=(hb2.block w.heap.size hlt1).trans HB1.out
   have hlt2:w.heap.size<w2.heap.size:=by omega
   clear h0 h1 h2 h3 h4 h5 hb2 hM' HB1 HBl;obtain ⟨h0,h1,h2,h3,h4,h5⟩:=zaf HB2.out
   cases hB:zeq ts with
   | false=>
     have HE3:=hid (HE2.out.trans (by rw [hB];rfl:(if zeq ts=true then (0:Int) else 1)=1));have HM3:=hid (HM2.out.trans (HFm.out hB));have hBx:=zc1 HBl2.out (Nat.le_refl _) (.string ⟨#[]⟩) (.slice none 0 0) (.slice none 0 0) (.slice none 0 0) (.slice none 0 0);have HBf:=hid (fun o=>hBx.alloc hBx.size o);clear hBx hB HE2 HM2 HM HFm;generalize fromM ts=mm at *;go_wp2_with fail;refine bodyPost_ret (v:=.tuple #[zhh,.int .i64 1]) (by simp [results,Tryz.results10,go_sem,h0,h1,h2,h3,h4,hlt2]) rfl ?_;exact ⟨_,by rw [HE3.out],by rw [HM3.out];exact ⟨none,0,none,0,none,0,none,0,rfl,Nat.zero_le _,Or.inl rfl,Or.inl rfl,Or.inl rfl,Or.inl rfl⟩,HBf.out _⟩
   | true=>
     have HE3:=hid (HE2.out.trans (by rw [hB];rfl:(if zeq ts=true then (0:Int) else 1)=0));clear hB HE2 HFm;generalize fromM ts=mm at *;have hBx:=zc1 HBl2.out (Nat.le_refl _) (.string mm.name) (.slice a1 mm.uses.length c1) (.slice a2 mm.decls.length c2) (.slice a3 mm.procs.length c3) (.slice a4 mm.main.length c4);have HBf:=hid (fun o=>hBx.alloc hBx.size o);have HFin:=hid (fun o=>HM.out.moves ((((Moves.refl w2 (w1.heap.size<=·)).set5 (b:=w.heap.size) (by intro k _ hk;omega) (.string mm.name) (.slice a1 mm.uses.length c1) (.slice a2 mm.decls.length c2) (.slice a3 mm.procs.length c3) (.slice a4 mm.main.length c4)).alloc o).to (lo':=w.heap.size) (by omega)));clear hBx HM;go_wp2_with fail;refine bodyPost_ret (v:=.tuple #[.agg #[.string mm.name,.slice a1 mm.uses.length c1,.slice a2 mm.decls.length c2,.slice a3 mm.procs.length c3,.slice a4 mm.main.length c4],.int .i64 0]) (by simp [results,Tryz.results10,go_sem,h0,h1,h2,h3,h4,hlt2]) rfl ?_
     exact ⟨_,by rw [HE3.out],by rw [HM2.out];exact HFin.out _,HBf.out _⟩
 . have HE2:=hid (HE.out.trans (if_neg he))
   have HM2:=hid (HMo.out.trans (if_neg he))
   have hne:(lexE s != 0)=true:=by simp [he]
   have HBf:=hid (zc1 HBl.out (Nat.le_refl _) (.string ⟨#[]⟩) (.slice none 0 0) (.slice none 0 0) (.slice none 0 0) (.slice none 0 0));clear he HE HMo HFm;generalize lexE s=le at *;go_wp2_with fail;refine bodyPost_ret (v:=.tuple #[zhh,.int .i64 le]) (by simp [results,Tryz.results10,go_sem,h0,h1,h2,h3,h4]) rfl ?_;exact ⟨_,by rw [HE2.out],by rw [HM2.out];exact ⟨none,0,none,0,none,0,none,0,rfl,Nat.zero_le _,Or.inl rfl,Or.inl rfl,Or.inl rfl,Or.inl rfl⟩,HBf.out⟩
end Go.Proofs.YtcekpobmbmnplaaGreatDoor

namespace Go.Proofs.YtcekpobmbmnplaaGreatDoor
set_option maxRecDepth 100000
set_option maxHeartbeats 1600000
open Go.RowKit
theorem zza (w:World):MoAt w Tt mo0 zhh none 0 none 0 none 0 none 0:=
 ⟨rfl,Nat.zero_le _,⟨Nat.zero_le _,by simp [mo0,zax],Or.inl rfl⟩,⟨Nat.zero_le _,by simp [mo0,zfk],Or.inl rfl⟩,⟨Nat.zero_le _,by simp [mo0,zf9],Or.inl rfl⟩,⟨Nat.zero_le _,by simp [mo0,za0],Or.inl rfl⟩⟩
theorem z2y:Fine mo0:=⟨by simp [mo0],by simp [mo0],by simp [mo0],by simp [mo0],zap,zap,zap⟩
theorem z3j (s:ByteArray) (e:Ending) (w:World) (h:zrm s e w):∃ m v a1 c1 a2 c2 a3 c3 a4 c4,e = .returned (.tuple #[v,.int .i64 (zyi s)])/\zy9 s=m/\Fine m/\MoAt w Tt m v a1 c1 a2 c2 a3 c3 a4 c4:=by
 rcases h with ⟨h1,h2,h3⟩ | ⟨m,v,a1,c1,a2,c2,a3,c3,a4,c4,h1,h2,h3,h4⟩
 . obtain ⟨k1,k2⟩:=zt5 h1
   exact ⟨mo0,zhh,none,0,none,0,none,0,none,0,by rw [k1];exact h3,k2,z2y,zza w⟩
 . obtain ⟨k1,k2⟩:=zxb h1
   have hf:Fine m:=by
    unfold zdq at h1
    split at h1
    . split at h1
      . rename_i m' hm
        split at h1
        . cases h1
          exact (zg4 hm (zd6 s)).2
        . cases h1
      . cases h1
    . cases h1
   exact ⟨m,v,a1,c1,a2,c2,a3,c3,a4,c4,by rw [k1];exact h3,k2,hf,h4⟩
theorem zk9 (s:ByteArray) (w:World) (htab:Tab w) (hs:s.size<=maxLen) :
 Calls Tryz.prog 4 #[.string s] w fun e w'=>e = .returned (.bool true)/\Below w.heap.size w w':=by
 have HTab:=hid htab;have HS:=hid hs;clear htab hs;go_enter Tryz.func4,Tryz.ntmps4;go_wp2_with fail;refine (zek s w HS.out).mono ?_;rintro e w1 ⟨hend,hb1⟩;obtain ⟨m,v,a1,c1,a2,c2,a3,c3,a4,c4,rfl,hrm,hf,hM⟩:=z3j s e w1 hend;have HRm:=hid hrm;have HFi:=hid hf;have HB1:=hid hb1;obtain rfl:=hM.val;have HM:=hid hM;clear hend hrm hf hM hb1;generalize hre:zyi s=re at *;have HRe:=hid hre;clear hre
 obtain ⟨W2,hW2⟩:∃ W2,W2=w1.alloc (.cells #[.string m.name,.slice a1 m.uses.length c1,.slice a2 m.decls.length c2,.slice a3 m.procs.length c3,.slice a4 m.main.length c4] 27):=⟨_,rfl⟩
 have HB2:Hid (Below w1.heap.size w1 W2):=by rw [hW2];exact al1 _ _
 have HX2:Hid (W2.heap[w1.heap.size]? = some (.cells #[.string m.name,.slice a1 m.uses.length c1,.slice a2 m.decls.length c2,.slice a3 m.procs.length c3,.slice a4 m.main.length c4] 27 (0,0))):=by rw [hW2];exact heap_newP _ _
 have hz2:w1.heap.size<W2.heap.size:=by rw [hW2];simp
 go_wp2_with fail;rw [← hW2];clear hW2;refine (zpi s W2 HS.out).mono ?_;rintro e w3 ⟨u,rfl,hMr,hb3⟩;rw [HRm.out] at hMr;rw [HRe.out];obtain ⟨b1,d1,b2,d2,b3,d3,b4,d4,hU⟩:=zvk hMr HFi.out;obtain rfl:=hU.val;have HU:=hid hU;have HB3:=hid (zab HB2.out hb3);have HX3:=hid ((hb3.block _ hz2).trans HX2.out);have hz3:=hb3.size;clear hMr hU hb3
 obtain ⟨W4,hW4⟩:∃ W4,W4=w3.alloc (.cells #[.string m.name,.slice b1 m.uses.length d1,.slice b2 m.decls.length d2,.slice b3 m.procs.length d3,.slice b4 m.main.length d4] 27):=⟨_,rfl⟩
 have HB4:Hid (Below w3.heap.size w3 W4):=by rw [hW4];exact al1 _ _
 have HX4:Hid (W4.heap[w3.heap.size]? = some (.cells #[.string m.name,.slice b1 m.uses.length d1,.slice b2 m.decls.length d2,.slice b3 m.procs.length d3,.slice b4 m.main.length d4] 27 (0,0))):=by rw [hW4];exact heap_newP _ _
 have hz4:w3.heap.size<W4.heap.size:=by rw [hW4];simp
 have HXa:=hid ((HB4.out.block _ (zac HX3.out)).trans HX3.out);go_wp2_with fail;rw [← hW4];clear hW4;have HBw:=hid (HB1.out.trans ((zab HB3.out HB4.out).mono HB1.out.size));refine (zch W4 (HTab.out.later HBw.out)).mono ?_;rintro e w5 ⟨rfl,hb5⟩;have HY:=hid ((hb5.block _ (zac HXa.out)).trans HXa.out);have HZ:=hid ((hb5.block _ (zac HX4.out)).trans HX4.out);have HM5:=hid (HM.out.later ((zab HB3.out HB4.out).trans (hb5.mono (by have:=(zab HB3.out HB4.out).size;omega))));have HU5:=hid (HU.out.later (zab HB4.out hb5));have HBf:=hid (HBw.out.trans (hb5.mono HBw.out.size));obtain ⟨g0,g1,g2,g3,g4,g5⟩:=zaf HY.out;obtain ⟨h0,h1,h2,h3,h4,h5⟩:=zaf HZ.out;have hlg:=zac HY.out;have hlh:=zac HZ.out;clear hb5 HXa HX4 HX3 HX2 HM HU HB1 HB2 HB3 HB4 HBw
 have hree:(re == re)=true:=by simp
 go_wp2_with fail;refine (ze4 m _ _ a1 c1 a2 c2 a3 c3 a4 c4 b1 d1 b2 d2 b3 d3 b4 d4 w5 HM5.out HU5.out).mono ?_;rintro e w6 ⟨rfl,hb6⟩;go_wp2_with fail;go_ret;exact ⟨rfl,HBf.out.trans (hb6.mono HBf.out.size)⟩
end Go.Proofs.YtcekpobmbmnplaaGreatDoor
