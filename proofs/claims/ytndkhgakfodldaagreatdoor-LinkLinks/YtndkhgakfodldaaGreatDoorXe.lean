import Derived.Test.YtndkhgakfodldaaGreatDoorXc
import Derived.BigQuiet
namespace Go.Proofs.YtndkhgakfodldaaGreatDoor
set_option maxRecDepth 100000
set_option maxHeartbeats 800000
namespace Fx
open Go.RowKit Go.Shelf Go.WideMaps Go.Maps
set_option linter.unusedSimpArgs false
theorem zy2:∀ (b a:List (L8)),zfk a=true->zfk (a++b)=true
 | [],a,h=>by rw [vdb];exact h
 | x :: b,a,h=>by
   rw [show a++x :: b=(a++[x])++b from by simp];exact zy2 b _ (by rw [zhc,h,Bool.true_or])
theorem z11 {l:List (L8)} (k:Nat) (h:zfk (l.take k)=true):zfk l=true:=by
 have:=zy2 (l.drop k) (l.take k) h;rw [vcg] at this;exact this
theorem zqc {a b:ByteArray} (h:a.data.toList=b.data.toList):a=b:=by
 cases a with | mk a=>cases b with | mk b=>cases a;cases b;simp_all
theorem zqd (l:List ByteArray) (k:Nat) (h:k<l.length):(zbf l).take (k+1)=(zbf l).take k++[l[k].data.toList]:=by
 have h2:k<(zbf l).length:=by simpa [zbf] using h
 rw [vaf h2];simp [zbf]
theorem zqe (l:List ByteArray) (k:Nat) (s:L8):s ∈ (zbf l).take k↔∃ j,∃ h:j<l.length,j<k/\l[j].data.toList=s:=by
 constructor
 . intro h
   obtain ⟨j,hj,e⟩:=vay h;rw [vbg] at hj
   have hl:(zbf l).length=l.length:=by simp [zbf]
   refine ⟨j,by omega,by omega,?_⟩;rw [← e];simp [zbf]
 . rintro ⟨j,hj,hk,rfl⟩
   have hl:(zbf l).length=l.length:=by simp [zbf]
   have:((zbf l).take k)[j]'(by rw [vbg];omega)=l[j].data.toList:=by simp [zbf]
   rw [← this];exact vag _
theorem zqf (a:OA) (cap:Nat) (l:List ByteArray) (w:World) (hT:zd4 w a l) (hl:l.length<=1000000) :
 qc 53 #[.slice a l.length cap] w fun e w'=>e = .returned (.bool (zfk (zbf l)))/\qb w w':=by
 have HT:=hid hT;clear hT;go_enter Tryz.func53,Tryz.ntmps53;go_wp2_with fail
 go_loopw [3,4] (fun i _ wr=>∃ k:Nat,k<=l.length/\i=qi k/\zfk ((zbf l).take k)=false/\qb w wr) (fun i _ _=>l.length - (intOf i).toNat)
 case atStart=>exact ⟨0,vae _,rfl,rfl,Below.refl _ _⟩
 case round =>
  obtain ⟨k,hk,rfl,hd,hb⟩:=hrel;have HD:=hid hd;have HB:=hid hb;clear hd
  by_cases A0:k<l.length
  . go_wp2_with fail
    go_loopw [4] (fun i wr=>∃ j:Nat,j<=k/\i=qi j/\(∀ m,∀ h:m<l.length,m<j->l[m].data.toList≠l[k].data.toList)/\qb w wr) (fun i _=>k - (intOf i).toNat)
    case atStart=>exact ⟨0,vae _,rfl,(fun m _ h=>by omega),HB.out⟩
    case round=>
     obtain ⟨j,hj,rfl,Aj,Aa⟩:=hrel;have FL:=hid Aj;have Ad:=hid Aa;clear Aj
     by_cases M6:j<k
     . obtain ⟨b,off,rfl,Au,c0⟩:=(HT.out.later Aa).place A0
       obtain ⟨b',BG,e,_,c1⟩:=(HT.out.later Aa).place (k:=j) (by omega)
       cases e
       clear Aa hb
       by_cases he:l[k]=l[j]
       . have HR:Hid (zfk (zbf l)=true):=by
          refine z11 (k+1) ?_;rw [zqd l k A0,zhc,HD.out,ven];exact decide_eq_true ((zqe l k _).2 ⟨j,by omega,M6,by rw [he]⟩)
         rw [← he] at c1;clear he;generalize l[k]=s at *;go_wp2_with fail
         go_quiet ((fail))
         go_wp2_with fail;go_ret;exact ⟨ret_bool HR.out.symm,Ad.out.trans ⟨rfl,rfl,rfl,vaa _,fun _ _=>rfl⟩⟩
       . have Gh:Hid (l[j].data.toList≠l[k].data.toList):=fun h=>he (zqc h.symm)
         have Oz:(l[k].data.toList == l[j].data.toList)=false:=by
          rw [beq_eq_false_iff_ne]
          exact fun h=>he (zqc h)
         have QM:(l[k].toList == l[j].toList)=false:=by rw [vbb,vbb];exact Oz
         clear he;go_wp2_with fail
         go_quiet ((fail))
         go_wp2_with fail;go_roundw
         case rel=>exact ⟨j+1,by omega,by go_num,(fun m h hm=>by
          rcases vbi m j with h1 | h1
          . exact FL.out m h h1
          . obtain rfl:m=j:=by omega
            exact Gh.out),Ad.out.trans ⟨rfl,rfl,rfl,vaa _,fun _ _=>rfl⟩⟩
         case measure=>simp [intOf];omega
     . have HR:Hid (zfk ((zbf l).take (k+1))=false):=by
        show zfk ((zbf l).take (k+1))=false;rw [zqd l k A0,zhc,HD.out,ven];refine decide_eq_false (fun h=>?_);obtain ⟨m,hm,Dx,e⟩:=(zqe l k _).1 h;exact FL.out m hm (by omega) e
       clear Aa hb;go_wp2_with fail;go_roundw
       case rel=>exact ⟨k+1,by omega,by go_num,HR.out,Ad.out⟩
       case measure=>simp [intOf];omega
  . have HR:Hid (zfk (zbf l)=false):=by
     have:=HD.out;rw [vau (by simp [zbf];omega)] at this;exact this
    go_wp2_with fail;go_ret;exact ⟨ret_bool HR.out.symm,HB.out⟩
end Fx
end Go.Proofs.YtndkhgakfodldaaGreatDoor
