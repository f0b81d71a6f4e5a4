import Derived.Test.YtndkhgakfodldaaGreatDoorXc
import Derived.BigQuiet
namespace Go.Proofs.YtndkhgakfodldaaGreatDoor
set_option maxRecDepth 100000
set_option maxHeartbeats 800000
namespace Fx
open Go.RowKit Go.Shelf Go.WideMaps Go.Maps
set_option linter.unusedSimpArgs false
theorem z1d:∀ (b a:List (L8)),zgd a=true->zgd (a++b)=true
 | [],a,h=>by rw [vch];exact h
 | x :: b,a,h=>by
   rw [show a++x :: b=(a++[x])++b from aA];exact z1d b _ (by rw [zin,h,Bool.true_or])
theorem z4j {l:List (L8)} (k:Nat) (h:zgd (l.take k)=true):zgd l=true:=by
 have:=z1d (l.drop k) (l.take k) h;rw [vck] at this;exact this
theorem zr1 {a b:ByteArray} (h:a.data.toList=b.data.toList):a=b:=by
 cases a with | mk a=>cases b with | mk b=>cases a;cases b;simp_all
theorem zr2 (l:List ByteArray) (k:Nat) (h:k<l.length):(zbi l).take (k+1)=(zbi l).take k++[l[k].data.toList]:=by
 have h2:k<(zbi l).length:=by simpa [zbi] using h
 rw [vag h2];simp [zbi]
theorem zr3 (l:List ByteArray) (k:Nat) (s:L8):s ∈ (zbi l).take k↔∃ j,∃ h:j<l.length,j<k/\l[j].data.toList=s:=by
 constructor
 . intro h
   obtain ⟨j,hj,e⟩:=vba h;rw [vbg] at hj
   have hl:(zbi l).length=l.length:=by simp [zbi]
   refine ⟨j,ae,ae,?_⟩;rw [← e];simp [zbi]
 . rintro ⟨j,hj,hk,rfl⟩
   have hl:(zbi l).length=l.length:=by simp [zbi]
   have:((zbi l).take k)[j]'(by rw [vbg];omega)=l[j].data.toList:=by simp [zbi]
   rw [← this];exact vah _
theorem zr4 (a:OA) (cap:Nat) (l:List ByteArray) (w:World) (hT:zez w a l) (hl:l.length<=1000000) :
 qc 53 #[.slice a l.length cap] w fun e w'=>e = .returned (.bool (zgd (zbi l)))/\qb w w':=by
 have HT:=hid hT;clear hT;go_enter Tryz.func53,Tryz.ntmps53;go_wp2_with fail
 go_loopw [3,4] (fun i _ wr=>∃ k:Nat,k<=l.length/\i=qi k/\zgd ((zbi l).take k)=false/\qb w wr) (fun i _ _=>l.length - (intOf i).toNat)
 case atStart=>exact ⟨0,vaf _,rfl,rfl,Below.refl _ _⟩
 case round =>
  obtain ⟨k,hk,rfl,hd,hb⟩:=hrel;have HD:=hid hd;have HB:=hid hb;clear hd
  by_cases A0:k<l.length
  . go_wp2_with fail
    go_loopw [4] (fun i wr=>∃ j:Nat,j<=k/\i=qi j/\(∀ m,∀ h:m<l.length,m<j->l[m].data.toList≠l[k].data.toList)/\qb w wr) (fun i _=>k - (intOf i).toNat)
    case atStart=>exact ⟨0,vaf _,rfl,(fun m _ h=>ae),HB.out⟩
    case round=>
     obtain ⟨j,hj,rfl,Ai,Ab⟩:=hrel;have GI:=hid Ai;have Ad:=hid Ab;clear Ai
     by_cases Ni:j<k
     . obtain ⟨b,off,rfl,Av,c0⟩:=(HT.out.later Ab).place A0
       obtain ⟨b',BN,e,_,c1⟩:=(HT.out.later Ab).place (k:=j) ae
       cases e
       clear Ab hb
       by_cases he:l[k]=l[j]
       . have HR:Hid (zgd (zbi l)=true):=by
          refine z4j (k+1) ?_;rw [zr2 l k A0,zin,HD.out,ven];exact decide_eq_true ((zr3 l k _).2 ⟨j,ae,Ni,by rw [he]⟩)
         rw [← he] at c1;clear he;generalize l[k]=s at *;go_wp2_with fail
         go_quiet ((fail))
         go_wp2_with fail;go_ret;exact ⟨ret_bool HR.out.symm,Ad.out.trans ⟨rfl,rfl,rfl,vaa _,fun _ _=>rfl⟩⟩
       . have Hp:Hid (l[j].data.toList≠l[k].data.toList):=fun h=>he (zr1 h.symm)
         have PS:(l[k].data.toList == l[j].data.toList)=false:=by
          rw [beq_eq_false_iff_ne]
          exact fun h=>he (zr1 h)
         have S3:(l[k].toList == l[j].toList)=false:=by rw [vay,vay];exact PS
         clear he;go_wp2_with fail
         go_quiet ((fail))
         go_wp2_with fail;go_roundw
         case rel=>exact ⟨j+1,ae,aR,(fun m h hm=>by
          rcases vbi m j with h1 | h1
          . exact GI.out m h h1
          . obtain rfl:m=j:=by omega
            exact Hp.out),Ad.out.trans ⟨rfl,rfl,rfl,vaa _,fun _ _=>rfl⟩⟩
         case measure=>simp [intOf];omega
     . have HR:Hid (zgd ((zbi l).take (k+1))=false):=by
        show zgd ((zbi l).take (k+1))=false;rw [zr2 l k A0,zin,HD.out,ven];refine decide_eq_false (fun h=>?_);obtain ⟨m,hm,E6,e⟩:=(zr3 l k _).1 h;exact GI.out m hm ae e
       clear Ab hb;go_wp2_with fail;go_roundw
       case rel=>exact ⟨k+1,ae,aR,HR.out,Ad.out⟩
       case measure=>simp [intOf];omega
  . have HR:Hid (zgd (zbi l)=false):=by
     have:=HD.out;rw [vav (by simp [zbi];omega)] at this;exact this
    exact gI
end Fx
end Go.Proofs.YtndkhgakfodldaaGreatDoor
