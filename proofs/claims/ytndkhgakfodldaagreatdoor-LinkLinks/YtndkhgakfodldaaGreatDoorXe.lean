import Derived.Test.YtndkhgakfodldaaGreatDoorXc
import Derived.BigQuiet
set_option maxRecDepth 100000
set_option maxHeartbeats 800000
set_option linter.unusedSimpArgs false
namespace Go.Proofs.YtndkhgakfodldaaGreatDoor
namespace Fx
open Go.RowKit Go.Shelf Go.WideMaps Go.Maps
theorem Ce:∀ (V a:List (L8)),zgd a=true->zgd (a++V)=true
 | [],a,h=>by rw [ot];exact h
 | q :: V,a,h=>by
   rw [show a++q :: V=(a++[q])++V from by simp];exact Ce V _ (by rw [zin,h,Bool.true_or])
theorem JP {l:List (L8)} (k:Nat) (h:zgd (l.take k)=true):zgd l=true:=by
 have:=Ce (l.drop k) (l.take k) h;rw [rk] at this;exact this
theorem Cf {a b:ByteArray} (h:a.data.toList=b.data.toList):a=b:=by
 cases a with | mk a=>cases b with | mk b=>cases a;cases b;simp_all
theorem Cg (l:List ByteArray) (k:Nat) (h:k<l.length):(zbi l).take (k+1)=(zbi l).take k++[l[k].data.toList]:=by
 have J:k<(zbi l).length:=by simpa [zbi] using h
 rw [hI J];simp [zbi]
theorem Ch (l:List ByteArray) (k:Nat) (s:L8):s ∈ (zbi l).take k↔∃ j,∃ h:j<l.length,j<k/\l[j].data.toList=s:=by
 constructor
 . intro h
   obtain ⟨j,ac,e⟩:=kx h;rw [ky] at ac
   have a2:(zbi l).length=l.length:=by simp [zbi]
   refine ⟨j,by omega,by omega,?_⟩;rw [← e];simp [zbi]
 . rintro ⟨j,ac,N,rfl⟩
   have a2:(zbi l).length=l.length:=by simp [zbi]
   have:((zbi l).take k)[j]'(by rw [ky];omega)=l[j].data.toList:=by simp [zbi]
   rw [← this];exact fO _
theorem zr4 (a:OA) (I:Nat) (l:List ByteArray) (w:World) (u:zez w a l) (a2:l.length<=1000000) :
 ew 53 #[.slice a l.length I] w fun e r=>e = .returned (.bool (zgd (zbi l)))/\et w r:=by
 have P:=hid u;clear u;go_enter Tryz.func53,Tryz.ntmps53;go_wp2_with fail
 go_loopw [3,4] (fun i _ wr=>∃ k:Nat,k<=l.length/\i=em k/\zgd ((zbi l).take k)=false/\et w wr) (fun i _ _=>l.length - (intOf i).toNat)
 case atStart=>exact ⟨0,eY _,rfl,rfl,Below.refl _ _⟩
 case round =>
  obtain ⟨k,N,rfl,ez,F⟩:=hrel;have aK:=hid ez;have ad:=hid F;clear ez
  by_cases a0:k<l.length
  . go_wp2_with fail
    go_loopw [4] (fun i wr=>∃ j:Nat,j<=k/\i=em j/\(∀ m,∀ h:m<l.length,m<j->l[m].data.toList≠l[k].data.toList)/\et w wr) (fun i _=>k - (intOf i).toNat)
    case atStart=>exact ⟨0,eY _,rfl,(fun m _ h=>by omega),ad⟩
    case round=>
     obtain ⟨j,ac,rfl,aV,aB⟩:=hrel;have cE:=hid aV;have aM:=hid aB;clear aV
     by_cases b:j<k
     . obtain ⟨V,C,rfl,ap,bh⟩:=(P.later aB).place a0
       obtain ⟨bA,cf,e,_,a9⟩:=(P.later aB).place (k:=j) (by omega)
       cases e
       clear aB F
       by_cases ah:l[k]=l[j]
       . have z:Hid (zgd (zbi l)=true):=by
          refine JP (k+1) ?_;rw [Cg l k a0,zin,aK.out,w9];exact decide_eq_true ((Ch l k _).2 ⟨j,by omega,b,by rw [ah]⟩)
         rw [← ah] at a9;clear ah;generalize l[k]=s at *;go_wp2_with fail
         go_quiet ((fail))
         go_wp2_with fail;go_ret;exact ⟨ret_bool z.symm,aM.trans ⟨rfl,rfl,rfl,eD _,fun _ _=>rfl⟩⟩
       . have cH:Hid (l[j].data.toList≠l[k].data.toList):=fun h=>ah (Cf h.symm)
         have g:(l[k].data.toList == l[j].data.toList)=false:=by
          rw [beq_eq_false_iff_ne]
          exact fun h=>ah (Cf h)
         have c:(l[k].toList == l[j].toList)=false:=by rw [iB,iB];exact g
         clear ah;go_wp2_with fail
         go_quiet ((fail))
         go_wp2_with fail;go_roundw
         case rel=>exact ⟨j+1,by omega,by go_num,(fun m h a8=>by
          rcases iS m j with G | G
          . exact cE m h G
          . obtain rfl:m=j:=by omega
            exact cH),aM.trans ⟨rfl,rfl,rfl,eD _,fun _ _=>rfl⟩⟩
         case measure=>simp [intOf];omega
     . have z:Hid (zgd ((zbi l).take (k+1))=false):=by
        show zgd ((zbi l).take (k+1))=false;rw [Cg l k a0,zin,aK.out,w9];refine decide_eq_false (fun h=>?_);obtain ⟨m,a8,ao,e⟩:=(Ch l k _).1 h;exact cE m a8 (by omega) e
       clear aB F;go_wp2_with fail;go_roundw
       case rel=>exact ⟨k+1,by omega,by go_num,z,aM⟩
       case measure=>simp [intOf];omega
  . have z:Hid (zgd (zbi l)=false):=by
     have:=aK.out;rw [kw (by simp [zbi];omega)] at this;exact this
    go_wp2_with fail;go_ret;exact ⟨ret_bool z.symm,ad⟩
end Fx
end Go.Proofs.YtndkhgakfodldaaGreatDoor
