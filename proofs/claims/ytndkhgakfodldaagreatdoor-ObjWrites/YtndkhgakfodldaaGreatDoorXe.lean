import Derived.Test.YtndkhgakfodldaaGreatDoorXc
import Derived.BigQuiet
namespace Go.Proofs.YtndkhgakfodldaaGreatDoor
set_option maxRecDepth 100000
set_option maxHeartbeats 800000
namespace Fx
open Go.RowKit Go.Shelf Go.WideMaps Go.Maps
set_option linter.unusedSimpArgs false
theorem z13:∀ (b a:List (L8)),zgu a=true->zgu (a++b)=true
 | [],a,h=>by rw [vbe];exact h
 | x :: b,a,h=>by
   rw [show a++x :: b=(a++[x])++b from by simp];exact z13 b _ (by rw [zld,h,Bool.true_or])
theorem z4z {l:List (L8)} (k:Nat) (h:zgu (l.take k)=true):zgu l=true:=by
 have:=z13 (l.drop k) (l.take k) h;rw [vca] at this;exact this
theorem zs8 {a b:ByteArray} (h:a.data.toList=b.data.toList):a=b:=by
 cases a with | mk a=>cases b with | mk b=>cases a;cases b;simp_all
theorem zs9 (l:List ByteArray) (k:Nat) (h:k<l.length):(zbs l).take (k+1)=(zbs l).take k++[l[k].data.toList]:=by
 have h2:k<(zbs l).length:=by simpa [zbs] using h
 rw [vag h2];simp [zbs]
theorem zta (l:List ByteArray) (k:Nat) (s:L8):s ∈ (zbs l).take k↔∃ j,∃ h:j<l.length,j<k/\l[j].data.toList=s:=by
 constructor
 . intro h
   obtain ⟨j,hj,e⟩:=vbd h;rw [vbb] at hj
   have hl:(zbs l).length=l.length:=by simp [zbs]
   refine ⟨j,by omega,by omega,?_⟩;rw [← e];simp [zbs]
 . rintro ⟨j,hj,hk,rfl⟩
   have hl:(zbs l).length=l.length:=by simp [zbs]
   have:((zbs l).take k)[j]'(by rw [vbb];omega)=l[j].data.toList:=by simp [zbs]
   rw [← this];exact vap _
theorem z14 (a:OA) (cap:Nat) (l:List ByteArray) (w:World) (hT:zft w a l) (hl:l.length<=1000000) :
 Calls Tryz.prog 53 #[.slice a l.length cap] w fun e w'=>e = .returned (.bool (zgu (zbs l)))/\Below w.heap.size w w':=by
 have HT:=hid hT;clear hT;go_enter Tryz.func53,Tryz.ntmps53;go_wp2_with fail
 go_loopw [3,4] (fun i _ wr=>∃ k:Nat,k<=l.length/\i = .int .i64 k/\zgu ((zbs l).take k)=false/\Below w.heap.size w wr) (fun i _ _=>l.length - (intOf i).toNat)
 case atStart=>exact ⟨0,vae _,rfl,rfl,Below.refl _ _⟩
 case round =>
  obtain ⟨k,hk,rfl,hd,hb⟩:=hrel;have HD:=hid hd;have HB:=hid hb;clear hd
  by_cases hlt:k<l.length
  . go_wp2_with fail
    go_loopw [4] (fun i wr=>∃ j:Nat,j<=k/\i = .int .i64 j/\(∀ m,∀ h:m<l.length,m<j->l[m].data.toList≠l[k].data.toList)/\Below w.heap.size w wr) (fun i _=>k - (intOf i).toNat)
    case atStart=>exact ⟨0,vae _,rfl,(fun m _ h=>by omega),HB.out⟩
    case round=>
     obtain ⟨j,hj,rfl,hne,hb2⟩:=hrel;have HNe:=hid hne;have HB2:=hid hb2;clear hne
     by_cases hjk:j<k
     . obtain ⟨b,off,rfl,hbl,c0⟩:=(HT.out.later hb2).place hlt
       obtain ⟨b',off',e,_,c1⟩:=(HT.out.later hb2).place (k:=j) (by omega)
       cases e
       clear hb2 hb
       by_cases he:l[k]=l[j]
       . have HR:Hid (zgu (zbs l)=true):=by
          refine z4z (k+1) ?_;rw [zs9 l k hlt,zld,HD.out,veo];exact decide_eq_true ((zta l k _).2 ⟨j,by omega,hjk,by rw [he]⟩)
         rw [← he] at c1;clear he;generalize l[k]=s at *;go_wp2_with fail
         go_quiet ((fail))
         go_wp2_with fail;go_ret;exact ⟨zaa HR.out.symm,HB2.out.trans ⟨rfl,rfl,rfl,vaa _,fun _ _=>rfl⟩⟩
       . have HN2:Hid (l[j].data.toList≠l[k].data.toList):=fun h=>he (zs8 h.symm)
         have hbe:(l[k].data.toList == l[j].data.toList)=false:=by
          rw [beq_eq_false_iff_ne]
          exact fun h=>he (zs8 h)
         have hbe2:(l[k].toList == l[j].toList)=false:=by rw [vba,vba];exact hbe
         clear he;go_wp2_with fail
         go_quiet ((fail))
         go_wp2_with fail;go_roundw
         case rel=>exact ⟨j+1,by omega,by go_num,(fun m h hm=>by
          rcases vbj m j with h1 | h1
          . exact HNe.out m h h1
          . obtain rfl:m=j:=by omega
            exact HN2.out),HB2.out.trans ⟨rfl,rfl,rfl,vaa _,fun _ _=>rfl⟩⟩
         case measure=>simp [intOf];omega
     . have HR:Hid (zgu ((zbs l).take (k+1))=false):=by
        show zgu ((zbs l).take (k+1))=false;rw [zs9 l k hlt,zld,HD.out,veo];refine decide_eq_false (fun h=>?_);obtain ⟨m,hm,hmk,e⟩:=(zta l k _).1 h;exact HNe.out m hm (by omega) e
       clear hb2 hb;go_wp2_with fail;go_roundw
       case rel=>exact ⟨k+1,by omega,by go_num,HR.out,HB2.out⟩
       case measure=>simp [intOf];omega
  . have HR:Hid (zgu (zbs l)=false):=by
     have:=HD.out;rw [vav (by simp [zbs];omega)] at this;exact this
    go_wp2_with fail;go_ret;exact ⟨zaa HR.out.symm,HB.out⟩
end Fx
end Go.Proofs.YtndkhgakfodldaaGreatDoor
