import Derived.Test.YtndkhgakfodldaaGreatDoorProg
import Derived.Test.YtndkhgakfodldaaGreatDoorPure
import Derived.WalkSpells
import Derived.WalkLawsBesides
namespace Go.Proofs.YtndkhgakfodldaaGreatDoor
set_option maxRecDepth 100000
set_option maxHeartbeats 400000
open Go.RowKit
abbrev veb:=@Go.Lib.cell_of_heap
abbrev vec:=@Go.AllReady.cons
abbrev ved:=@Go.Lib.frozen_of_heap
abbrev vee:=@Go.World.cell?_of_block
abbrev vef:=@Go.AllReady.nil
abbrev veg:=@Go.World.ownsRow_nil
abbrev veh:=@Go.World.ownsMap_made
abbrev vei:=@Go.World.drewN_drewN
abbrev vej:=@Go.World.grownBy_alloc
theorem zab {a b:Bool} (h:a=b):Ending.returned (.bool a) = .returned (.bool b):=by rw [h]
theorem zaq {k:IntKind} {a b:Int} (h:a=b):Ending.returned (.int k a) = .returned (.int k b):=by rw [h]
theorem zbl (c:UInt8) (w:World) :
 Calls Tryz.prog 248 #[.int .u8 c.toNat] w fun e w'=>e = .returned (.bool (Lx.zh6 c))/\w'=w:=by
 go_enter Tryz.func248,Tryz.ntmps248
 go_wp2
 all_goals go_ret
 . exact ⟨zab (by simp [Lx.zh6, *]),rfl⟩
 . exact ⟨zab (by simp [Lx.zh6];omega),rfl⟩
theorem zel (c:UInt8) (w:World) :
 Calls Tryz.prog 117 #[.int .u8 c.toNat] w fun e w'=>e = .returned (.bool (Lx.zh6 c))/\w'=w:=by
 go_enter Tryz.func117,Tryz.ntmps117
 go_wp2
 all_goals go_ret
 . exact ⟨zab (by simp [Lx.zh6, *]),rfl⟩
 . exact ⟨zab (by simp [Lx.zh6];omega),rfl⟩
theorem zb3 (c:UInt8) (w:World) :
 Calls Tryz.prog 249 #[.int .u8 c.toNat] w fun e w'=>e = .returned (.bool (Lx.zhx c))/\w'=w:=by
 go_enter Tryz.func249,Tryz.ntmps249
 go_wp2
 all_goals go_ret
 . exact ⟨zab (by simp [Lx.zhx, *]),rfl⟩
 . exact ⟨zab (by simp [Lx.zhx];omega),rfl⟩
theorem znw (c:UInt8) (w:World) :
 Calls Tryz.prog 118 #[.int .u8 c.toNat] w fun e w'=>e = .returned (.bool (Lx.zhx c))/\w'=w:=by
 go_enter Tryz.func118,Tryz.ntmps118
 go_wp2
 all_goals go_ret
 . exact ⟨zab (by simp [Lx.zhx, *]),rfl⟩
 . exact ⟨zab (by simp [Lx.zhx];omega),rfl⟩
theorem zaw (n lo hi:Int) (w:World) :
 Calls Tryz.prog 63 #[.int .i64 n,.int .i64 lo,.int .i64 hi] w fun e w'=>e = .returned (.bool (decide (lo<=n)&&decide (n<=hi)))/\w'=w:=by
 go_enter Tryz.func63,Tryz.ntmps63
 go_wp2
 all_goals go_ret
 . exact ⟨zab (by simp [*]),rfl⟩
 . exact ⟨zab (by simp;omega),rfl⟩
theorem zem (s:ByteArray) (w:World) (hs:s.size<=maxLen) :
 Calls Tryz.prog 202 #[.string s] w fun e w'=>e = .returned (.bool (Lx.zcq s.data.toList))/\w'=w:=by
 unfold maxLen at hs
 by_cases h0:s.size=0
 . have hE:s=⟨#[]⟩:=ByteArray.ext (Array.eq_empty_of_size_eq_zero h0)
   have HN:Hid (Lx.zcq s.data.toList=false):=Lx.zjv s h0;subst hE;clear h0;go_enter Tryz.func202,Tryz.ntmps202;go_wp2_with fail;go_ret;exact ⟨zab HN.out.symm,rfl⟩
 have h1:0<s.size:=by omega
 have hne:s.toList.isEmpty=false:=Lx.zxu s h1;clear h0
 by_cases h8:8<s.size
 . have HN:Hid (Lx.zcq s.data.toList=false):=Lx.zls s h8
   go_enter Tryz.func202,Tryz.ntmps202;go_wp2_with fail;go_ret;exact ⟨zab HN.out.symm,rfl⟩
 by_cases hl:Lx.zh6 s[0]=true
 . have HN:Hid (Lx.zcq s.data.toList=s.data.toList.all Lx.zdx):=Lx.zlu s h1 (by omega) hl
   go_enter Tryz.func202,Tryz.ntmps202
   go_wp2_with (go_at_call 248;refine (zbl _ _).mono ?_;rintro e w' ⟨rfl,rfl⟩)
   go_loop [19,3] (fun i _=>∃ k:Nat,k<=s.size/\i = .int .i64 k/\(s.data.toList.take k).all Lx.zdx=true) (fun i _=>s.size - (intOf i).toNat)
   case atStart=>exact ⟨0,vad _,rfl,rfl⟩
   case round=>
    obtain ⟨k,hk,rfl,hall⟩:=hrel;have HA:Hid ((s.data.toList.take k).all Lx.zdx=true):=hall;clear hall
    by_cases hlt:k<s.size
    . have hst:=Lx.ze6 s k hlt Lx.zdx
      have HS:Hid ((s.data.toList.take (k+1)).all Lx.zdx=((s.data.toList.take k).all Lx.zdx&&Lx.zdx s[k])):=hst;clear hst
      by_cases hc:Lx.zh6 s[k]=true
      . go_wp2_with (go_at_call 248;refine (zbl _ _).mono ?_;rintro e w' ⟨rfl,rfl⟩)
        go_round
        case rel=>exact ⟨k+1,by omega,by go_num,by rw [HS.out,HA.out];simp [Lx.zdx,hc]⟩
        case measure=>simp [intOf];omega
      . have hc':Lx.zh6 s[k]=false:=by simpa using hc
        clear hc
        by_cases hd:Lx.zhx s[k]=true
        . go_wp2_with (first | (go_at_call 248;refine (zbl _ _).mono ?_;rintro e w' ⟨rfl,rfl⟩) | (go_at_call 249;refine (zb3 _ _).mono ?_;rintro e w' ⟨rfl,rfl⟩))
          go_round
          case rel=>exact ⟨k+1,by omega,by go_num,by rw [HS.out,HA.out];simp [Lx.zdx,hd]⟩
          case measure=>simp [intOf];omega
        . have hd':Lx.zhx s[k]=false:=by simpa using hd
          clear hd;have HF:Hid (s.data.toList.all Lx.zdx=false):=Lx.zpy s k hlt _ (by simp [Lx.zdx,hc',hd'])
          go_wp2_with (first | (go_at_call 248;refine (zbl _ _).mono ?_;rintro e w' ⟨rfl,rfl⟩) | (go_at_call 249;refine (zb3 _ _).mono ?_;rintro e w' ⟨rfl,rfl⟩))
          go_ret;exact ⟨zab (by rw [HN.out,HF.out]),rfl⟩
    . obtain rfl:k=s.size:=by omega
      go_wp2
      go_ret;exact ⟨zab (by rw [HN.out,← Lx.zju,HA.out]),rfl⟩
 . have hl':Lx.zh6 s[0]=false:=by simpa using hl
   clear hl;have HN:Hid (Lx.zcq s.data.toList=false):=Lx.zlt s h1 hl';go_enter Tryz.func202,Tryz.ntmps202
   go_wp2_with (go_at_call 248;refine (zbl _ _).mono ?_;rintro e w' ⟨rfl,rfl⟩)
   go_ret;exact ⟨zab HN.out.symm,rfl⟩
theorem zh4 (s:ByteArray) (w:World) (hs:s.size<=maxLen) :
 Calls Tryz.prog 62 #[.string s] w fun e w'=>e = .returned (.bool (Lx.zcq s.data.toList))/\w'=w:=by
 unfold maxLen at hs
 by_cases h1:¬ (0<s.size/\s.size<=8)
 . have HN:Hid (Lx.zcq s.data.toList=false):=by
    by_cases h0:s.size=0
    . exact Lx.zjv s h0
    . exact Lx.zls s (by omega)
   have hw:(decide (1<=(s.size:Int))&&decide ((s.size:Int)<=8))=false:=by simp;omega
   clear h1;go_enter Tryz.func62,Tryz.ntmps62
   go_wp2_with (go_at_call 63;refine (zaw _ _ _ _).mono ?_;rintro e w' ⟨rfl,rfl⟩)
   go_ret;exact ⟨zab HN.out.symm,rfl⟩
 obtain ⟨h1,h8⟩:=Classical.not_not.1 h1
 have hw:(decide (1<=(s.size:Int))&&decide ((s.size:Int)<=8))=true:=by simp;omega
 by_cases hl:Lx.zh6 s[0]=true
 . have HN:Hid (Lx.zcq s.data.toList=s.data.toList.all Lx.zdx):=Lx.zlu s h1 (by omega) hl
   go_enter Tryz.func62,Tryz.ntmps62
   go_wp2_with (first | (go_at_call 63;refine (zaw _ _ _ _).mono ?_;rintro e w' ⟨rfl,rfl⟩) | (go_at_call 117;refine (zel _ _).mono ?_;rintro e w' ⟨rfl,rfl⟩))
   go_loop [3] (fun i=>∃ k:Nat,k<=s.size/\i = .int .i64 k/\(s.data.toList.take k).all Lx.zdx=true) (fun i=>s.size - (intOf i).toNat)
   case atStart=>exact ⟨0,vad _,rfl,rfl⟩
   case round=>
    obtain ⟨k,hk,rfl,hall⟩:=hrel;have HA:Hid ((s.data.toList.take k).all Lx.zdx=true):=hall;clear hall
    by_cases hlt:k<s.size
    . have hst:=Lx.ze6 s k hlt Lx.zdx
      have HS:Hid ((s.data.toList.take (k+1)).all Lx.zdx=((s.data.toList.take k).all Lx.zdx&&Lx.zdx s[k])):=hst;clear hst
      by_cases hc:Lx.zh6 s[k]=true
      . go_wp2_with (go_at_call 117;refine (zel _ _).mono ?_;rintro e w' ⟨rfl,rfl⟩)
        go_round
        case rel=>exact ⟨k+1,by omega,by go_num,by rw [HS.out,HA.out];simp [Lx.zdx,hc]⟩
        case measure=>simp [intOf];omega
      . have hc':Lx.zh6 s[k]=false:=by simpa using hc
        clear hc
        by_cases hd:Lx.zhx s[k]=true
        . go_wp2_with (first | (go_at_call 117;refine (zel _ _).mono ?_;rintro e w' ⟨rfl,rfl⟩) | (go_at_call 118;refine (znw _ _).mono ?_;rintro e w' ⟨rfl,rfl⟩))
          go_round
          case rel=>exact ⟨k+1,by omega,by go_num,by rw [HS.out,HA.out];simp [Lx.zdx,hd]⟩
          case measure=>simp [intOf];omega
        . have hd':Lx.zhx s[k]=false:=by simpa using hd
          clear hd;have HF:Hid (s.data.toList.all Lx.zdx=false):=Lx.zpy s k hlt _ (by simp [Lx.zdx,hc',hd'])
          go_wp2_with (first | (go_at_call 117;refine (zel _ _).mono ?_;rintro e w' ⟨rfl,rfl⟩) | (go_at_call 118;refine (znw _ _).mono ?_;rintro e w' ⟨rfl,rfl⟩))
          go_ret;exact ⟨zab (by rw [HN.out,HF.out]),rfl⟩
    . obtain rfl:k=s.size:=by omega
      go_wp2
      go_ret;exact ⟨zab (by rw [HN.out,← Lx.zju,HA.out]),rfl⟩
 . have hl':Lx.zh6 s[0]=false:=by simpa using hl
   clear hl;have HN:Hid (Lx.zcq s.data.toList=false):=Lx.zlt s h1 hl';go_enter Tryz.func62,Tryz.ntmps62
   go_wp2_with (first | (go_at_call 63;refine (zaw _ _ _ _).mono ?_;rintro e w' ⟨rfl,rfl⟩) | (go_at_call 117;refine (zel _ _).mono ?_;rintro e w' ⟨rfl,rfl⟩))
   go_ret;exact ⟨zab HN.out.symm,rfl⟩
def zum:ByteArray:=⟨#[123,125,40,41,91,93,44,59,61,46,43,45,42,47,37,60,33,38,124]⟩
theorem znx (s:ByteArray) (a:Nat) (w:World) (hs:s.size<=maxLen) (ha:a<s.size) :
 Calls Tryz.prog 193 #[.string s,.int .i64 a] w fun e w'=>e = .returned (.int .i64 ((a+Lx.pieceN s a:Nat):Int))/\w'=w:=by
 unfold maxLen at hs
 by_cases hal:Lx.zdx s[a]=true
 . have key : ∀ w:World,Calls Tryz.prog 193 #[.string s,.int .i64 a] w fun e w'=>e = .returned (.int .i64 ((a+Lx.pieceN s a:Nat):Int))/\w'=w:=by
    intro w
    have H1:Hid (((s.data.toList.drop a).take 1).all Lx.zdx=true):=by
     show ((s.data.toList.drop a).take 1).all Lx.zdx=true
     rw [Lx.zz7 s a ha];exact hal
    have H2:Hid (Lx.zh6 s[a]=true\/Lx.zh6 s[a]=false/\Lx.zhx s[a]=true):=by
     show Lx.zh6 s[a]=true\/Lx.zh6 s[a]=false/\Lx.zhx s[a]=true;unfold Lx.zdx at hal
     cases h:Lx.zh6 s[a] with
     | true=>exact Or.inl rfl
     | false=>rw [h] at hal;exact Or.inr ⟨rfl,by simpa using hal⟩
    clear hal
    rcases H2.out with hl | ⟨hl,hd⟩
    all_goals
     go_enter Tryz.func193,Tryz.ntmps193
     go_wp2_with (first | (go_at_call 248;refine (zbl _ _).mono ?_;rintro e w' ⟨rfl,rfl⟩) | (go_at_call 249;refine (zb3 _ _).mono ?_;rintro e w' ⟨rfl,rfl⟩))
     go_loop [5] (fun i=>∃ k:Nat,0<k/\a+k<=s.size/\i = .int .i64 ((a+k:Nat):Int)/\((s.data.toList.drop a).take k).all Lx.zdx=true) (fun i=>s.size - (intOf i).toNat)
     case atStart=>exact ⟨1,by omega,by omega,by go_num,H1.out⟩
     case round=>
      obtain ⟨k,hk0,hk,rfl,hall⟩:=hrel;have HA:Hid (((s.data.toList.drop a).take k).all Lx.zdx=true):=hall;clear hall hl H2
      try clear hd
      by_cases hlt:a+k<s.size
      . have HS:Hid (((s.data.toList.drop a).take (k+1)).all Lx.zdx=(((s.data.toList.drop a).take k).all Lx.zdx&&Lx.zdx s[a+k])):=Lx.zrb s a k hlt
        by_cases hc:Lx.zh6 s[a+k]=true
        . go_wp2_with (first | (go_at_call 248;refine (zbl _ _).mono ?_;rintro e w' ⟨rfl,rfl⟩) | (go_at_call 249;refine (zb3 _ _).mono ?_;rintro e w' ⟨rfl,rfl⟩))
          go_round
          case rel=>exact ⟨k+1,by omega,by omega,by go_num,by rw [HS.out,HA.out];simp [Lx.zdx,hc]⟩
          case measure=>simp [intOf];omega
        . have hc':Lx.zh6 s[a+k]=false:=by simpa using hc
          clear hc
          by_cases hd:Lx.zhx s[a+k]=true
          . go_wp2_with (first | (go_at_call 248;refine (zbl _ _).mono ?_;rintro e w' ⟨rfl,rfl⟩) | (go_at_call 249;refine (zb3 _ _).mono ?_;rintro e w' ⟨rfl,rfl⟩))
            go_round
            case rel=>exact ⟨k+1,by omega,by omega,by go_num,by rw [HS.out,HA.out];simp [Lx.zdx,hd]⟩
            case measure=>simp [intOf];omega
          . have hd':Lx.zhx s[a+k]=false:=by simpa using hd
            clear hd;have HF:Hid (Lx.pieceN s a=k):=Lx.zob s a k hk0 (Lx.zn9 s a k HA.out hlt (by simp [Lx.zdx,hc',hd']))
            go_wp2_with (first | (go_at_call 248;refine (zbl _ _).mono ?_;rintro e w' ⟨rfl,rfl⟩) | (go_at_call 249;refine (zb3 _ _).mono ?_;rintro e w' ⟨rfl,rfl⟩))
            go_ret;exact ⟨zaq (by rw [HF.out]<;>omega),rfl⟩
      . have HF:Hid (Lx.pieceN s a=k):=Lx.zob s a k hk0 (Lx.zxv s a k HA.out (by omega))
        go_wp2_with fail;go_ret;exact ⟨zaq (by rw [HF.out]<;>omega),rfl⟩
   exact key w
 . have hal':Lx.zdx s[a]=false:=by simpa using hal
   have HF:Hid (Lx.pieceN s a=1):=Lx.zoa s a ha hal'
   have hl:Lx.zh6 s[a]=false:=by unfold Lx.zdx at hal';simp at hal';exact hal'.1
   have hd:Lx.zhx s[a]=false:=by unfold Lx.zdx at hal';simp at hal';exact hal'.2
   clear hal hal';go_enter Tryz.func193,Tryz.ntmps193
   go_wp2_with (first | (go_at_call 248;refine (zbl _ _).mono ?_;rintro e w' ⟨rfl,rfl⟩) | (go_at_call 249;refine (zb3 _ _).mono ?_;rintro e w' ⟨rfl,rfl⟩))
   go_ret;exact ⟨zaq (by rw [HF.out]<;>omega),rfl⟩
end Go.Proofs.YtndkhgakfodldaaGreatDoor
