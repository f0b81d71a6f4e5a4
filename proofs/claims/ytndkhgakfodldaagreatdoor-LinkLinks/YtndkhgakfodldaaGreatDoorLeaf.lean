import Derived.Test.YtndkhgakfodldaaGreatDoorProg
import Derived.Test.YtndkhgakfodldaaGreatDoorPure
import Derived.WalkSpells
import Derived.WalkLawsBesides
namespace Go.Proofs.YtndkhgakfodldaaGreatDoor
set_option maxRecDepth 100000
set_option maxHeartbeats 400000
open Go.RowKit
abbrev vep:=@Go.Lib.cell_of_heap
abbrev veq:=@Go.Lib.frozen_of_heap
abbrev ver:=@Go.World.ownsRow_nil
abbrev ves:=@Go.World.cell?_of_block
abbrev vet:=@Go.AllReady.cons
abbrev veu:=@Go.World.ownsMap_made
abbrev vev:=@Go.AllReady.nil
abbrev vew:=@Go.World.frozen?_of_block
abbrev vex:=@Go.World.grownBy_alloc
abbrev vey:=@Go.World.drewN_drewN
abbrev qi (n:Int):Value:=.int .i64 n
abbrev qs:Value:=.slice none 0 0
abbrev qa (b i:Nat):Addr:=⟨b,i,none⟩
abbrev pq (b i:Nat):Value:=.pointer (some ⟨b,i,none⟩)
abbrev qc:=Calls Tryz.prog
abbrev qb (a b:World):Prop:=Below a.heap.size a b
abbrev kzA (a:Int) (b:Int) (c:Int) (d:Int) (e:OA) (f g:Nat) (h:OA) (i j:Nat) (k:OA) (l m:Nat):Obj:=.cells #[.int .i64 a,.int .i64 b,.int .i64 c,.int .i64 d,.slice e f g,.slice h i j,.slice k l m] 109
abbrev kzB (a:Int) (b:ByteArray) (c:ByteArray) (d:OA) (e f:Nat) (g:OA) (h i:Nat) (j:OA) (k l:Nat):Obj:=.cells #[.int .i64 a,.string b,.string c,.slice d e f,.slice g h i,.slice j k l] 176
abbrev kzC (a:ByteArray) (b:OA) (c d:Nat) (e:Int) (f:OA) (g h:Nat) (i:OA) (j k:Nat):Obj:=.cells #[.string a,.slice b c d,.int .i64 e,.slice f g h,.slice i j k] 42
abbrev kzD (a:ByteArray) (b:OA) (c d:Nat) (e:Int) (f:OA) (g h:Nat) (i:OA) (j k:Nat) (l:OA) (m n:Nat) (o:Int):Obj:=.cells #[.string a,.slice b c d,.int .i64 e,.slice f g h,.slice i j k,.slice l m n,.int .i64 o] 62
abbrev kzE (a:Int) (b:Int) (c:ByteArray) (d:ByteArray) (e:OA) (f g:Nat):Obj:=.cells #[.int .i64 a,.int .i64 b,.string c,.string d,.slice e f g] 174
abbrev kzF (a:Int) (b:Int) (c:Int) (d:Int) (e:OA) (f g:Nat):Obj:=.cells #[.int .i64 a,.int .i64 b,.int .i64 c,.int .i64 d,.slice e f g] 253
abbrev kzG (a:ByteArray) (b:OA) (c d:Nat) (e:OA) (f g:Nat) (h:OA) (i j:Nat) (k:OA) (l m:Nat):Obj:=.cells #[.string a,.slice b c d,.slice e f g,.slice h i j,.slice k l m] 27
abbrev kzH (a:Int) (b:ByteArray) (c:Bool) (d:Int):Obj:=.cells #[.int .i64 a,.string b,.bool c,.int .i64 d] 170
abbrev kzI (a:Int) (b:Int) (c:Int) (d:ByteArray):Obj:=.cells #[.int .i64 a,.int .i64 b,.int .i64 c,.string d] 98
abbrev kzJ (a:Int) (b:Int) (c:Int) (d:Int):Obj:=.cells #[.int .i64 a,.int .i64 b,.int .i64 c,.int .i64 d] 242
abbrev kzK (a:ByteArray) (b:Bool) (c:OA) (d e:Nat) (f:OA) (g h:Nat) (i:OA) (j k:Nat):Obj:=.cells #[.string a,.bool b,.slice c d e,.slice f g h,.slice i j k] 118
abbrev kzL (a:Int) (b:Int) (c:OA) (d e:Nat):Obj:=.cells #[.int .i64 a,.int .i64 b,.slice c d e] 106
theorem ret_bool {a b:Bool} (h:a=b):Ending.returned (.bool a) = .returned (.bool b):=by rw [h]
theorem ret_int {k:IntKind} {a b:Int} (h:a=b):Ending.returned (.int k a) = .returned (.int k b):=by rw [h]
theorem zbg (c:UInt8) (w:World) :
 Calls Tryz.prog 248 #[.int .u8 c.toNat] w fun e w'=>e = .returned (.bool (Lx.zh1 c))/\w'=w:=by
 go_enter Tryz.func248,Tryz.ntmps248
 go_wp2
 all_goals go_ret
 . exact ⟨ret_bool (by simp [Lx.zh1, *]),rfl⟩
 . exact ⟨ret_bool (by simp [Lx.zh1];omega),rfl⟩
theorem zet (c:UInt8) (w:World) :
 Calls Tryz.prog 117 #[.int .u8 c.toNat] w fun e w'=>e = .returned (.bool (Lx.zh1 c))/\w'=w:=by
 go_enter Tryz.func117,Tryz.ntmps117
 go_wp2
 all_goals go_ret
 . exact ⟨ret_bool (by simp [Lx.zh1, *]),rfl⟩
 . exact ⟨ret_bool (by simp [Lx.zh1];omega),rfl⟩
theorem zbq (c:UInt8) (w:World) :
 Calls Tryz.prog 249 #[.int .u8 c.toNat] w fun e w'=>e = .returned (.bool (Lx.zhu c))/\w'=w:=by
 go_enter Tryz.func249,Tryz.ntmps249
 go_wp2
 all_goals go_ret
 . exact ⟨ret_bool (by simp [Lx.zhu, *]),rfl⟩
 . exact ⟨ret_bool (by simp [Lx.zhu];omega),rfl⟩
theorem zo5 (c:UInt8) (w:World) :
 Calls Tryz.prog 118 #[.int .u8 c.toNat] w fun e w'=>e = .returned (.bool (Lx.zhu c))/\w'=w:=by
 go_enter Tryz.func118,Tryz.ntmps118
 go_wp2
 all_goals go_ret
 . exact ⟨ret_bool (by simp [Lx.zhu, *]),rfl⟩
 . exact ⟨ret_bool (by simp [Lx.zhu];omega),rfl⟩
theorem zc5 (n lo hi:Int) (w:World) :
 Calls Tryz.prog 63 #[.int .i64 n,.int .i64 lo,.int .i64 hi] w fun e w'=>e = .returned (.bool (decide (lo<=n)&&decide (n<=hi)))/\w'=w:=by
 go_enter Tryz.func63,Tryz.ntmps63
 go_wp2
 all_goals go_ret
 . exact ⟨ret_bool (by simp [*]),rfl⟩
 . exact ⟨ret_bool (by simp;omega),rfl⟩
theorem zeu (s:ByteArray) (w:World) (hs:s.size<=maxLen) :
 Calls Tryz.prog 202 #[.string s] w fun e w'=>e = .returned (.bool (Lx.zbt s.data.toList))/\w'=w:=by
 unfold maxLen at hs
 by_cases h0:s.size=0
 . have hE:s=⟨#[]⟩:=vem (Array.eq_empty_of_size_eq_zero h0)
   have HN:Hid (Lx.zbt s.data.toList=false):=Lx.zj8 s h0;subst hE;clear h0;go_enter Tryz.func202,Tryz.ntmps202;go_wp2_with fail;go_ret;exact ⟨ret_bool HN.out.symm,rfl⟩
 have h1:0<s.size:=by omega
 have Aj:s.toList.isEmpty=false:=Lx.z0n s h1;clear h0
 by_cases h8:8<s.size
 . have HN:Hid (Lx.zbt s.data.toList=false):=Lx.zmh s h8
   go_enter Tryz.func202,Tryz.ntmps202;go_wp2_with fail;go_ret;exact ⟨ret_bool HN.out.symm,rfl⟩
 by_cases hl:Lx.zh1 s[0]=true
 . have HN:Hid (Lx.zbt s.data.toList=s.data.toList.all Lx.zdk):=Lx.zmj s h1 (by omega) hl
   go_enter Tryz.func202,Tryz.ntmps202
   go_wp2_with (go_at_call 248;refine (zbg _ _).mono ?_;rintro e w' ⟨rfl,rfl⟩)
   go_loop [19,3] (fun i _=>∃ k:Nat,k<=s.size/\i = .int .i64 k/\(s.data.toList.take k).all Lx.zdk=true) (fun i _=>s.size - (intOf i).toNat)
   case atStart=>exact ⟨0,vae _,rfl,rfl⟩
   case round=>
    obtain ⟨k,hk,rfl,A6⟩:=hrel;have HA:Hid ((s.data.toList.take k).all Lx.zdk=true):=A6;clear A6
    by_cases A0:k<s.size
    . have Cf:=Lx.ze6 s k A0 Lx.zdk
      have HS:Hid ((s.data.toList.take (k+1)).all Lx.zdk=((s.data.toList.take k).all Lx.zdk&&Lx.zdk s[k])):=Cf;clear Cf
      by_cases hc:Lx.zh1 s[k]=true
      . go_wp2_with (go_at_call 248;refine (zbg _ _).mono ?_;rintro e w' ⟨rfl,rfl⟩)
        go_round
        case rel=>exact ⟨k+1,by omega,by go_num,by rw [HS.out,HA.out];simp [Lx.zdk,hc]⟩
        case measure=>simp [intOf];omega
      . have Io:Lx.zh1 s[k]=false:=by simpa using hc
        clear hc
        by_cases hd:Lx.zhu s[k]=true
        . go_wp2_with (first | (go_at_call 248;refine (zbg _ _).mono ?_;rintro e w' ⟨rfl,rfl⟩) | (go_at_call 249;refine (zbq _ _).mono ?_;rintro e w' ⟨rfl,rfl⟩))
          go_round
          case rel=>exact ⟨k+1,by omega,by go_num,by rw [HS.out,HA.out];simp [Lx.zdk,hd]⟩
          case measure=>simp [intOf];omega
        . have EI:Lx.zhu s[k]=false:=by simpa using hd
          clear hd;have HF:Hid (s.data.toList.all Lx.zdk=false):=Lx.zrk s k A0 _ (by simp [Lx.zdk,Io,EI])
          go_wp2_with (first | (go_at_call 248;refine (zbg _ _).mono ?_;rintro e w' ⟨rfl,rfl⟩) | (go_at_call 249;refine (zbq _ _).mono ?_;rintro e w' ⟨rfl,rfl⟩))
          go_ret;exact ⟨ret_bool (by rw [HN.out,HF.out]),rfl⟩
    . obtain rfl:k=s.size:=by omega
      go_wp2
      go_ret;exact ⟨ret_bool (by rw [HN.out,← Lx.zj7,HA.out]),rfl⟩
 . have F3:Lx.zh1 s[0]=false:=by simpa using hl
   clear hl;have HN:Hid (Lx.zbt s.data.toList=false):=Lx.zmi s h1 F3;go_enter Tryz.func202,Tryz.ntmps202
   go_wp2_with (go_at_call 248;refine (zbg _ _).mono ?_;rintro e w' ⟨rfl,rfl⟩)
   go_ret;exact ⟨ret_bool HN.out.symm,rfl⟩
theorem zue (s:ByteArray) (w:World) (hs:s.size<=maxLen) :
 qc 62 #[.string s] w fun e w'=>e = .returned (.bool (Lx.zbt s.data.toList))/\w'=w:=by
 unfold maxLen at hs
 by_cases h1:¬ (0<s.size/\s.size<=8)
 . have HN:Hid (Lx.zbt s.data.toList=false):=by
    by_cases h0:s.size=0
    . exact Lx.zj8 s h0
    . exact Lx.zmh s (by omega)
   have hw:(decide (1<=(s.size:Int))&&decide ((s.size:Int)<=8))=false:=by simp;omega
   clear h1;go_enter Tryz.func62,Tryz.ntmps62
   go_wp2_with (go_at_call 63;refine (zc5 _ _ _ _).mono ?_;rintro e w' ⟨rfl,rfl⟩)
   go_ret;exact ⟨ret_bool HN.out.symm,rfl⟩
 obtain ⟨h1,h8⟩:=Classical.not_not.1 h1
 have hw:(decide (1<=(s.size:Int))&&decide ((s.size:Int)<=8))=true:=by simp;omega
 by_cases hl:Lx.zh1 s[0]=true
 . have HN:Hid (Lx.zbt s.data.toList=s.data.toList.all Lx.zdk):=Lx.zmj s h1 (by omega) hl
   go_enter Tryz.func62,Tryz.ntmps62
   go_wp2_with (first | (go_at_call 63;refine (zc5 _ _ _ _).mono ?_;rintro e w' ⟨rfl,rfl⟩) | (go_at_call 117;refine (zet _ _).mono ?_;rintro e w' ⟨rfl,rfl⟩))
   go_loop [3] (fun i=>∃ k:Nat,k<=s.size/\i=qi k/\(s.data.toList.take k).all Lx.zdk=true) (fun i=>s.size - (intOf i).toNat)
   case atStart=>exact ⟨0,vae _,rfl,rfl⟩
   case round=>
    obtain ⟨k,hk,rfl,A6⟩:=hrel;have HA:Hid ((s.data.toList.take k).all Lx.zdk=true):=A6;clear A6
    by_cases A0:k<s.size
    . have Cf:=Lx.ze6 s k A0 Lx.zdk
      have HS:Hid ((s.data.toList.take (k+1)).all Lx.zdk=((s.data.toList.take k).all Lx.zdk&&Lx.zdk s[k])):=Cf;clear Cf
      by_cases hc:Lx.zh1 s[k]=true
      . go_wp2_with (go_at_call 117;refine (zet _ _).mono ?_;rintro e w' ⟨rfl,rfl⟩)
        go_round
        case rel=>exact ⟨k+1,by omega,by go_num,by rw [HS.out,HA.out];simp [Lx.zdk,hc]⟩
        case measure=>simp [intOf];omega
      . have Io:Lx.zh1 s[k]=false:=by simpa using hc
        clear hc
        by_cases hd:Lx.zhu s[k]=true
        . go_wp2_with (first | (go_at_call 117;refine (zet _ _).mono ?_;rintro e w' ⟨rfl,rfl⟩) | (go_at_call 118;refine (zo5 _ _).mono ?_;rintro e w' ⟨rfl,rfl⟩))
          go_round
          case rel=>exact ⟨k+1,by omega,by go_num,by rw [HS.out,HA.out];simp [Lx.zdk,hd]⟩
          case measure=>simp [intOf];omega
        . have EI:Lx.zhu s[k]=false:=by simpa using hd
          clear hd;have HF:Hid (s.data.toList.all Lx.zdk=false):=Lx.zrk s k A0 _ (by simp [Lx.zdk,Io,EI])
          go_wp2_with (first | (go_at_call 117;refine (zet _ _).mono ?_;rintro e w' ⟨rfl,rfl⟩) | (go_at_call 118;refine (zo5 _ _).mono ?_;rintro e w' ⟨rfl,rfl⟩))
          go_ret;exact ⟨ret_bool (by rw [HN.out,HF.out]),rfl⟩
    . obtain rfl:k=s.size:=by omega
      go_wp2
      go_ret;exact ⟨ret_bool (by rw [HN.out,← Lx.zj7,HA.out]),rfl⟩
 . have F3:Lx.zh1 s[0]=false:=by simpa using hl
   clear hl;have HN:Hid (Lx.zbt s.data.toList=false):=Lx.zmi s h1 F3;go_enter Tryz.func62,Tryz.ntmps62
   go_wp2_with (first | (go_at_call 63;refine (zc5 _ _ _ _).mono ?_;rintro e w' ⟨rfl,rfl⟩) | (go_at_call 117;refine (zet _ _).mono ?_;rintro e w' ⟨rfl,rfl⟩))
   go_ret;exact ⟨ret_bool HN.out.symm,rfl⟩
def zwj:ByteArray:=⟨#[123,125,40,41,91,93,44,59,61,46,43,45,42,47,37,60,33,38,124]⟩
theorem zo6 (s:ByteArray) (a:Nat) (w:World) (hs:s.size<=maxLen) (ha:a<s.size) :
 qc 193 #[.string s,qi a] w fun e w'=>e = .returned (qi ((a+Lx.pieceN s a:Nat):Int))/\w'=w:=by
 unfold maxLen at hs
 by_cases DF:Lx.zdk s[a]=true
 . have Ci : ∀ w:World,qc 193 #[.string s,qi a] w fun e w'=>e = .returned (qi ((a+Lx.pieceN s a:Nat):Int))/\w'=w:=by
    intro w
    have H1:Hid (((s.data.toList.drop a).take 1).all Lx.zdk=true):=by
     show ((s.data.toList.drop a).take 1).all Lx.zdk=true
     rw [Lx.z33 s a ha];exact DF
    have H2:Hid (Lx.zh1 s[a]=true\/Lx.zh1 s[a]=false/\Lx.zhu s[a]=true):=by
     show Lx.zh1 s[a]=true\/Lx.zh1 s[a]=false/\Lx.zhu s[a]=true;unfold Lx.zdk at DF
     cases h:Lx.zh1 s[a] with
     | true=>exact Or.inl rfl
     | false=>rw [h] at DF;exact Or.inr ⟨rfl,by simpa using DF⟩
    clear DF
    rcases H2.out with hl | ⟨hl,hd⟩
    all_goals
     go_enter Tryz.func193,Tryz.ntmps193
     go_wp2_with (first | (go_at_call 248;refine (zbg _ _).mono ?_;rintro e w' ⟨rfl,rfl⟩) | (go_at_call 249;refine (zbq _ _).mono ?_;rintro e w' ⟨rfl,rfl⟩))
     go_loop [5] (fun i=>∃ k:Nat,0<k/\a+k<=s.size/\i=qi ((a+k:Nat):Int)/\((s.data.toList.drop a).take k).all Lx.zdk=true) (fun i=>s.size - (intOf i).toNat)
     case atStart=>exact ⟨1,by omega,by omega,by go_num,H1.out⟩
     case round=>
      obtain ⟨k,GG,hk,rfl,A6⟩:=hrel;have HA:Hid (((s.data.toList.drop a).take k).all Lx.zdk=true):=A6;clear A6 hl H2
      try clear hd
      by_cases A0:a+k<s.size
      . have HS:Hid (((s.data.toList.drop a).take (k+1)).all Lx.zdk=(((s.data.toList.drop a).take k).all Lx.zdk&&Lx.zdk s[a+k])):=Lx.ztf s a k A0
        by_cases hc:Lx.zh1 s[a+k]=true
        . go_wp2_with (first | (go_at_call 248;refine (zbg _ _).mono ?_;rintro e w' ⟨rfl,rfl⟩) | (go_at_call 249;refine (zbq _ _).mono ?_;rintro e w' ⟨rfl,rfl⟩))
          go_round
          case rel=>exact ⟨k+1,by omega,by omega,by go_num,by rw [HS.out,HA.out];simp [Lx.zdk,hc]⟩
          case measure=>simp [intOf];omega
        . have Io:Lx.zh1 s[a+k]=false:=by simpa using hc
          clear hc
          by_cases hd:Lx.zhu s[a+k]=true
          . go_wp2_with (first | (go_at_call 248;refine (zbg _ _).mono ?_;rintro e w' ⟨rfl,rfl⟩) | (go_at_call 249;refine (zbq _ _).mono ?_;rintro e w' ⟨rfl,rfl⟩))
            go_round
            case rel=>exact ⟨k+1,by omega,by omega,by go_num,by rw [HS.out,HA.out];simp [Lx.zdk,hd]⟩
            case measure=>simp [intOf];omega
          . have EI:Lx.zhu s[a+k]=false:=by simpa using hd
            clear hd;have HF:Hid (Lx.pieceN s a=k):=Lx.zpr s a k GG (Lx.zpp s a k HA.out A0 (by simp [Lx.zdk,Io,EI]))
            go_wp2_with (first | (go_at_call 248;refine (zbg _ _).mono ?_;rintro e w' ⟨rfl,rfl⟩) | (go_at_call 249;refine (zbq _ _).mono ?_;rintro e w' ⟨rfl,rfl⟩))
            go_ret;exact ⟨ret_int (by rw [HF.out]<;>omega),rfl⟩
      . have HF:Hid (Lx.pieceN s a=k):=Lx.zpr s a k GG (Lx.z0o s a k HA.out (by omega))
        go_wp2_with fail;go_ret;exact ⟨ret_int (by rw [HF.out]<;>omega),rfl⟩
   exact Ci w
 . have D0:Lx.zdk s[a]=false:=by simpa using DF
   have HF:Hid (Lx.pieceN s a=1):=Lx.zpq s a ha D0
   have hl:Lx.zh1 s[a]=false:=by unfold Lx.zdk at D0;simp at D0;exact D0.1
   have hd:Lx.zhu s[a]=false:=by unfold Lx.zdk at D0;simp at D0;exact D0.2
   clear DF D0;go_enter Tryz.func193,Tryz.ntmps193
   go_wp2_with (first | (go_at_call 248;refine (zbg _ _).mono ?_;rintro e w' ⟨rfl,rfl⟩) | (go_at_call 249;refine (zbq _ _).mono ?_;rintro e w' ⟨rfl,rfl⟩))
   go_ret;exact ⟨ret_int (by rw [HF.out]<;>omega),rfl⟩
end Go.Proofs.YtndkhgakfodldaaGreatDoor
