import Derived.Test.YtndkhgakfodldaaGreatDoorProg
import Derived.Test.YtndkhgakfodldaaGreatDoorPure
import Derived.WalkSpells
import Derived.WalkLawsBesides
set_option maxRecDepth 100000
set_option maxHeartbeats 400000
open Go.Proofs.Tryz
namespace Go.Proofs.YtndkhgakfodldaaGreatDoor
open Go.RowKit
abbrev fU:=@Go.Lib.cell_of_heap
abbrev ih:=@Go.Lib.frozen_of_heap
abbrev hO:=@Go.AllReady.cons
abbrev ko:=@Go.World.ownsRow_nil
abbrev md:=@Go.World.cell?_of_block
abbrev jz:=@Go.AllReady.nil
abbrev r1:=@Go.World.ownsMap_made
abbrev vN:=@Go.World.frozen?_of_block
abbrev vO:=@Go.World.grownBy_alloc
abbrev vP:=@Go.World.drewN_drewN
abbrev em (n:Int):Value:=.int .i64 n
abbrev eu:Value:=.slice none 0 0
abbrev ep (b i:Nat):Addr:=⟨b,i,none⟩
abbrev eL (b i:Nat):Value:=.pointer (some ⟨b,i,none⟩)
abbrev ew:=Calls prog
abbrev et (a b:World):Prop:=Below a.heap.size a b
abbrev fV (a:Int) (b:Int) (c:Int) (d:Int) (e:OA) (f g:Nat) (h:OA) (i j:Nat) (k:OA) (l m:Nat):Obj:=.cells #[.int .i64 a,.int .i64 b,.int .i64 c,.int .i64 d,.slice e f g,.slice h i j,.slice k l m] 109
abbrev jA (a:Int) (b:ByteArray) (c:ByteArray) (d:OA) (e f:Nat) (g:OA) (h i:Nat) (j:OA) (k l:Nat):Obj:=.cells #[.int .i64 a,.string b,.string c,.slice d e f,.slice g h i,.slice j k l] 176
abbrev g5 (a:ByteArray) (b:OA) (c d:Nat) (e:Int) (f:OA) (g h:Nat) (i:OA) (j k:Nat):Obj:=.cells #[.string a,.slice b c d,.int .i64 e,.slice f g h,.slice i j k] 42
abbrev hE (a:ByteArray) (b:OA) (c d:Nat) (e:Int) (f:OA) (g h:Nat) (i:OA) (j k:Nat) (l:OA) (m n:Nat) (o:Int):Obj:=.cells #[.string a,.slice b c d,.int .i64 e,.slice f g h,.slice i j k,.slice l m n,.int .i64 o] 62
abbrev i1 (a:Int) (b:Int) (c:ByteArray) (d:ByteArray) (e:OA) (f g:Nat):Obj:=.cells #[.int .i64 a,.int .i64 b,.string c,.string d,.slice e f g] 174
abbrev i6 (a:Int) (b:Int) (c:Int) (d:Int) (e:OA) (f g:Nat):Obj:=.cells #[.int .i64 a,.int .i64 b,.int .i64 c,.int .i64 d,.slice e f g] 253
abbrev jB (a:ByteArray) (b:OA) (c d:Nat) (e:OA) (f g:Nat) (h:OA) (i j:Nat) (k:OA) (l m:Nat):Obj:=.cells #[.string a,.slice b c d,.slice e f g,.slice h i j,.slice k l m] 27
abbrev iG (a:Int) (b:ByteArray) (c:Bool) (d:Int):Obj:=.cells #[.int .i64 a,.string b,.bool c,.int .i64 d] 170
abbrev kq (a:Int) (b:Int) (c:Int) (d:ByteArray):Obj:=.cells #[.int .i64 a,.int .i64 b,.int .i64 c,.string d] 98
abbrev iy (a:Int) (b:Int) (c:Int) (d:Int):Obj:=.cells #[.int .i64 a,.int .i64 b,.int .i64 c,.int .i64 d] 242
abbrev me (a:ByteArray) (b:Bool) (c:OA) (d e:Nat) (f:OA) (g h:Nat) (i:OA) (j k:Nat):Obj:=.cells #[.string a,.bool b,.slice c d e,.slice f g h,.slice i j k] 118
abbrev mg (a:Int) (b:Int) (c:OA) (d e:Nat):Obj:=.cells #[.int .i64 a,.int .i64 b,.slice c d e] 106
theorem ret_bool {a b:Bool} (h:a=b):Ending.returned (.bool a) = .returned (.bool b):=by rw [h]
theorem ret_int {k:IntKind} {a b:Int} (h:a=b):Ending.returned (.int k a) = .returned (.int k b):=by rw [h]
theorem nE (c:UInt8) (w:World) :
 Calls prog 248 #[.int .u8 c.toNat] w fun e r=>e = .returned (.bool (Lx.zjd c))/\r=w:=by
 go_enter func248,ntmps248
 go_wp2
 all_goals go_ret
 . exact ⟨ret_bool (by simp [Lx.zjd, *]),rfl⟩
 . exact ⟨ret_bool (by simp [Lx.zjd];omega),rfl⟩
theorem r2 (c:UInt8) (w:World) :
 Calls prog 117 #[.int .u8 c.toNat] w fun e r=>e = .returned (.bool (Lx.zjd c))/\r=w:=by
 go_enter func117,ntmps117
 go_wp2
 all_goals go_ret
 . exact ⟨ret_bool (by simp [Lx.zjd, *]),rfl⟩
 . exact ⟨ret_bool (by simp [Lx.zjd];omega),rfl⟩
theorem nZ (c:UInt8) (w:World) :
 Calls prog 249 #[.int .u8 c.toNat] w fun e r=>e = .returned (.bool (Lx.zi7 c))/\r=w:=by
 go_enter func249,ntmps249
 go_wp2
 all_goals go_ret
 . exact ⟨ret_bool (by simp [Lx.zi7, *]),rfl⟩
 . exact ⟨ret_bool (by simp [Lx.zi7];omega),rfl⟩
theorem za (c:UInt8) (w:World) :
 Calls prog 118 #[.int .u8 c.toNat] w fun e r=>e = .returned (.bool (Lx.zi7 c))/\r=w:=by
 go_enter func118,ntmps118
 go_wp2
 all_goals go_ret
 . exact ⟨ret_bool (by simp [Lx.zi7, *]),rfl⟩
 . exact ⟨ret_bool (by simp [Lx.zi7];omega),rfl⟩
theorem p4 (n K X:Int) (w:World) :
 Calls prog 63 #[.int .i64 n,.int .i64 K,.int .i64 X] w fun e r=>e = .returned (.bool (decide (K<=n)&&decide (n<=X)))/\r=w:=by
 go_enter func63,ntmps63
 go_wp2
 all_goals go_ret
 . exact ⟨ret_bool (by simp [*]),rfl⟩
 . exact ⟨ret_bool (by simp;omega),rfl⟩
theorem r3 (s:ByteArray) (w:World) (Z:s.size<=maxLen) :
 Calls prog 202 #[.string s] w fun e r=>e = .returned (.bool (Lx.zbw s.data.toList))/\r=w:=by
 unfold maxLen at Z
 by_cases a3:s.size=0
 . have B:s=⟨#[]⟩:=w8 (Array.eq_empty_of_size_eq_zero a3)
   have aF:Hid (Lx.zbw s.data.toList=false):=Lx.zlq s a3;subst B;clear a3;go_enter func202,ntmps202;go_wp2_with fail;go_ret;exact ⟨ret_bool aF.symm,rfl⟩
 have G:0<s.size:=by omega
 have aV:s.toList.isEmpty=false:=Lx.z25 s G;clear a3
 by_cases q:8<s.size
 . have aF:Hid (Lx.zbw s.data.toList=false):=Lx.zn0 s q
   go_enter func202,ntmps202;go_wp2_with fail;go_ret;exact ⟨ret_bool aF.symm,rfl⟩
 by_cases a2:Lx.zjd s[0]=true
 . have aF:Hid (Lx.zbw s.data.toList=s.data.toList.all Lx.zea):=Lx.zn2 s G (by omega) a2
   go_enter func202,ntmps202
   go_wp2_with (go_at_call 248;refine (nE _ _).mono ?_;rintro e r ⟨rfl,rfl⟩)
   go_loop [19,3] (fun i _=>∃ k:Nat,k<=s.size/\i = .int .i64 k/\(s.data.toList.take k).all Lx.zea=true) (fun i _=>s.size - (intOf i).toNat)
   case atStart=>exact ⟨0,eY _,rfl,rfl⟩
   case round=>
    obtain ⟨k,N,rfl,aO⟩:=hrel;have ar:Hid ((s.data.toList.take k).all Lx.zea=true):=aO;clear aO
    by_cases a0:k<s.size
    . have b6:=Lx.zf1 s k a0 Lx.zea
      have aJ:Hid ((s.data.toList.take (k+1)).all Lx.zea=((s.data.toList.take k).all Lx.zea&&Lx.zea s[k])):=b6;clear b6
      by_cases a1:Lx.zjd s[k]=true
      . go_wp2_with (go_at_call 248;refine (nE _ _).mono ?_;rintro e r ⟨rfl,rfl⟩)
        go_round
        case rel=>exact ⟨k+1,by omega,by go_num,by rw [aJ.out,ar.out];simp [Lx.zea,a1]⟩
        case measure=>simp [intOf];omega
      . have g:Lx.zjd s[k]=false:=by simpa using a1
        clear a1
        by_cases ez:Lx.zi7 s[k]=true
        . go_wp2_with (first | (go_at_call 248;refine (nE _ _).mono ?_;rintro e r ⟨rfl,rfl⟩) | (go_at_call 249;refine (nZ _ _).mono ?_;rintro e r ⟨rfl,rfl⟩))
          go_round
          case rel=>exact ⟨k+1,by omega,by go_num,by rw [aJ.out,ar.out];simp [Lx.zea,ez]⟩
          case measure=>simp [intOf];omega
        . have c:Lx.zi7 s[k]=false:=by simpa using ez
          clear ez;have p:Hid (s.data.toList.all Lx.zea=false):=Lx.ztj s k a0 _ (by simp [Lx.zea,g,c])
          go_wp2_with (first | (go_at_call 248;refine (nE _ _).mono ?_;rintro e r ⟨rfl,rfl⟩) | (go_at_call 249;refine (nZ _ _).mono ?_;rintro e r ⟨rfl,rfl⟩))
          go_ret;exact ⟨ret_bool (by rw [aF.out,p.out]),rfl⟩
    . obtain rfl:k=s.size:=by omega
      go_wp2
      go_ret;exact ⟨ret_bool (by rw [aF.out,← Lx.zlp,ar.out]),rfl⟩
 . have j:Lx.zjd s[0]=false:=by simpa using a2
   clear a2;have aF:Hid (Lx.zbw s.data.toList=false):=Lx.zn1 s G j;go_enter func202,ntmps202
   go_wp2_with (go_at_call 248;refine (nE _ _).mono ?_;rintro e r ⟨rfl,rfl⟩)
   go_ret;exact ⟨ret_bool aF.symm,rfl⟩
theorem Dm (s:ByteArray) (w:World) (Z:s.size<=maxLen) :
 ew 62 #[.string s] w fun e r=>e = .returned (.bool (Lx.zbw s.data.toList))/\r=w:=by
 unfold maxLen at Z
 by_cases G:¬ (0<s.size/\s.size<=8)
 . have aF:Hid (Lx.zbw s.data.toList=false):=by
    by_cases a3:s.size=0
    . exact Lx.zlq s a3
    . exact Lx.zn0 s (by omega)
   have aq:(decide (1<=(s.size:Int))&&decide ((s.size:Int)<=8))=false:=by simp;omega
   clear G;go_enter func62,ntmps62
   go_wp2_with (go_at_call 63;refine (p4 _ _ _ _).mono ?_;rintro e r ⟨rfl,rfl⟩)
   go_ret;exact ⟨ret_bool aF.symm,rfl⟩
 obtain ⟨G,q⟩:=Classical.not_not.1 G
 have aq:(decide (1<=(s.size:Int))&&decide ((s.size:Int)<=8))=true:=by simp;omega
 by_cases a2:Lx.zjd s[0]=true
 . have aF:Hid (Lx.zbw s.data.toList=s.data.toList.all Lx.zea):=Lx.zn2 s G (by omega) a2
   go_enter func62,ntmps62
   go_wp2_with (first | (go_at_call 63;refine (p4 _ _ _ _).mono ?_;rintro e r ⟨rfl,rfl⟩) | (go_at_call 117;refine (r2 _ _).mono ?_;rintro e r ⟨rfl,rfl⟩))
   go_loop [3] (fun i=>∃ k:Nat,k<=s.size/\i=em k/\(s.data.toList.take k).all Lx.zea=true) (fun i=>s.size - (intOf i).toNat)
   case atStart=>exact ⟨0,eY _,rfl,rfl⟩
   case round=>
    obtain ⟨k,N,rfl,aO⟩:=hrel;have ar:Hid ((s.data.toList.take k).all Lx.zea=true):=aO;clear aO
    by_cases a0:k<s.size
    . have b6:=Lx.zf1 s k a0 Lx.zea
      have aJ:Hid ((s.data.toList.take (k+1)).all Lx.zea=((s.data.toList.take k).all Lx.zea&&Lx.zea s[k])):=b6;clear b6
      by_cases a1:Lx.zjd s[k]=true
      . go_wp2_with (go_at_call 117;refine (r2 _ _).mono ?_;rintro e r ⟨rfl,rfl⟩)
        go_round
        case rel=>exact ⟨k+1,by omega,by go_num,by rw [aJ.out,ar.out];simp [Lx.zea,a1]⟩
        case measure=>simp [intOf];omega
      . have g:Lx.zjd s[k]=false:=by simpa using a1
        clear a1
        by_cases ez:Lx.zi7 s[k]=true
        . go_wp2_with (first | (go_at_call 117;refine (r2 _ _).mono ?_;rintro e r ⟨rfl,rfl⟩) | (go_at_call 118;refine (za _ _).mono ?_;rintro e r ⟨rfl,rfl⟩))
          go_round
          case rel=>exact ⟨k+1,by omega,by go_num,by rw [aJ.out,ar.out];simp [Lx.zea,ez]⟩
          case measure=>simp [intOf];omega
        . have c:Lx.zi7 s[k]=false:=by simpa using ez
          clear ez;have p:Hid (s.data.toList.all Lx.zea=false):=Lx.ztj s k a0 _ (by simp [Lx.zea,g,c])
          go_wp2_with (first | (go_at_call 117;refine (r2 _ _).mono ?_;rintro e r ⟨rfl,rfl⟩) | (go_at_call 118;refine (za _ _).mono ?_;rintro e r ⟨rfl,rfl⟩))
          go_ret;exact ⟨ret_bool (by rw [aF.out,p.out]),rfl⟩
    . obtain rfl:k=s.size:=by omega
      go_wp2
      go_ret;exact ⟨ret_bool (by rw [aF.out,← Lx.zlp,ar.out]),rfl⟩
 . have j:Lx.zjd s[0]=false:=by simpa using a2
   clear a2;have aF:Hid (Lx.zbw s.data.toList=false):=Lx.zn1 s G j;go_enter func62,ntmps62
   go_wp2_with (first | (go_at_call 63;refine (p4 _ _ _ _).mono ?_;rintro e r ⟨rfl,rfl⟩) | (go_at_call 117;refine (r2 _ _).mono ?_;rintro e r ⟨rfl,rfl⟩))
   go_ret;exact ⟨ret_bool aF.symm,rfl⟩
def zc:ByteArray:=⟨#[123,125,40,41,91,93,44,59,61,46,43,45,42,47,37,60,33,38,124]⟩
theorem Dn (s:ByteArray) (a:Nat) (w:World) (Z:s.size<=maxLen) (ab:a<s.size) :
 ew 193 #[.string s,em a] w fun e r=>e = .returned (em ((a+Lx.pieceN s a:Nat):Int))/\r=w:=by
 unfold maxLen at Z
 by_cases ak:Lx.zea s[a]=true
 . have b : ∀ w:World,ew 193 #[.string s,em a] w fun e r=>e = .returned (em ((a+Lx.pieceN s a:Nat):Int))/\r=w:=by
    intro w
    have aP:Hid (((s.data.toList.drop a).take 1).all Lx.zea=true):=by
     show ((s.data.toList.drop a).take 1).all Lx.zea=true
     rw [Lx.z6l s a ab];exact ak
    have ac:Hid (Lx.zjd s[a]=true\/Lx.zjd s[a]=false/\Lx.zi7 s[a]=true):=by
     show Lx.zjd s[a]=true\/Lx.zjd s[a]=false/\Lx.zi7 s[a]=true;unfold Lx.zea at ak
     cases h:Lx.zjd s[a] with
     | true=>exact Or.inl rfl
     | false=>rw [h] at ak;exact Or.inr ⟨rfl,by simpa using ak⟩
    clear ak
    rcases ac.out with a2 | ⟨a2,ez⟩
    all_goals
     go_enter func193,ntmps193
     go_wp2_with (first | (go_at_call 248;refine (nE _ _).mono ?_;rintro e r ⟨rfl,rfl⟩) | (go_at_call 249;refine (nZ _ _).mono ?_;rintro e r ⟨rfl,rfl⟩))
     go_loop [5] (fun i=>∃ k:Nat,0<k/\a+k<=s.size/\i=em ((a+k:Nat):Int)/\((s.data.toList.drop a).take k).all Lx.zea=true) (fun i=>s.size - (intOf i).toNat)
     case atStart=>exact ⟨1,by omega,by omega,by go_num,aP⟩
     case round=>
      obtain ⟨k,l,N,rfl,aO⟩:=hrel;have ar:Hid (((s.data.toList.drop a).take k).all Lx.zea=true):=aO;clear aO a2 ac
      try clear ez
      by_cases a0:a+k<s.size
      . have aJ:Hid (((s.data.toList.drop a).take (k+1)).all Lx.zea=(((s.data.toList.drop a).take k).all Lx.zea&&Lx.zea s[a+k])):=Lx.zvg s a k a0
        by_cases a1:Lx.zjd s[a+k]=true
        . go_wp2_with (first | (go_at_call 248;refine (nE _ _).mono ?_;rintro e r ⟨rfl,rfl⟩) | (go_at_call 249;refine (nZ _ _).mono ?_;rintro e r ⟨rfl,rfl⟩))
          go_round
          case rel=>exact ⟨k+1,by omega,by omega,by go_num,by rw [aJ.out,ar.out];simp [Lx.zea,a1]⟩
          case measure=>simp [intOf];omega
        . have g:Lx.zjd s[a+k]=false:=by simpa using a1
          clear a1
          by_cases ez:Lx.zi7 s[a+k]=true
          . go_wp2_with (first | (go_at_call 248;refine (nE _ _).mono ?_;rintro e r ⟨rfl,rfl⟩) | (go_at_call 249;refine (nZ _ _).mono ?_;rintro e r ⟨rfl,rfl⟩))
            go_round
            case rel=>exact ⟨k+1,by omega,by omega,by go_num,by rw [aJ.out,ar.out];simp [Lx.zea,ez]⟩
            case measure=>simp [intOf];omega
          . have c:Lx.zi7 s[a+k]=false:=by simpa using ez
            clear ez;have p:Hid (Lx.pieceN s a=k):=Lx.zrd s a k l (Lx.zrb s a k ar a0 (by simp [Lx.zea,g,c]))
            go_wp2_with (first | (go_at_call 248;refine (nE _ _).mono ?_;rintro e r ⟨rfl,rfl⟩) | (go_at_call 249;refine (nZ _ _).mono ?_;rintro e r ⟨rfl,rfl⟩))
            go_ret;exact ⟨ret_int (by rw [p.out]<;>omega),rfl⟩
      . have p:Hid (Lx.pieceN s a=k):=Lx.zrd s a k l (Lx.z26 s a k ar (by omega))
        go_wp2_with fail;go_ret;exact ⟨ret_int (by rw [p.out]<;>omega),rfl⟩
   exact b w
 . have d:Lx.zea s[a]=false:=by simpa using ak
   have p:Hid (Lx.pieceN s a=1):=Lx.zrc s a ab d
   have a2:Lx.zjd s[a]=false:=by unfold Lx.zea at d;simp at d;exact d.1
   have ez:Lx.zi7 s[a]=false:=by unfold Lx.zea at d;simp at d;exact d.2
   clear ak d;go_enter func193,ntmps193
   go_wp2_with (first | (go_at_call 248;refine (nE _ _).mono ?_;rintro e r ⟨rfl,rfl⟩) | (go_at_call 249;refine (nZ _ _).mono ?_;rintro e r ⟨rfl,rfl⟩))
   go_ret;exact ⟨ret_int (by rw [p.out]<;>omega),rfl⟩
end Go.Proofs.YtndkhgakfodldaaGreatDoor
