import Derived.Test.YtndkhgakfodldaaGreatDoorProg
import Derived.Test.YtndkhgakfodldaaGreatDoorPure
import Derived.WalkSpells
import Derived.WalkLawsBesides
set_option maxRecDepth 100000
set_option maxHeartbeats 400000
open Go.Proofs.Tryz
namespace Go.Proofs.YtndkhgakfodldaaGreatDoor
open Go.RowKit
theorem Ou{P:Prop}(h:P:=by go_num):P:=h
theorem Qo{P:Prop}(h:P:=by
 go_wp2_with fail;go_ret;exact ⟨ret_bool z.symm,et _ _ _⟩):P:=h
theorem Qt{P:Prop}(h:P:=by
 go_wp2_with fail
 go_ret;exact ⟨ret_bool Oe,ag⟩):P:=h
theorem Qu{P:Prop}(h:P:=by
 go_wp2_with fail;go_ret;exact ⟨ret_bool z.symm,B⟩):P:=h
theorem Qx{P:Prop}(h:P:=by
 have br:Hid (ij c.parts i k=decide (c.parts[i].params=k)):=O3
 obtain ⟨bb,bF,_,_,_,_,_⟩:=S
 have t:(i:Int)<c.parts.length:=N7
 have bw:b<w.heap.size+1:=by simpa using bb
 generalize c.parts[i].params=R at *
 by_cases b6:R=k
 . have n:Hid (f6 c 0 i k=true):=by show _=_;rw [z.out,br.out,decide_eq_true b6]
   subst b6;go_enter func212,ntmps212;go_wp2_with fail;go_ret;exact ⟨ret_bool n.symm,dn _ _⟩
 . have n:Hid (f6 c 0 i k=false):=by show _=_;rw [z.out,br.out,decide_eq_false b6]
   go_enter func212,ntmps212;go_wp2_with fail;go_ret;exact ⟨ret_bool Oz,dn _ _⟩):P:=h
theorem Qz{P:Prop}(h:P:=by
 go_wp2_with fail;go_ret;exact ⟨ret_bool z.symm,dn _ _⟩):P:=h
theorem QC{P:Prop}(h:P:=by
 clear P;go_enter func256,ntmps256;go_wp2_with fail;refine (x9 f g.kind b q _ (y.later (ag _ _ _)) X).mono ?_;rintro e G ⟨rfl,rfl⟩
 cases W:f.contains g.kind with
 | false=>
   have z:Hid (r=(gI,7)):=br.trans Qk;clear W;go_wp2_with fail;refine bodyPost_ret (v:=.tuple #[gI.val,di 7]) OC rfl ⟨Pv,ag _ _ _⟩
 | true=>
   have z:Hid (r=(⟨g.kind,g.n,g.m,g.at_⟩,0)):=br.trans Qk;clear W;go_wp2_with fail;refine bodyPost_ret (v:=.tuple #[.agg #[di g.kind,di g.n,di g.m,di g.at_],di 0]) OC rfl ⟨OL,ag _ _ _⟩):P:=h
theorem QE{P:Prop}(h:P:=by
 go_enter func61,ntmps61;go_wp2_with fail;refine (aV _).mono ?_;rintro e G ⟨rfl,I⟩;have ag:=hid (mY I);clear I;go_wp2_with fail;go_ret;exact ⟨ret_bool z,ag⟩):P:=h
theorem QM{P:Prop}(h:P:=by
 have D:g≠0:=N7
 clear b8;go_enter func169,ntmps169;go_wp2_with fail;go_ret;exact ⟨ret_bool Om,et _ _ _⟩):P:=h
theorem QN{P:Prop}(h:P:=by
 go_wp2_with fail
 all_goals go_ret
 all_goals exact ⟨ret_bool PE,(Below.refl _ _).alloc (dA _) _⟩):P:=h
theorem QV{P:Prop}(h:P:=by
 have b:(a5 == 0)=false:=beq_eq_false_iff_ne.2 q
 have z:Hid (Tk.okB ⟨s,a5,a⟩=false):=by show Tk.okB _=_;rw [aM.out,decide_eq_false q,xA]
 clear q;go_enter func160,ntmps160;go_wp2_with fail;go_ret;exact ⟨ret_bool z.symm,(Below.refl _ _).alloc (dA _) _⟩):P:=h
theorem QW{P:Prop}(h:P:=by
 go_wp2_with fail;go_ret;exact ⟨ret_bool Oo,dp ag (dn _ _)⟩):P:=h
theorem Q6{P:Prop}(h:P:=by
 go_enter func212,ntmps212;go_wp2_with fail;go_ret;exact ⟨ret_bool n.symm,dn _ _⟩):P:=h
theorem Q8{P:Prop}(h:P:=by
 clear bd D;go_wp2_with fail;refine bodyPost_ret (v:=.tuple #[.agg #[dt,di 0],di 2]) Ps rfl ⟨by rw [bh.out];exact ⟨rfl,N9⟩,?_⟩;exact (R.setCell (p:=(dj w.heap.size 0)) (dA _) _).setCell (p:=(dj w.heap.size 1)) (dA _) _):P:=h
theorem Q9{P:Prop}(h:P:=by
 go_wp2_with (first | (go_at_call 248;refine (np _ _).mono ?_;rintro e G ⟨rfl,rfl⟩) | (go_at_call 249;refine (oi _ _).mono ?_;rintro e G ⟨rfl,rfl⟩))
 go_ret;exact ⟨ret_int (by rw [aD.out]<;>omega),rfl⟩):P:=h
theorem Ra{P:Prop}(h:P:=by
 go_enter func81,ntmps81;go_wp2_with fail;go_ret;exact ⟨ret_bool Ow,dn _ _⟩):P:=h
theorem Rb{P:Prop}(h:P:=by
 go_wp2_with fail
 go_ret;exact ⟨rfl,I⟩):P:=h
theorem Rf{P:Prop}(h:P:=by
 go_wp2_with fail;go_ret;exact ⟨ret_bool z.symm,ag⟩):P:=h
theorem Rn{P:Prop}(h:P:=by
 go_wp2_with fail;refine bodyPost_ret (v:=.agg #[di o.op,.string o.mod,.string o.name,.slice E o.args.length ah,.slice a0 o.body.length ae,.slice a6 o.other.length c3]) Pd rfl aD):P:=h
theorem Rq{P:Prop}(h:P:=by
 go_enter func330,ntmps330;go_wp2_with fail;go_ret;exact ⟨ret_bool n.symm,Below.refl _ _⟩):P:=h
theorem RE{P:Prop}(h:P:=by
 go_wp2_with fail;refine bodyPost_ret (v:=.tuple #[.agg #[di 0,dt,dt,di 0],di 3]) OY rfl ⟨?_,_,Pv,b6 _ (by rw [z.out];decide)⟩;exact sA B (dA _) _ _ _ _):P:=h
theorem RG{P:Prop}(h:P:=by
 go_enter func269,ntmps269;go_wp2_with fail;go_ret;exact ⟨ret_int z.symm,rfl⟩):P:=h
theorem RJ{P:Prop}(h:P:=by
 go_wp2_with fail;go_ret;exact ⟨rfl,rfl⟩):P:=h
theorem RK{P:Prop}(h:P:=by
 go_wp2_with fail;refine (bK _).mono ?_;rintro e dC ⟨rfl,T⟩;have t:=hid (dp O (dp (dn _ _) T));clear T;go_wp2_with fail;go_ret;exact ⟨rfl,t⟩):P:=h
theorem RR{P:Prop}(h:P:=by
 obtain rfl:j=l.length:=by omega
 have aM:Hid (r=true):=z.trans (iN.2 aR);go_wp2_with fail;go_ret;exact ⟨ret_bool aM.symm,ag⟩):P:=h
theorem RV{P:Prop}(h:P:=by
 rintro e dC ⟨rfl,T⟩;have t:=hid (dp (et w _ _) T);clear T;go_wp2_with fail;go_ret;exact ⟨ret_bool (by rw [z.out,F];rfl),t⟩):P:=h
theorem RY{P:Prop}(h:P:=by
 go_enter func242,ntmps242;go_wp2_with fail;go_ret;exact ⟨ret_bool (by rw [z.out,a1];rfl),(Below.refl _ _).alloc (dA _) _⟩):P:=h
theorem RZ{P:Prop}(h:P:=by
 go_ret;exact ⟨ret_bool z.symm,(Below.refl _ _).alloc (dA _) _⟩):P:=h
theorem R0{P:Prop}(h:P:=by
 clear P;go_enter func256,ntmps256;go_wp2_with fail;refine bodyPost_ret (v:=.tuple #[gI.val,di 5]) OC rfl ⟨rfl,ag _ _ _⟩):P:=h
theorem R9{P:Prop}(h:P:=by
 go_wp2_with fail;go_ret;exact ⟨ret_bool aV.symm,rfl⟩):P:=h
theorem Sd{P:Prop}(h:P:=by
 go_wp2_with fail;go_ret;exact ⟨ret_bool Ox,dn _ _⟩):P:=h
theorem Sf{P:Prop}(h:P:=by
 clear aG f J;go_enter func147,ntmps147;go_wp2_with fail;go_ret;exact ⟨ret_int bh.symm,dn _ _⟩):P:=h
theorem So{P:Prop}(h:P:=by
 go_enter func24,ntmps24;go_wp2_with fail;go_ret;exact ⟨ret_int z.symm,Below.refl _ _⟩):P:=h
theorem Ss{P:Prop}(h:P:=by
 go_wp2_with fail;go_ret;exact ⟨aP.trans i,Or.inr ⟨H,L.tail,_,A,rfl,aM.slice,b3⟩⟩):P:=h
theorem Su{P:Prop}(h:P:=by
 go_wp2_with fail;go_ret;exact ⟨ret_bool aD.symm,bJ.alloc (by have:=bJ.size;omega) _⟩):P:=h
theorem Sy{P:Prop}(h:P:=by
 go_enter func171,ntmps171;go_wp2_with fail;go_ret;exact ⟨ret_bool n.symm,et _ _ _⟩):P:=h
theorem Sz{P:Prop}(h:P:=by
 go_ret;exact ⟨ret_bool z.symm,((Below.refl _ _).alloc (dA _) _).trans (I.mono Ob)⟩):P:=h
theorem SB{P:Prop}(h:P:=by
 go_wp2_with fail;go_ret;exact ⟨rfl,dn _ _⟩):P:=h
theorem SF{P:Prop}(h:P:=by
 go_enter func267,ntmps267;go_wp2_with fail;go_ret;exact ⟨ret_bool z.symm,rfl⟩):P:=h
theorem SG{P:Prop}(h:P:=by
 go_ret;exact ⟨ret_bool OL,O⟩):P:=h
theorem SX{P:Prop}(h:P:=by
 go_wp2_with fail;go_ret;exact ⟨ret_int aD.symm,I.alloc I.size _⟩):P:=h
theorem SY{P:Prop}(h:P:=by
 clear V aY;go_wp2_with fail;go_ret;exact ⟨ret_int b3.symm,bu⟩):P:=h
theorem S3{P:Prop}(h:P:=by
 clear bc b;go_wp2_with fail;go_ret;exact ⟨ret_int z.symm,X⟩):P:=h
theorem S5{P:Prop}(h:P:=by
 go_wp2_with fail;exact ⟨rfl,W.alloc _,Or.inl ⟨aV,rfl⟩⟩):P:=h
abbrev eZ:=@Go.Lib.cell_of_heap
abbrev hD:=@Go.Lib.frozen_of_heap
abbrev jU:=@Go.World.ownsRow_nil
abbrev lY:=@Go.World.cell?_of_block
abbrev nk:=@Go.AllReady.cons
abbrev rt:=@Go.World.ownsMap_made
abbrev qj:=@Go.AllReady.nil
abbrev wG:=@Go.World.frozen?_of_block
abbrev wH:=@Go.World.grownBy_alloc
abbrev di (n:Int):Value:=.int .i64 n
abbrev dt:Value:=.slice none 0 0
abbrev dj (b i:Nat):Addr:=⟨b,i,none⟩
abbrev dF (b i:Nat):Value:=.pointer (some ⟨b,i,none⟩)
abbrev dw:=Calls prog
abbrev dm (a b:World):Prop:=Below a.heap.size a b
abbrev ek (a:Int) (b:Int) (c:Int) (d:Int) (e:OA) (f g:Nat) (h:OA) (i j:Nat) (k:OA) (l m:Nat):Obj:=.cells #[.int .i64 a,.int .i64 b,.int .i64 c,.int .i64 d,.slice e f g,.slice h i j,.slice k l m] 109
abbrev jz (a:Int) (b:ByteArray) (c:ByteArray) (d:OA) (e f:Nat) (g:OA) (h i:Nat) (j:OA) (k l:Nat):Obj:=.cells #[.int .i64 a,.string b,.string c,.slice d e f,.slice g h i,.slice j k l] 176
abbrev fF (a:ByteArray) (b:OA) (c d:Nat) (e:Int) (f:OA) (g h:Nat) (i:OA) (j k:Nat):Obj:=.cells #[.string a,.slice b c d,.int .i64 e,.slice f g h,.slice i j k] 42
abbrev iP (a:ByteArray) (b:OA) (c d:Nat) (e:Int) (f:OA) (g h:Nat) (i:OA) (j k:Nat) (l:OA) (m n:Nat) (o:Int):Obj:=.cells #[.string a,.slice b c d,.int .i64 e,.slice f g h,.slice i j k,.slice l m n,.int .i64 o] 62
abbrev kC (a:Int) (b:Int) (c:ByteArray) (d:ByteArray) (e:OA) (f g:Nat):Obj:=.cells #[.int .i64 a,.int .i64 b,.string c,.string d,.slice e f g] 174
abbrev fg (a:Int) (b:Int) (c:Int) (d:Int) (e:OA) (f g:Nat):Obj:=.cells #[.int .i64 a,.int .i64 b,.int .i64 c,.int .i64 d,.slice e f g] 253
abbrev jl (a:ByteArray) (b:OA) (c d:Nat) (e:OA) (f g:Nat) (h:OA) (i j:Nat) (k:OA) (l m:Nat):Obj:=.cells #[.string a,.slice b c d,.slice e f g,.slice h i j,.slice k l m] 27
abbrev ip (a:Int) (b:ByteArray) (c:Bool) (d:Int):Obj:=.cells #[.int .i64 a,.string b,.bool c,.int .i64 d] 170
abbrev kd (a:Int) (b:Int) (c:Int) (d:ByteArray):Obj:=.cells #[.int .i64 a,.int .i64 b,.int .i64 c,.string d] 98
abbrev h9 (a:Int) (b:Int) (c:Int) (d:Int):Obj:=.cells #[.int .i64 a,.int .i64 b,.int .i64 c,.int .i64 d] 242
abbrev mI (a:ByteArray) (b:Bool) (c:OA) (d e:Nat) (f:OA) (g h:Nat) (i:OA) (j k:Nat):Obj:=.cells #[.string a,.bool b,.slice c d e,.slice f g h,.slice i j k] 118
abbrev jA (a:Int) (b:Int) (c:OA) (d e:Nat):Obj:=.cells #[.int .i64 a,.int .i64 b,.slice c d e] 106
theorem ret_bool {a b:Bool} (h:a=b):Ending.returned (.bool a) = .returned (.bool b):=by rw [h]
theorem ret_int {k:IntKind} {a b:Int} (h:a=b):Ending.returned (.int k a) = .returned (.int k b):=by rw [h]
theorem np (c:UInt8) (w:World) :
 Calls prog 248 #[.int .u8 c.toNat] w fun e G=>e = .returned (.bool (Lx.zob c))/\G=w:=by
 go_enter func248,ntmps248
 go_wp2
 all_goals go_ret
 . exact ⟨ret_bool (by simp [Lx.zob, *]),rfl⟩
 . exact ⟨ret_bool (by simp [Lx.zob];omega),rfl⟩
theorem oi (c:UInt8) (w:World) :
 Calls prog 249 #[.int .u8 c.toNat] w fun e G=>e = .returned (.bool (Lx.zlj c))/\G=w:=by
 go_enter func249,ntmps249
 go_wp2
 all_goals go_ret
 . exact ⟨ret_bool (by simp [Lx.zlj, *]),rfl⟩
 . exact ⟨ret_bool (by simp [Lx.zlj];omega),rfl⟩
theorem sK (s:ByteArray) (w:World) (a8:s.size<=maxLen) :
 Calls prog 202 #[.string s] w fun e G=>e = .returned (.bool (Lx.zck s.data.toList))/\G=w:=by
 unfold maxLen at a8
 by_cases ab:s.size=0
 . have aG:s=⟨#[]⟩:=ByteArray.ext (Array.eq_empty_of_size_eq_zero ab)
   have aV:Hid (Lx.zck s.data.toList=false):=Lx.zuw s ab;subst aG;clear ab;go_enter func202,ntmps202;exact R9
 have F:0<s.size:=N7
 have aX:s.toList.isEmpty=false:=Lx.z5k s F;clear ab
 by_cases p:8<s.size
 . have aV:Hid (Lx.zck s.data.toList=false):=Lx.zyi s p
   go_enter func202,ntmps202;exact R9
 by_cases X:Lx.zob s[0]=true
 . have aV:Hid (Lx.zck s.data.toList=s.data.toList.all Lx.ze8):=Lx.zyk s F N7 X
   go_enter func202,ntmps202
   go_wp2_with (go_at_call 248;refine (np _ _).mono ?_;rintro e G ⟨rfl,rfl⟩)
   go_loop [19,3] (fun i _=>∃ k:Nat,k<=s.size/\i = .int .i64 k/\(s.data.toList.take k).all Lx.ze8=true) (fun i _=>s.size - (intOf i).toNat)
   case atStart=>exact ⟨0,dY _,rfl,rfl⟩
   case round=>
    obtain ⟨k,N,rfl,aS⟩:=hrel;have aR:Hid ((s.data.toList.take k).all Lx.ze8=true):=aS;clear aS
    by_cases ac:k<s.size
    . have g:=Lx.zik s k ac Lx.ze8
      have aQ:Hid ((s.data.toList.take (k+1)).all Lx.ze8=((s.data.toList.take k).all Lx.ze8&&Lx.ze8 s[k])):=g;clear g
      by_cases W:Lx.zob s[k]=true
      . go_wp2_with (go_at_call 248;refine (np _ _).mono ?_;rintro e G ⟨rfl,rfl⟩)
        go_round
        case rel=>exact ⟨k+1,N7,Ou,by rw [aQ.out,aR.out];simp [Lx.ze8,W]⟩
        case measure=>simp [intOf];omega
      . have l:Lx.zob s[k]=false:=by simpa using W
        clear W
        by_cases hd:Lx.zlj s[k]=true
        . go_wp2_with (first | (go_at_call 248;refine (np _ _).mono ?_;rintro e G ⟨rfl,rfl⟩) | (go_at_call 249;refine (oi _ _).mono ?_;rintro e G ⟨rfl,rfl⟩))
          go_round
          case rel=>exact ⟨k+1,N7,Ou,by rw [aQ.out,aR.out];simp [Lx.ze8,hd]⟩
          case measure=>simp [intOf];omega
        . have z:Lx.zlj s[k]=false:=by simpa using hd
          clear hd;have aD:Hid (s.data.toList.all Lx.ze8=false):=Lx.z1x s k ac _ (by simp [Lx.ze8,l,z])
          go_wp2_with (first | (go_at_call 248;refine (np _ _).mono ?_;rintro e G ⟨rfl,rfl⟩) | (go_at_call 249;refine (oi _ _).mono ?_;rintro e G ⟨rfl,rfl⟩))
          go_ret;exact ⟨ret_bool (by rw [aV.out,aD.out]),rfl⟩
    . obtain rfl:k=s.size:=by omega
      go_wp2
      go_ret;exact ⟨ret_bool (by rw [aV.out,← Lx.zuv,aR.out]),rfl⟩
 . have j:Lx.zob s[0]=false:=by simpa using X
   clear X;have aV:Hid (Lx.zck s.data.toList=false):=Lx.zyj s F j;go_enter func202,ntmps202
   go_wp2_with (go_at_call 248;refine (np _ _).mono ?_;rintro e G ⟨rfl,rfl⟩)
   go_ret;exact ⟨ret_bool aV.symm,rfl⟩
def AA:ByteArray:=⟨#[123,125,40,41,91,93,44,59,61,46,43,45,42,47,37,60,33,38,124]⟩
theorem F4 (s:ByteArray) (a:Nat) (w:World) (a8:s.size<=maxLen) (a7:a<s.size) :
 dw 193 #[.string s,di a] w fun e G=>e = .returned (di ((a+Lx.pieceN s a:Nat):Int))/\G=w:=by
 unfold maxLen at a8
 by_cases aa:Lx.ze8 s[a]=true
 . have A : ∀ w:World,dw 193 #[.string s,di a] w fun e G=>e = .returned (di ((a+Lx.pieceN s a:Nat):Int))/\G=w:=by
    intro w
    have d:Hid (((s.data.toList.drop a).take 1).all Lx.ze8=true):=by
     show ((s.data.toList.drop a).take 1).all Lx.ze8=true
     rw [Lx.z9m s a a7];exact aa
    have j:Hid (Lx.zob s[a]=true\/Lx.zob s[a]=false/\Lx.zlj s[a]=true):=by
     show Lx.zob s[a]=true\/Lx.zob s[a]=false/\Lx.zlj s[a]=true;unfold Lx.ze8 at aa
     cases h:Lx.zob s[a] with
     | true=>exact Or.inl rfl
     | false=>rw [h] at aa;exact Or.inr ⟨rfl,by simpa using aa⟩
    clear aa
    rcases j.out with X | ⟨X,hd⟩
    all_goals
     go_enter func193,ntmps193
     go_wp2_with (first | (go_at_call 248;refine (np _ _).mono ?_;rintro e G ⟨rfl,rfl⟩) | (go_at_call 249;refine (oi _ _).mono ?_;rintro e G ⟨rfl,rfl⟩))
     go_loop [5] (fun i=>∃ k:Nat,0<k/\a+k<=s.size/\i=di ((a+k:Nat):Int)/\((s.data.toList.drop a).take k).all Lx.ze8=true) (fun i=>s.size - (intOf i).toNat)
     case atStart=>exact ⟨1,N7,N7,Ou,d⟩
     case round=>
      obtain ⟨k,x,N,rfl,aS⟩:=hrel;have aR:Hid (((s.data.toList.drop a).take k).all Lx.ze8=true):=aS;clear aS X j
      try clear hd
      by_cases ac:a+k<s.size
      . have aQ:Hid (((s.data.toList.drop a).take (k+1)).all Lx.ze8=(((s.data.toList.drop a).take k).all Lx.ze8&&Lx.ze8 s[a+k])):=Lx.zwv s a k ac
        by_cases W:Lx.zob s[a+k]=true
        . go_wp2_with (first | (go_at_call 248;refine (np _ _).mono ?_;rintro e G ⟨rfl,rfl⟩) | (go_at_call 249;refine (oi _ _).mono ?_;rintro e G ⟨rfl,rfl⟩))
          go_round
          case rel=>exact ⟨k+1,N7,N7,Ou,by rw [aQ.out,aR.out];simp [Lx.ze8,W]⟩
          case measure=>simp [intOf];omega
        . have l:Lx.zob s[a+k]=false:=by simpa using W
          clear W
          by_cases hd:Lx.zlj s[a+k]=true
          . go_wp2_with (first | (go_at_call 248;refine (np _ _).mono ?_;rintro e G ⟨rfl,rfl⟩) | (go_at_call 249;refine (oi _ _).mono ?_;rintro e G ⟨rfl,rfl⟩))
            go_round
            case rel=>exact ⟨k+1,N7,N7,Ou,by rw [aQ.out,aR.out];simp [Lx.ze8,hd]⟩
            case measure=>simp [intOf];omega
          . have z:Lx.zlj s[a+k]=false:=by simpa using hd
            clear hd;have aD:Hid (Lx.pieceN s a=k):=Lx.zsj s a k x (Lx.zsh s a k aR ac (by simp [Lx.ze8,l,z]))
            exact Q9
      . have aD:Hid (Lx.pieceN s a=k):=Lx.zsj s a k x (Lx.z5l s a k aR N7)
        go_wp2_with fail;go_ret;exact ⟨ret_int (by rw [aD.out]<;>omega),rfl⟩
   exact A w
 . have b:Lx.ze8 s[a]=false:=by simpa using aa
   have aD:Hid (Lx.pieceN s a=1):=Lx.zsi s a a7 b
   have X:Lx.zob s[a]=false:=by unfold Lx.ze8 at b;simp at b;exact b.1
   have hd:Lx.zlj s[a]=false:=by unfold Lx.ze8 at b;simp at b;exact b.2
   clear aa b;go_enter func193,ntmps193
   exact Q9
end Go.Proofs.YtndkhgakfodldaaGreatDoor
