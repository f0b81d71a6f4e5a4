import Derived.Test.YtndkhgakfodldaaGreatDoorProg
import Derived.Test.YtndkhgakfodldaaGreatDoorPure
import Derived.WalkSpells
import Derived.WalkLawsBesides
namespace Go.Proofs.YtndkhgakfodldaaGreatDoor
set_option maxRecDepth 100000
set_option maxHeartbeats 400000
open Go.RowKit
theorem aR{P:Prop}(h:P:=by go_num):P:=h
theorem fz{P:Prop}(h:P:=by
 go_wp2_with fail;go_ret;exact ⟨ret_bool HR.out.symm,al2 _ _ _⟩):P:=h
theorem fE{P:Prop}(h:P:=by
 go_wp2_with fail;go_ret;exact ⟨ret_bool HR.out.symm,A8.out⟩):P:=h
theorem fG{P:Prop}(h:P:=by
 go_wp2_with fail
 go_ret;exact ⟨ret_bool aE,HB.out⟩):P:=h
theorem fJ{P:Prop}(h:P:=by
 have HQ:Hid (zvw c.parts i k=decide (c.parts[i].params=k)):=dK
 obtain ⟨Av,p0,_,_,_,_,_⟩:=hx
 have E0:(i:Int)<c.parts.length:=ae
 have pz:b<w.heap.size+1:=by simpa using Av
 generalize c.parts[i].params=pp at *
 by_cases t3:pp=k
 . have B9:Hid (zkf c 0 i k=true):=by show _=_;rw [HR.out,HQ.out,decide_eq_true t3]
   subst t3;go_enter Tryz.func212,Tryz.ntmps212;go_wp2_with fail;go_ret;exact ⟨ret_bool B9.out.symm,al1 _ _⟩
 . have B9:Hid (zkf c 0 i k=false):=by show _=_;rw [HR.out,HQ.out,decide_eq_false t3]
   go_enter Tryz.func212,Tryz.ntmps212;go_wp2_with fail;go_ret;exact ⟨ret_bool bo,al1 _ _⟩):P:=h
theorem fN{P:Prop}(h:P:=by
 go_wp2_with fail;go_ret;exact ⟨ret_bool HR.out.symm,al1 _ _⟩):P:=h
theorem fO{P:Prop}(h:P:=by
 clear FR;go_enter Tryz.func256,Tryz.ntmps256;go_wp2_with fail;refine (zf5 ks g.kind b cap _ (HI.out.later (HB.out _ _ _)) hl).mono ?_;rintro e w' ⟨rfl,rfl⟩
 cases hc:ks.contains g.kind with
 | false=>
   have HR:Hid (r=(mg0,7)):=HQ.out.trans fe;clear hc;go_wp2_with fail;refine bodyPost_ret (v:=.tuple #[mg0.val,qi 7]) aX rfl ⟨eZ,HB.out _ _ _⟩
 | true=>
   have HR:Hid (r=(⟨g.kind,g.n,g.m,g.at_⟩,0)):=HQ.out.trans fe;clear hc;go_wp2_with fail;refine bodyPost_ret (v:=.tuple #[.agg #[qi g.kind,qi g.n,qi g.m,qi g.at_],qi 0]) aX rfl ⟨bO,HB.out _ _ _⟩):P:=h
theorem fQ{P:Prop}(h:P:=by
 go_enter Tryz.func61,Tryz.ntmps61;go_wp2_with fail;refine (HN.out _).mono ?_;rintro e w' ⟨rfl,hb⟩;have HB:=hid (bel hb);clear hb;go_wp2_with fail;go_ret;exact ⟨ret_bool HR.out,HB.out⟩):P:=h
theorem f7{P:Prop}(h:P:=by
 have t':at_≠0:=ae
 clear t1;go_enter Tryz.func169,Tryz.ntmps169;go_wp2_with fail;go_ret;exact ⟨ret_bool aJ,al2 _ _ _⟩):P:=h
theorem gh{P:Prop}(h:P:=by
 go_wp2_with fail
 all_goals go_ret
 all_goals exact ⟨ret_bool dD,(Below.refl _ _).alloc (vaa _) _⟩):P:=h
theorem gn{P:Prop}(h:P:=by
 have MW:(N == 0)=false:=beq_eq_false_iff_ne.2 n0
 have HR:Hid (Tk.okB ⟨K,N,S⟩=false):=by show Tk.okB _=_;rw [HT.out,decide_eq_false n0,vej]
 clear n0;go_enter Tryz.func160,Tryz.ntmps160;go_wp2_with fail;go_ret;exact ⟨ret_bool HR.out.symm,(Below.refl _ _).alloc (vaa _) _⟩):P:=h
theorem gr{P:Prop}(h:P:=by
 go_enter Tryz.func212,Tryz.ntmps212;go_wp2_with fail;go_ret;exact ⟨ret_bool B9.out.symm,al1 _ _⟩):P:=h
theorem gD{P:Prop}(h:P:=by
 go_enter Tryz.func81,Tryz.ntmps81;go_wp2_with fail;go_ret;exact ⟨ret_bool bi,al1 _ _⟩):P:=h
theorem gE{P:Prop}(h:P:=by
 rintro e w8 ⟨rfl,AW⟩;go_wp2_with fail;go_ret;exact ⟨ret_bool (by rw [HR.out,HF.out];simp),thenB Eh.out (thenB AR AW)⟩):P:=h
theorem gF{P:Prop}(h:P:=by
 go_wp2_with (first | (go_at_call 248;refine (zbj _ _).mono ?_;rintro e w' ⟨rfl,rfl⟩) | (go_at_call 249;refine (zb0 _ _).mono ?_;rintro e w' ⟨rfl,rfl⟩))
 go_ret;exact ⟨ret_int (by rw [HF.out]<;>omega),rfl⟩):P:=h
theorem gH{P:Prop}(h:P:=by
 have HV:Hid (r=oChk l[j]):=by
  have he:=zk5 l j A0 (fun k hk=>HA.out k ae hk) hz;show r=_;rw [An.out,if_pos (by rw [he];exact hz),he]
 generalize oChk l[j]=z at *;go_wp2_with fail;go_ret;exact ⟨bw,Ad.out⟩):P:=h
theorem gI{P:Prop}(h:P:=by
 go_wp2_with fail;go_ret;exact ⟨ret_bool HR.out.symm,HB.out⟩):P:=h
theorem gJ{P:Prop}(h:P:=by
 clear hM hS hT;go_enter Tryz.func153,Tryz.ntmps153;go_wp2_with fail;go_ret;exact ⟨ret_bool HT.out.symm,al2 _ _ _⟩):P:=h
theorem gP{P:Prop}(h:P:=by
 clear hn;go_enter Tryz.func58,Tryz.ntmps58;go_wp2_with fail;refine HC.out.mono ?_;rintro e w' ⟨rfl,hb⟩;go_wp2_with fail;go_ret;exact ⟨rfl,((Below.refl _ _).alloc (vaa _) _).trans (hb.mono aA)⟩):P:=h
theorem gQ{P:Prop}(h:P:=by
 go_wp2_with fail;go_ret;exact ⟨ret_bool aW,thenB HB.out (al1 _ _)⟩):P:=h
theorem gX{P:Prop}(h:P:=by
 go_ret;exact ⟨ret_bool HN.out.symm,rfl⟩):P:=h
theorem gY{P:Prop}(h:P:=by
 go_enter Tryz.func269,Tryz.ntmps269;go_wp2_with fail;go_ret;exact ⟨ret_int HR.out.symm,rfl⟩):P:=h
theorem gZ{P:Prop}(h:P:=by
 go_wp2_with fail;go_ret;exact ⟨ret_bool eF,thenB hb (al1 _ _)⟩):P:=h
theorem g7{P:Prop}(h:P:=by
 go_wp2_with fail;refine bodyPost_ret (v:=.agg #[qi s.op,.string s.mod,.string s.name,.slice a1 s.args.length c1,.slice a2 s.body.length c2,.slice a3 s.other.length c3]) bt rfl HF.out):P:=h
theorem il{P:Prop}(h:P:=by
 go_wp2_with fail
 go_ret;exact ⟨ret_bool (HF.out (by simp [Gd,show ¬ l[j].other.length=0 from ae])).symm,thenB hb As⟩):P:=h
theorem io{P:Prop}(h:P:=by
 go_wp2_with fail;go_ret;exact ⟨aL,Bv.out⟩):P:=h
theorem ir{P:Prop}(h:P:=by
 obtain rfl:j=l.length:=by omega
 have HT:Hid (r=true):=HR.out.trans (zan.2 HA.out);go_wp2_with fail;go_ret;exact ⟨ret_bool HT.out.symm,HB.out⟩):P:=h
theorem iy{P:Prop}(h:P:=by
 rintro e w3 ⟨rfl,A9⟩;have Af:=hid (thenB (al2 w _ _) A9);clear A9;go_wp2_with fail;go_ret;exact ⟨ret_bool (by rw [HR.out,h1];rfl),Af.out⟩):P:=h
theorem iz{P:Prop}(h:P:=by
 clear FR;go_enter Tryz.func256,Tryz.ntmps256;go_wp2_with fail;refine bodyPost_ret (v:=.tuple #[mg0.val,qi 5]) aX rfl ⟨rfl,HB.out _ _ _⟩):P:=h
theorem iA{P:Prop}(h:P:=by
 go_enter Tryz.func242,Tryz.ntmps242;go_wp2_with fail;go_ret;exact ⟨ret_bool (by rw [HR.out,hm];rfl),(Below.refl _ _).alloc (vaa _) _⟩):P:=h
theorem iC{P:Prop}(h:P:=by
 go_ret;exact ⟨ret_bool HR.out.symm,(Below.refl _ _).alloc (vaa _) _⟩):P:=h
theorem iE{P:Prop}(h:P:=by
 go_wp2
 all_goals go_ret
 . exact ⟨ret_bool (by simp [Lx.zi7, *]),rfl⟩
 . exact ⟨ret_bool (by simp [Lx.zi7];omega),rfl⟩):P:=h
theorem iF{P:Prop}(h:P:=by
 go_wp2
 all_goals go_ret
 . exact ⟨ret_bool (by simp [Lx.zjd, *]),rfl⟩
 . exact ⟨ret_bool (by simp [Lx.zjd];omega),rfl⟩):P:=h
theorem iG{P:Prop}(h:P:=by
 obtain rfl:k=s.size:=by omega
 go_wp2
 go_ret;exact ⟨ret_bool (by rw [HN.out,← Lx.zlp,HA.out]),rfl⟩):P:=h
theorem iL{P:Prop}(h:P:=by
 clear hE LS h2;go_enter Tryz.func147,Tryz.ntmps147;go_wp2_with fail;go_ret;exact ⟨ret_int HV.out.symm,al1 _ _⟩):P:=h
theorem iM{P:Prop}(h:P:=by
 go_round
 case rel=>exact ⟨k+1,ae,aR,el⟩
 case measure=>simp [intOf];omega):P:=h
theorem iN{P:Prop}(h:P:=by
 go_wp2_with fail;go_ret;exact ⟨rfl,rfl⟩):P:=h
theorem iT{P:Prop}(h:P:=by
 go_round
 case rel=>exact ⟨k+1,ae,aR,ek⟩
 case measure=>simp [intOf];omega):P:=h
theorem iU{P:Prop}(h:P:=by
 go_wp2_with fail;go_ret;exact ⟨HE.out.trans Ak,Or.inr ⟨A5,l'.tail,_,HP.out,rfl,D9.out.slice,Aq⟩⟩):P:=h
theorem iW{P:Prop}(h:P:=by
 go_enter Tryz.func171,Tryz.ntmps171;go_wp2_with fail;go_ret;exact ⟨ret_bool B9.out.symm,al2 _ _ _⟩):P:=h
theorem iX{P:Prop}(h:P:=by
 go_wp2_with fail;go_ret;exact ⟨ret_bool bC,al1 _ _⟩):P:=h
theorem i6{P:Prop}(h:P:=by
 go_wp2_with fail;go_ret;exact ⟨ret_bool HF.out.symm,Bv.out.alloc (by have:=Bv.out.size;omega) _⟩):P:=h
theorem i8{P:Prop}(h:P:=by
 go_wp2_with fail;go_ret;exact ⟨ret_bool (by rw [HR.out,HT.out];simp [KS.out]),thenB Eh.out AR⟩):P:=h
theorem jd{P:Prop}(h:P:=by
 go_enter Tryz.func267,Tryz.ntmps267;go_wp2_with fail;go_ret;exact ⟨ret_bool HR.out.symm,rfl⟩):P:=h
theorem je{P:Prop}(h:P:=by
 rintro e w3 ⟨rfl,g1⟩;go_wp2_with fail;go_ret;exact ⟨ret_bool (HF.out cJ).symm,z6r hb g1⟩):P:=h
theorem jg{P:Prop}(h:P:=by
 go_ret;exact ⟨ret_bool HR.out.symm,((Below.refl _ _).alloc (vaa _) _).trans (hb.mono aA)⟩):P:=h
theorem jh{P:Prop}(h:P:=by
 go_wp2_with fail;go_ret;exact ⟨ret_bool dE,hb⟩):P:=h
theorem jk{P:Prop}(h:P:=by
 go_wp2_with fail;go_ret;exact ⟨rfl,al1 _ _⟩):P:=h
theorem jq{P:Prop}(h:P:=by
 go_wp2_with fail;go_ret;exact ⟨aL,Aw.out⟩):P:=h
theorem jA{P:Prop}(h:P:=by
 clear DE An;go_wp2_with fail;go_ret;exact ⟨ret_int Aq.out.symm,At.out⟩):P:=h
theorem jB{P:Prop}(h:P:=by
 go_wp2_with fail;go_ret;exact ⟨ret_int HF.out.symm,hb.alloc hb.size _⟩):P:=h
theorem jK{P:Prop}(h:P:=by
 go_wp2_with fail;go_ret;exact ⟨ret_bool bD,thenB HB.out (al1 _ _)⟩):P:=h
theorem jN{P:Prop}(h:P:=by
 clear hc;go_wp2_with fail;go_ret;exact ⟨bw,thenB Ad.out Ap.out⟩):P:=h
theorem jO{P:Prop}(h:P:=by
 go_wp2_with fail;exact ⟨rfl,AL.alloc _,Or.inl ⟨HN.out,rfl⟩⟩):P:=h
theorem jR{P:Prop}(h:P:=by
 go_ret;exact ⟨ret_bool bO,Ad.out⟩):P:=h
theorem jS{P:Prop}(h:P:=by
 go_ret;exact ⟨bw,Below.refl _ _⟩):P:=h
theorem jT{P:Prop}(h:P:=by
 go_wp2_with fail;go_ret;exact ⟨ret_bool HR.out.symm,Af.out⟩):P:=h
theorem jZ{P:Prop}(h:P:=by
 go_ret;exact ⟨rfl,hb⟩):P:=h
theorem j0{P:Prop}(h:P:=by
 go_wp2_with fail;go_ret;exact ⟨ret_int HE.out.symm,rfl⟩):P:=h
abbrev vep:=@Go.Lib.cell_of_heap
abbrev veq:=@Go.Lib.frozen_of_heap
abbrev ver:=@Go.AllReady.cons
abbrev ves:=@Go.World.ownsRow_nil
abbrev vet:=@Go.World.cell?_of_block
abbrev veu:=@Go.AllReady.nil
abbrev vev:=@Go.World.ownsMap_made
abbrev vew:=@Go.World.frozen?_of_block
abbrev vex:=@Go.World.grownBy_alloc
abbrev vey:=@Go.World.drewN_drewN
abbrev qi (n:Int):Value:=.int .i64 n
abbrev qs:Value:=.slice none 0 0
abbrev qa (b i:Nat):Addr:=⟨b,i,none⟩
abbrev pq (b i:Nat):Value:=.pointer (some ⟨b,i,none⟩)
abbrev qc:=Calls Tryz.prog
abbrev qb (a b:World):Prop:=Below a.heap.size a b
abbrev kzA (a:Int) (b:Int) (c:Int) (d:Int) (e:OA) (f g:Nat) (h:OA) (i j:Nat) (k:OA) (l m:Nat):Obj:=.cells #[.int .i64 a,.int .i64 b,.int .i64 c,.int .i64 d,.slice e f g,.slice h i j,.slice k l m] 109
abbrev kzB (a:Int) (b:ByteArray) (c:ByteArray) (d:OA) (e f:Nat) (g:OA) (h i:Nat) (j:OA) (k l:Nat):Obj:=.cells #[.int .i64 a,.string b,.string c,.slice d e f,.slice g h i,.slice j k l] 176
abbrev kzC (a:ByteArray) (b:OA) (c d:Nat) (e:Int) (f:OA) (g h:Nat) (i:OA) (j k:Nat):Obj:=.cells #[.string a,.slice b c d,.int .i64 e,.slice f g h,.slice i j k] 42
abbrev kzD (a:ByteArray) (b:OA) (c d:Nat) (e:Int) (f:OA) (g h:Nat) (i:OA) (j k:Nat) (l:OA) (m n:Nat) (o:Int):Obj:=.cells #[.string a,.slice b c d,.int .i64 e,.slice f g h,.slice i j k,.slice l m n,.int .i64 o] 62
abbrev kzE (a:Int) (b:Int) (c:ByteArray) (d:ByteArray) (e:OA) (f g:Nat):Obj:=.cells #[.int .i64 a,.int .i64 b,.string c,.string d,.slice e f g] 174
abbrev kzF (a:Int) (b:Int) (c:Int) (d:Int) (e:OA) (f g:Nat):Obj:=.cells #[.int .i64 a,.int .i64 b,.int .i64 c,.int .i64 d,.slice e f g] 253
abbrev kzG (a:ByteArray) (b:OA) (c d:Nat) (e:OA) (f g:Nat) (h:OA) (i j:Nat) (k:OA) (l m:Nat):Obj:=.cells #[.string a,.slice b c d,.slice e f g,.slice h i j,.slice k l m] 27
abbrev kzH (a:Int) (b:ByteArray) (c:Bool) (d:Int):Obj:=.cells #[.int .i64 a,.string b,.bool c,.int .i64 d] 170
abbrev kzI (a:Int) (b:Int) (c:Int) (d:ByteArray):Obj:=.cells #[.int .i64 a,.int .i64 b,.int .i64 c,.string d] 98
abbrev kzJ (a:Int) (b:Int) (c:Int) (d:Int):Obj:=.cells #[.int .i64 a,.int .i64 b,.int .i64 c,.int .i64 d] 242
abbrev kzK (a:ByteArray) (b:Bool) (c:OA) (d e:Nat) (f:OA) (g h:Nat) (i:OA) (j k:Nat):Obj:=.cells #[.string a,.bool b,.slice c d e,.slice f g h,.slice i j k] 118
abbrev kzL (a:Int) (b:Int) (c:OA) (d e:Nat):Obj:=.cells #[.int .i64 a,.int .i64 b,.slice c d e] 106
theorem ret_bool {a b:Bool} (h:a=b):Ending.returned (.bool a) = .returned (.bool b):=by rw [h]
theorem ret_int {k:IntKind} {a b:Int} (h:a=b):Ending.returned (.int k a) = .returned (.int k b):=by rw [h]
theorem zbj (c:UInt8) (w:World) :
 Calls Tryz.prog 248 #[.int .u8 c.toNat] w fun e w'=>e = .returned (.bool (Lx.zjd c))/\w'=w:=by
 go_enter Tryz.func248,Tryz.ntmps248
 exact iF
theorem zfl (c:UInt8) (w:World) :
 Calls Tryz.prog 117 #[.int .u8 c.toNat] w fun e w'=>e = .returned (.bool (Lx.zjd c))/\w'=w:=by
 go_enter Tryz.func117,Tryz.ntmps117
 exact iF
theorem zb0 (c:UInt8) (w:World) :
 Calls Tryz.prog 249 #[.int .u8 c.toNat] w fun e w'=>e = .returned (.bool (Lx.zi7 c))/\w'=w:=by
 go_enter Tryz.func249,Tryz.ntmps249
 exact iE
theorem zqr (c:UInt8) (w:World) :
 Calls Tryz.prog 118 #[.int .u8 c.toNat] w fun e w'=>e = .returned (.bool (Lx.zi7 c))/\w'=w:=by
 go_enter Tryz.func118,Tryz.ntmps118
 exact iE
theorem zdr (n lo hi:Int) (w:World) :
 Calls Tryz.prog 63 #[.int .i64 n,.int .i64 lo,.int .i64 hi] w fun e w'=>e = .returned (.bool (decide (lo<=n)&&decide (n<=hi)))/\w'=w:=by
 go_enter Tryz.func63,Tryz.ntmps63
 go_wp2
 all_goals go_ret
 . exact ⟨ret_bool (by simp [*]),rfl⟩
 . exact ⟨ret_bool aF,rfl⟩
theorem zfm (s:ByteArray) (w:World) (hs:s.size<=maxLen) :
 Calls Tryz.prog 202 #[.string s] w fun e w'=>e = .returned (.bool (Lx.zbw s.data.toList))/\w'=w:=by
 unfold maxLen at hs
 by_cases h0:s.size=0
 . have hE:s=⟨#[]⟩:=vem (Array.eq_empty_of_size_eq_zero h0)
   have HN:Hid (Lx.zbw s.data.toList=false):=Lx.zlq s h0;subst hE;clear h0;go_enter Tryz.func202,Tryz.ntmps202;go_wp2_with fail;exact gX
 have h1:0<s.size:=ae
 have Ai:s.toList.isEmpty=false:=Lx.z25 s h1;clear h0
 by_cases h8:8<s.size
 . have HN:Hid (Lx.zbw s.data.toList=false):=Lx.zn0 s h8
   go_enter Tryz.func202,Tryz.ntmps202;go_wp2_with fail;exact gX
 by_cases hl:Lx.zjd s[0]=true
 . have HN:Hid (Lx.zbw s.data.toList=s.data.toList.all Lx.zea):=Lx.zn2 s h1 ae hl
   go_enter Tryz.func202,Tryz.ntmps202
   go_wp2_with (go_at_call 248;refine (zbj _ _).mono ?_;rintro e w' ⟨rfl,rfl⟩)
   go_loop [19,3] (fun i _=>∃ k:Nat,k<=s.size/\i = .int .i64 k/\(s.data.toList.take k).all Lx.zea=true) (fun i _=>s.size - (intOf i).toNat)
   case atStart=>exact ⟨0,vaf _,rfl,rfl⟩
   case round=>
    obtain ⟨k,hk,rfl,A7⟩:=hrel;have HA:Hid ((s.data.toList.take k).all Lx.zea=true):=A7;clear A7
    by_cases A0:k<s.size
    . have Cs:=Lx.zf1 s k A0 Lx.zea
      have HS:Hid ((s.data.toList.take (k+1)).all Lx.zea=((s.data.toList.take k).all Lx.zea&&Lx.zea s[k])):=Cs;clear Cs
      by_cases hc:Lx.zjd s[k]=true
      . go_wp2_with (go_at_call 248;refine (zbj _ _).mono ?_;rintro e w' ⟨rfl,rfl⟩)
        exact iT
      . have Jo:Lx.zjd s[k]=false:=by simpa using hc
        clear hc
        by_cases hd:Lx.zi7 s[k]=true
        . go_wp2_with (first | (go_at_call 248;refine (zbj _ _).mono ?_;rintro e w' ⟨rfl,rfl⟩) | (go_at_call 249;refine (zb0 _ _).mono ?_;rintro e w' ⟨rfl,rfl⟩))
          exact iM
        . have Fo:Lx.zi7 s[k]=false:=by simpa using hd
          clear hd;have HF:Hid (s.data.toList.all Lx.zea=false):=Lx.ztj s k A0 _ (by simp [Lx.zea,Jo,Fo])
          go_wp2_with (first | (go_at_call 248;refine (zbj _ _).mono ?_;rintro e w' ⟨rfl,rfl⟩) | (go_at_call 249;refine (zb0 _ _).mono ?_;rintro e w' ⟨rfl,rfl⟩))
          go_ret;exact ⟨ret_bool (by rw [HN.out,HF.out]),rfl⟩
    . exact iG
 . have FW:Lx.zjd s[0]=false:=by simpa using hl
   clear hl;have HN:Hid (Lx.zbw s.data.toList=false):=Lx.zn1 s h1 FW;go_enter Tryz.func202,Tryz.ntmps202
   go_wp2_with (go_at_call 248;refine (zbj _ _).mono ?_;rintro e w' ⟨rfl,rfl⟩)
   exact gX
theorem zwf (s:ByteArray) (w:World) (hs:s.size<=maxLen) :
 qc 62 #[.string s] w fun e w'=>e = .returned (.bool (Lx.zbw s.data.toList))/\w'=w:=by
 unfold maxLen at hs
 by_cases h1:¬ (0<s.size/\s.size<=8)
 . have HN:Hid (Lx.zbw s.data.toList=false):=by
    by_cases h0:s.size=0
    . exact Lx.zlq s h0
    . exact Lx.zn0 s ae
   have hw:(decide (1<=(s.size:Int))&&decide ((s.size:Int)<=8))=false:=aF
   clear h1;go_enter Tryz.func62,Tryz.ntmps62
   go_wp2_with (go_at_call 63;refine (zdr _ _ _ _).mono ?_;rintro e w' ⟨rfl,rfl⟩)
   exact gX
 obtain ⟨h1,h8⟩:=Classical.not_not.1 h1
 have hw:(decide (1<=(s.size:Int))&&decide ((s.size:Int)<=8))=true:=aF
 by_cases hl:Lx.zjd s[0]=true
 . have HN:Hid (Lx.zbw s.data.toList=s.data.toList.all Lx.zea):=Lx.zn2 s h1 ae hl
   go_enter Tryz.func62,Tryz.ntmps62
   go_wp2_with (first | (go_at_call 63;refine (zdr _ _ _ _).mono ?_;rintro e w' ⟨rfl,rfl⟩) | (go_at_call 117;refine (zfl _ _).mono ?_;rintro e w' ⟨rfl,rfl⟩))
   go_loop [3] (fun i=>∃ k:Nat,k<=s.size/\i=qi k/\(s.data.toList.take k).all Lx.zea=true) (fun i=>s.size - (intOf i).toNat)
   case atStart=>exact ⟨0,vaf _,rfl,rfl⟩
   case round=>
    obtain ⟨k,hk,rfl,A7⟩:=hrel;have HA:Hid ((s.data.toList.take k).all Lx.zea=true):=A7;clear A7
    by_cases A0:k<s.size
    . have Cs:=Lx.zf1 s k A0 Lx.zea
      have HS:Hid ((s.data.toList.take (k+1)).all Lx.zea=((s.data.toList.take k).all Lx.zea&&Lx.zea s[k])):=Cs;clear Cs
      by_cases hc:Lx.zjd s[k]=true
      . go_wp2_with (go_at_call 117;refine (zfl _ _).mono ?_;rintro e w' ⟨rfl,rfl⟩)
        exact iT
      . have Jo:Lx.zjd s[k]=false:=by simpa using hc
        clear hc
        by_cases hd:Lx.zi7 s[k]=true
        . go_wp2_with (first | (go_at_call 117;refine (zfl _ _).mono ?_;rintro e w' ⟨rfl,rfl⟩) | (go_at_call 118;refine (zqr _ _).mono ?_;rintro e w' ⟨rfl,rfl⟩))
          exact iM
        . have Fo:Lx.zi7 s[k]=false:=by simpa using hd
          clear hd;have HF:Hid (s.data.toList.all Lx.zea=false):=Lx.ztj s k A0 _ (by simp [Lx.zea,Jo,Fo])
          go_wp2_with (first | (go_at_call 117;refine (zfl _ _).mono ?_;rintro e w' ⟨rfl,rfl⟩) | (go_at_call 118;refine (zqr _ _).mono ?_;rintro e w' ⟨rfl,rfl⟩))
          go_ret;exact ⟨ret_bool (by rw [HN.out,HF.out]),rfl⟩
    . exact iG
 . have FW:Lx.zjd s[0]=false:=by simpa using hl
   clear hl;have HN:Hid (Lx.zbw s.data.toList=false):=Lx.zn1 s h1 FW;go_enter Tryz.func62,Tryz.ntmps62
   go_wp2_with (first | (go_at_call 63;refine (zdr _ _ _ _).mono ?_;rintro e w' ⟨rfl,rfl⟩) | (go_at_call 117;refine (zfl _ _).mono ?_;rintro e w' ⟨rfl,rfl⟩))
   exact gX
def zyo:ByteArray:=⟨#[123,125,40,41,91,93,44,59,61,46,43,45,42,47,37,60,33,38,124]⟩
theorem zqs (s:ByteArray) (a:Nat) (w:World) (hs:s.size<=maxLen) (ha:a<s.size) :
 qc 193 #[.string s,qi a] w fun e w'=>e = .returned (qi ((a+Lx.pieceN s a:Nat):Int))/\w'=w:=by
 unfold maxLen at hs
 by_cases Ee:Lx.zea s[a]=true
 . have Cp : ∀ w:World,qc 193 #[.string s,qi a] w fun e w'=>e = .returned (qi ((a+Lx.pieceN s a:Nat):Int))/\w'=w:=by
    intro w
    have H1:Hid (((s.data.toList.drop a).take 1).all Lx.zea=true):=by
     show ((s.data.toList.drop a).take 1).all Lx.zea=true
     rw [Lx.z6l s a ha];exact Ee
    have H2:Hid (Lx.zjd s[a]=true\/Lx.zjd s[a]=false/\Lx.zi7 s[a]=true):=by
     show Lx.zjd s[a]=true\/Lx.zjd s[a]=false/\Lx.zi7 s[a]=true;unfold Lx.zea at Ee
     cases h:Lx.zjd s[a] with
     | true=>exact Or.inl rfl
     | false=>rw [h] at Ee;exact Or.inr ⟨rfl,by simpa using Ee⟩
    clear Ee
    rcases H2.out with hl | ⟨hl,hd⟩
    all_goals
     go_enter Tryz.func193,Tryz.ntmps193
     go_wp2_with (first | (go_at_call 248;refine (zbj _ _).mono ?_;rintro e w' ⟨rfl,rfl⟩) | (go_at_call 249;refine (zb0 _ _).mono ?_;rintro e w' ⟨rfl,rfl⟩))
     go_loop [5] (fun i=>∃ k:Nat,0<k/\a+k<=s.size/\i=qi ((a+k:Nat):Int)/\((s.data.toList.drop a).take k).all Lx.zea=true) (fun i=>s.size - (intOf i).toNat)
     case atStart=>exact ⟨1,ae,ae,aR,H1.out⟩
     case round=>
      obtain ⟨k,Ib,hk,rfl,A7⟩:=hrel;have HA:Hid (((s.data.toList.drop a).take k).all Lx.zea=true):=A7;clear A7 hl H2
      try clear hd
      by_cases A0:a+k<s.size
      . have HS:Hid (((s.data.toList.drop a).take (k+1)).all Lx.zea=(((s.data.toList.drop a).take k).all Lx.zea&&Lx.zea s[a+k])):=Lx.zvg s a k A0
        by_cases hc:Lx.zjd s[a+k]=true
        . go_wp2_with (first | (go_at_call 248;refine (zbj _ _).mono ?_;rintro e w' ⟨rfl,rfl⟩) | (go_at_call 249;refine (zb0 _ _).mono ?_;rintro e w' ⟨rfl,rfl⟩))
          go_round
          case rel=>exact ⟨k+1,ae,ae,aR,ek⟩
          case measure=>simp [intOf];omega
        . have Jo:Lx.zjd s[a+k]=false:=by simpa using hc
          clear hc
          by_cases hd:Lx.zi7 s[a+k]=true
          . go_wp2_with (first | (go_at_call 248;refine (zbj _ _).mono ?_;rintro e w' ⟨rfl,rfl⟩) | (go_at_call 249;refine (zb0 _ _).mono ?_;rintro e w' ⟨rfl,rfl⟩))
            go_round
            case rel=>exact ⟨k+1,ae,ae,aR,el⟩
            case measure=>simp [intOf];omega
          . have Fo:Lx.zi7 s[a+k]=false:=by simpa using hd
            clear hd;have HF:Hid (Lx.pieceN s a=k):=Lx.zrd s a k Ib (Lx.zrb s a k HA.out A0 (by simp [Lx.zea,Jo,Fo]))
            exact gF
      . have HF:Hid (Lx.pieceN s a=k):=Lx.zrd s a k Ib (Lx.z26 s a k HA.out ae)
        go_wp2_with fail;go_ret;exact ⟨ret_int (by rw [HF.out]<;>omega),rfl⟩
   exact Cp w
 . have Dm:Lx.zea s[a]=false:=by simpa using Ee
   have HF:Hid (Lx.pieceN s a=1):=Lx.zrc s a ha Dm
   have hl:Lx.zjd s[a]=false:=by unfold Lx.zea at Dm;simp at Dm;exact Dm.1
   have hd:Lx.zi7 s[a]=false:=by unfold Lx.zea at Dm;simp at Dm;exact Dm.2
   clear Ee Dm;go_enter Tryz.func193,Tryz.ntmps193
   exact gF
end Go.Proofs.YtndkhgakfodldaaGreatDoor
