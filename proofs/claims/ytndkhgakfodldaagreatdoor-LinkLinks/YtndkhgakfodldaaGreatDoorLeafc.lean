import Derived.Test.YtndkhgakfodldaaGreatDoorLeaf
import Derived.Test.YtndkhgakfodldaaGreatDoorShelf
import Derived.Test.YtndkhgakfodldaaGreatDoorNum
set_option maxRecDepth 100000
set_option maxHeartbeats 800000
open Go.Proofs.Tryz
open List renaming length → ln
namespace Go.Proofs.YtndkhgakfodldaaGreatDoor
open Go.RowKit
variable {B a b:Nat} {l:L8} {s:ByteArray} {v:Value} {w r:World} {α:Type}
theorem sa (s:ByteArray) (w:World) :
 ew 203 #[.string s] w fun e r=>e = .returned (.bool (Lx.zkd s.data.toList))/\r=w:=by
 by_cases G:s.size=1
 . have a3:0<s.size:=by omega
   have aF:Hid (Lx.zkd s.data.toList=decide (0<=Lib.indexByte zc.data.toList s[0])):=by
    have:=Lx.zmz s[0];exact (Lx.zzo s G).trans this.symm
   have aT:((s.size:Int) == 1)=true:=by rw [beq_iff_eq];omega
   clear G;go_enter func203,ntmps203
   go_wp2_with (go_at_call 255;refine (Tryz.strings_IndexByte zc _ _).mono ?_;rintro e r ⟨rfl,rfl⟩)
   all_goals go_ret
   all_goals exact ⟨ret_bool (by rw [aF.out];simp),rfl⟩
 . have aF:Hid (Lx.zkd s.data.toList=false):=Lx.ztb s G
   have aT:((s.size:Int) == 1)=false:=by rw [beq_eq_false_iff_ne];omega
   clear G;go_enter func203,ntmps203;go_wp2_with fail;go_ret;exact ⟨ret_bool aF.symm,rfl⟩
def gL:List PanicEntry:=[{ v:=.iface 31 (em 1),recovered:=false }]
def o6 (l:L8):Ending:=if Lx.zhc l then .returned (em (Lx.valL l)) else .panicked gL
theorem ze (h:Lx.zhc l=true):o6 l = .returned (em (Lx.valL l)):=by unfold o6;rw [h];rfl
theorem tx (h:Lx.zhc l=false):o6 l = .panicked gL:=by unfold o6;rw [h];rfl
theorem zf (s:ByteArray) (w:World) (Z:s.size<=maxLen) :
 ew 250 #[.string s] w fun e r=>e=o6 s.data.toList/\r=w:=by
 unfold maxLen at Z
 by_cases a:∃ h:1<s.size,s[0]=48
 . obtain ⟨G,a3⟩:=a
   have aF:Hid (o6 s.data.toList = .panicked gL):=tx (Lx.zwv _ (Lx.z2u s G a3))
   have F:(((s[0].toNat:Nat):Int) == 48)=true:=by rw [a3];rfl
   clear a3;go_enter func250,ntmps250;go_wp2_with fail;exact ⟨rfl,aF.symm,rfl⟩
 . have b8 : Hid (Lx.znu s.data.toList=true):=Lx.zzm s (fun G a3=>a ⟨G,a3⟩)
   have y:(¬ 1<s.size)\/∃ h:1<s.size,(((s[0].toNat:Nat):Int) == 48)=false:=by
    by_cases G:1<s.size
    . refine Or.inr ⟨G,?_⟩
      rw [beq_eq_false_iff_ne];intro e;exact a ⟨G,w5.1 (by show s[0].toNat=48;omega)⟩
    . exact Or.inl G
   clear a
   rcases y with G | ⟨G,F⟩
   all_goals
    go_enter func250,ntmps250;go_wp2_with fail
    go_loop [16,3,4] (fun i n _=>∃ k:Nat,k<=s.size/\i=em k/\n=em (Lx.valL (s.data.toList.take k))/\(s.data.toList.take k).all Lx.zi7=true/\Lx.valL (s.data.toList.take k)<=1099511627775) (fun i _ _=>s.size - (intOf i).toNat)
    case atStart=>exact ⟨0,eY _,rfl,rfl,rfl,by simp [Lx.valL]⟩
    case round=>
     obtain ⟨k,N,rfl,rfl,aO,a7⟩:=hrel;have ar:Hid ((s.data.toList.take k).all Lx.zi7=true):=aO;clear aO
     by_cases a0:k<s.size
     . by_cases ez:Lx.zi7 s[k]=true
       . have aJ:Hid ((s.data.toList.take (k+1)).all Lx.zi7=((s.data.toList.take k).all Lx.zi7&&Lx.zi7 s[k])):=Lx.zf1 s k a0 Lx.zi7
         have ae:Hid (Lx.valL (s.data.toList.take (k+1))=10*Lx.valL (s.data.toList.take k)+Lx.dv s[k]):=Lx.zo7 s k a0;have W:=Lx.zzl _ ez
         have ad:Hid (Lx.valL (s.data.toList.take (k+1))<=1099511627775\/Lx.zhc s.data.toList=false):=by
          by_cases a8:Lx.valL (s.data.toList.take (k+1))<=1099511627775
          . exact Or.inl a8
          . exact Or.inr (Lx.zzn s (k+1) (by omega))
         generalize aK:Lx.valL (s.data.toList.take k)=V at *;have b:Hid (Lx.valL (s.data.toList.take k)=V):=aK;clear aK;obtain ⟨f,ck⟩:=W
         go_wp2_with (go_at_call 249;refine (nZ _ _).mono ?_;rintro e r ⟨rfl,rfl⟩)
         . have ay:Lx.zhc s.data.toList=false:=by
            rcases ad.out with h | h
            . rw [ae.out] at h;unfold Lx.dv at h;omega
            . exact h
           exact ⟨rfl,(tx ay).symm,rfl⟩
         . go_round
           case rel=>exact ⟨k+1,by omega,by go_num,by rw [ae.out];unfold Lx.dv;go_num,by rw [aJ.out,ar.out];simp [ez],by rw [ae.out];unfold Lx.dv;omega⟩
           case measure=>simp [intOf];omega
       . have c:Lx.zi7 s[k]=false:=by simpa using ez
         clear ez;have aF:Hid (o6 s.data.toList = .panicked gL):=tx (Lx.zmy _ (Lx.ztj s k a0 _ c))
         go_wp2_with (go_at_call 249;refine (nZ _ _).mono ?_;rintro e r ⟨rfl,rfl⟩)
         exact ⟨rfl,aF.symm,rfl⟩
     . obtain rfl:k=s.size:=by omega
       have aF:Hid (o6 s.data.toList = .returned (em (Lx.valL (s.data.toList.take s.size)))):=by
        have u:s.data.toList.take s.size=s.data.toList:=kw (by rw [Lx.za0];exact eD _);rw [u] at ar a7 ⊢;exact ze (by unfold Lx.zhc;rw [ar.out,b8.out];simp;exact a7)
       go_wp2_with fail;go_ret;exact ⟨aF.symm,rfl⟩
def strOf (l:L8):ByteArray:=⟨l.toArray⟩
theorem strOf_list (l:L8):(strOf l).data.toList=l:=by simp [strOf]
theorem strOf_back (s:ByteArray):strOf s.data.toList=s:=by simp [strOf]
theorem strOf_size (l:L8):(strOf l).size=ln l:=by simp [strOf,ByteArray.size]
structure Tk where
 kind:Int
 n:Int
 text:ByteArray
def Tk.val (t:Tk):Value:=.agg #[em t.kind,em t.n,.string t.text]
def hF (s:ByteArray):Option Tk:=
 if Lx.zkd s.data.toList then some ⟨3,0,s⟩ else if Lx.zbw s.data.toList then some ⟨1,0,s⟩ else if Lx.zhc s.data.toList then some ⟨2,Lx.valL s.data.toList,⟨#[]⟩⟩ else none
theorem zg (s:ByteArray) (w:World) (Z:s.size<=281474976710656) :
 ew 173 #[.string s] w fun e r=>e = .returned (.string s)/\et w r:=by
 go_enter func173,ntmps173
 go_wp2_with (go_at_call 220;refine (Tryz.stringslite_Clone s _ Z).mono ?_;rintro e r ⟨rfl,F⟩)
 go_ret;exact ⟨rfl,F⟩
theorem zh (s:ByteArray) (w:World) (Z:s.size<=maxLen) :
 ew 194 #[.string s] w fun e r=>((∃ t,hF s=some t/\e = .returned t.val)\/(hF s=none/\e = .panicked gL))/\et w r:=by
 by_cases G:Lx.zkd s.data.toList=true
 . have P:Hid (hF s=some ⟨3,0,s⟩):=by show hF s=_;unfold hF;rw [if_pos G]
   go_enter func194,ntmps194
   go_wp2_with (go_at_call 203;refine (sa s _).mono ?_;rintro e r ⟨rfl,rfl⟩)
   exact bodyPost_ret (v:=Tk.val ⟨3,0,s⟩) (by simp [results,results194,go_sem,Tk.val]) rfl ⟨Or.inl ⟨_,P,rfl⟩,(Below.refl _ _).alloc (eD _) _⟩
 . have aa:Lx.zkd s.data.toList=false:=by simpa using G
   clear G
   by_cases J:Lx.zbw s.data.toList=true
   . have P:Hid (hF s=some ⟨1,0,s⟩):=by show hF s=_;unfold hF;rw [if_neg (by simp [aa]),if_pos J]
     go_enter func194,ntmps194
     go_wp2_with (first | (go_at_call 203;refine (sa s _).mono ?_;rintro e r ⟨rfl,rfl⟩) | (go_at_call 202;refine (r3 s _ Z).mono ?_;rintro e r ⟨rfl,rfl⟩))
     exact bodyPost_ret (v:=Tk.val ⟨1,0,s⟩) (by simp [results,results194,go_sem,Tk.val]) rfl ⟨Or.inl ⟨_,P,rfl⟩,(Below.refl _ _).alloc (eD _) _⟩
   . have b:Lx.zbw s.data.toList=false:=by simpa using J
     clear J
     by_cases S:Lx.zhc s.data.toList=true
     . have P:Hid (hF s=some ⟨2,Lx.valL s.data.toList,⟨#[]⟩⟩):=by show hF s=_;unfold hF;rw [if_neg (by simp [aa]),if_neg (by simp [b]),if_pos S]
       have ay:=ze S
       have ao:Hid (∀ w:World,ew 250 #[.string s] w fun e r=>e = .returned (em (Lx.valL s.data.toList))/\r=w):=fun w=>by rw [← ay];exact zf s w Z
       clear ay S;go_enter func194,ntmps194
       go_wp2_with (first | (go_at_call 203;refine (sa s _).mono ?_;rintro e r ⟨rfl,rfl⟩) | (go_at_call 202;refine (r3 s _ Z).mono ?_;rintro e r ⟨rfl,rfl⟩) | (go_at_call 250;refine (ao _).mono ?_;rintro e r ⟨rfl,rfl⟩))
       exact bodyPost_ret (v:=Tk.val ⟨2,Lx.valL s.data.toList,⟨#[]⟩⟩) (by simp [results,results194,go_sem,Tk.val]) rfl ⟨Or.inl ⟨_,P,rfl⟩,(Below.refl _ _).alloc (eD _) _⟩
     . have c:Lx.zhc s.data.toList=false:=by simpa using S
       have P:Hid (hF s=none):=by show hF s=_;unfold hF;rw [if_neg (by simp [aa]),if_neg (by simp [b]),if_neg S]
       have ay:=tx c
       have ao:Hid (∀ w:World,ew 250 #[.string s] w fun e r=>e = .panicked gL/\r=w):=fun w=>by rw [← ay];exact zf s w Z
       clear ay S c;go_enter func194,ntmps194
       go_wp2_with (first | (go_at_call 203;refine (sa s _).mono ?_;rintro e r ⟨rfl,rfl⟩) | (go_at_call 202;refine (r3 s _ Z).mono ?_;rintro e r ⟨rfl,rfl⟩) | (go_at_call 250;refine (ao _).mono ?_;rintro e r ⟨rfl,rfl⟩))
       exact ⟨rfl,Or.inr ⟨P,rfl⟩,(Below.refl _ _).alloc (eD _) _⟩
def Tk.inB (t:Tk):Prop:=t.kind=2->0<=t.n/\t.n<=1099511627775
def Tk.okB (t:Tk):Bool:=
 if t.kind=1 then decide (t.n=0)&&Lx.zbw t.text.data.toList
 else if t.kind=2 then t.text.toList.isEmpty&&(decide (0<=t.n)&&decide (t.n<=1099511627775))
 else decide (t.n=0)&&Lx.zkd t.text.data.toList
theorem zi (t:Tk) (w:World) (Z:t.text.size<=maxLen) :
 ew 160 #[t.val] w fun e r=>e = .returned (.bool t.okB)/\et w r:=by
 obtain ⟨j,b,a⟩:=t;simp only [Tk.val] at *
 by_cases ak:j=1
 . have P:Hid (Tk.okB ⟨j,b,a⟩=(decide (b=0)&&Lx.zbw a.data.toList)):=if_pos ak
   have cb:(j == 1)=true:=beq_iff_eq.2 ak;clear ak
   by_cases bH:b=0
   . have d:(b == 0)=true:=beq_iff_eq.2 bH
     have z:Hid (Tk.okB ⟨j,b,a⟩=Lx.zbw a.data.toList):=by show Tk.okB _=_;rw [P.out,decide_eq_true bH,ub]
     clear bH;go_enter func160,ntmps160
     go_wp2_with (go_at_call 202;refine (r3 a _ Z).mono ?_;rintro e r ⟨rfl,rfl⟩)
     go_ret;exact ⟨ret_bool z.symm,(Below.refl _ _).alloc (eD _) _⟩
   . have d:(b == 0)=false:=beq_eq_false_iff_ne.2 bH
     have z:Hid (Tk.okB ⟨j,b,a⟩=false):=by show Tk.okB _=_;rw [P.out,decide_eq_false bH,w6]
     clear bH;go_enter func160,ntmps160;go_wp2_with fail;go_ret;exact ⟨ret_bool z.symm,(Below.refl _ _).alloc (eD _) _⟩
 . by_cases au:j=2
   . have P:Hid (Tk.okB ⟨j,b,a⟩=(a.toList.isEmpty&&(decide (0<=b)&&decide (b<=1099511627775)))):=by show Tk.okB _=_;unfold Tk.okB;rw [if_neg ak,if_pos au]
     have cb:(j == 1)=false:=beq_eq_false_iff_ne.2 ak;have f:(j == 2)=true:=beq_iff_eq.2 au;clear ak au
     by_cases ah:a.toList.isEmpty=true
     . by_cases a3:0<=b
       . go_enter func160,ntmps160
         go_wp2_with fail;go_ret;exact ⟨ret_bool (by rw [P.out];simp [ah,a3]),(Below.refl _ _).alloc (eD _) _⟩
       . go_enter func160,ntmps160
         go_wp2_with fail;go_ret;exact ⟨ret_bool (by rw [P.out,decide_eq_false (show ¬ 0<=b from by omega)];simp),(Below.refl _ _).alloc (eD _) _⟩
     . have c:a.toList.isEmpty=false:=by simpa using ah
       clear ah;go_enter func160,ntmps160;go_wp2_with fail;go_ret;exact ⟨ret_bool (by rw [P.out];simp [c]),(Below.refl _ _).alloc (eD _) _⟩
   . have P:Hid (Tk.okB ⟨j,b,a⟩=(decide (b=0)&&Lx.zkd a.data.toList)):=by show Tk.okB _=_;unfold Tk.okB;rw [if_neg ak,if_neg au]
     have cb:(j == 1)=false:=beq_eq_false_iff_ne.2 ak;have f:(j == 2)=false:=beq_eq_false_iff_ne.2 au;clear ak au
     by_cases bH:b=0
     . have d:(b == 0)=true:=beq_iff_eq.2 bH
       have z:Hid (Tk.okB ⟨j,b,a⟩=Lx.zkd a.data.toList):=by show Tk.okB _=_;rw [P.out,decide_eq_true bH,ub]
       clear bH;go_enter func160,ntmps160
       go_wp2_with (go_at_call 203;refine (sa a _).mono ?_;rintro e r ⟨rfl,rfl⟩)
       go_ret;exact ⟨ret_bool z.symm,(Below.refl _ _).alloc (eD _) _⟩
     . have d:(b == 0)=false:=beq_eq_false_iff_ne.2 bH
       have z:Hid (Tk.okB ⟨j,b,a⟩=false):=by show Tk.okB _=_;rw [P.out,decide_eq_false bH,w6]
       clear bH;go_enter func160,ntmps160;go_wp2_with fail;go_ret;exact ⟨ret_bool z.symm,(Below.refl _ _).alloc (eD _) _⟩
def Tk.fits (t:Tk):Prop:=t.text.size<=maxLen
structure sb (w:World) (b off:Nat) (ts:List Tk):Prop where
 lt:b<w.heap.size
 kind:∀ i (h:i<ln ts),w.cell? ⟨b,off+i*3,none⟩=some (em ts[i].kind)
 num:∀ i (h:i<ln ts),w.cell? ⟨b,off+i*3+1,none⟩=some (em ts[i].n)
 text:∀ i (h:i<ln ts),w.cell? ⟨b,off+i*3+2,none⟩=some (.string ts[i].text)
 fits:∀ i (h:i<ln ts),ts[i].fits
theorem sb.below {C:Nat} {d:List Tk} (h:sb w b C d) (F:Below B w r) (ab:b<B):sb r b C d:=
 ⟨gl h.lt F.size,fun i X=>(F.cell (p:=⟨b,C+i*3,none⟩) ab).trans (h.kind i X),fun i X=>(F.cell (p:=⟨b,C+i*3+1,none⟩) ab).trans (h.num i X),fun i X=>(F.cell (p:=⟨b,C+i*3+2,none⟩) ab).trans (h.text i X),h.fits⟩
def iz (t:Tk):Bool:=decide (1<=t.kind)&&decide (t.kind<=3)
def jC (d:List Tk):Int:=if d.all iz then (if d.all Tk.okB then (if 4096<ln d then 2 else 0) else 1) else 4
def jD (w:World) (a:OA) (d:List Tk):Prop:=d=[]\/∃ b C,a=some (ep b C)/\sb w b C d
theorem jD.later {a:OA} {d:List Tk} (h:jD w a d) (F:et w r):jD r a d:=by
 rcases h with h | ⟨b,C,e,h⟩
 . exact Or.inl h
 . exact Or.inr ⟨b,C,e,h.below F h.lt⟩
theorem jD.place {a:OA} {d:List Tk} (h:jD w a d) {k:Nat} (N:k<ln d):∃ b C,a=some (ep b C)/\sb w b C d:=by
 rcases h with h | h
 . subst h;simp at N
 . exact h
theorem all_snoc (d:List α) (p:α->Bool) (k:Nat) (h:k<ln d):(d.take (k+1)).all p=((d.take k).all p&&p d[k]):=by
 rw [hI h,lL];simp
theorem all_not (d:List α) (p:α->Bool) (k:Nat) (h:k<ln d) (az:p d[k]=false):d.all p=false:=by
 rw [rl];exact ⟨d[k],fO _,by simp [az]⟩
theorem Do {d:List Tk} (h:d.all iz=false):jC d=4:=by unfold jC;rw [h];rfl
theorem Dp {d:List Tk} (h:d.all iz=true) (G:d.all Tk.okB=false):jC d=1:=by unfold jC;rw [h,G];rfl
theorem Dq {d:List Tk} (h:d.all iz=true) (G:d.all Tk.okB=true) (J:4096<ln d):jC d=2:=by unfold jC;rw [h,G,if_pos rfl,if_pos rfl,if_pos J]
theorem Dr {d:List Tk} (h:d.all iz=true) (G:d.all Tk.okB=true) (J:¬ 4096<ln d):jC d=0:=by unfold jC;rw [h,G,if_pos rfl,if_pos rfl,if_neg J]
theorem Check_any (a:OA) (I:Nat) (d:List Tk) (w:World) (u:jD w a d) (a2:ln d<=1000000000000000) :
 ew 116 #[.slice a (ln d) I] w fun e r=>e = .returned (em (jC d))/\et w r:=by
 have P:Hid (jD w a d):=u;clear u;go_enter func116,ntmps116;go_wp2_with fail
 go_loopw [9,4] (fun i _ wr=>∃ k:Nat,k<=ln d/\i=em k/\(d.take k).all iz=true/\et w wr) (fun i _ _=>ln d - (intOf i).toNat)
 case atStart=>exact ⟨0,eY _,rfl,rfl,Below.refl _ _⟩
 case round=>
  obtain ⟨k,N,rfl,aO,F⟩:=hrel;have ar:Hid ((d.take k).all iz=true):=aO;clear aO
  by_cases a0:k<ln d
  . obtain ⟨b,C,rfl,u⟩:=(P.later F).place a0
    have ao:=u.kind k a0;have aM:=u.num k a0;have b1:=u.text k a0;have bz:=u.lt;clear u;have aJ:Hid ((d.take (k+1)).all iz=((d.take k).all iz&&iz d[k])):=all_snoc d iz k a0
    by_cases cb:1<=d[k].kind/\d[k].kind<=3
    . obtain ⟨h,hkb3⟩:=cb
      have a6:Hid (iz d[k]=true):=by show iz d[k]=true;simp [iz,h,hkb3]
      go_wp2_with fail;go_roundw
      case rel=>exact ⟨k+1,by omega,by go_num,by rw [aJ.out,ar.out,a6.out];rfl,F.alloc F.size _⟩
      case measure=>simp [intOf];omega
    . have p:Hid (jC d=4):=Do (all_not d iz k a0 (by simp [iz];omega))
      by_cases D:d[k].kind<1
      . clear cb
        go_wp2_with fail;go_ret;exact ⟨ret_int p.symm,F.alloc F.size _⟩
      . have l:3<d[k].kind:=by omega
        clear cb;go_wp2_with fail;go_ret;exact ⟨ret_int p.symm,F.alloc F.size _⟩
  . have a6:Hid (d.all iz=true):=by
     have:=ar.out;rw [kw (by omega)] at this;exact this
    clear ar;go_wp2_with fail
    go_loopw [24,6] (fun i _ wr=>∃ k:Nat,k<=ln d/\i=em k/\(d.take k).all Tk.okB=true/\et w wr) (fun i _ _=>ln d - (intOf i).toNat)
    case atStart=>exact ⟨0,eY _,rfl,rfl,F⟩
    case round=>
     obtain ⟨m,f,rfl,aO,ai⟩:=hrel;have ar:Hid ((d.take m).all Tk.okB=true):=aO;clear aO
     by_cases c:m<ln d
     . obtain ⟨b,C,rfl,u⟩:=(P.later ai).place c
       have ao:=u.kind m c;have aM:=u.num m c;have b1:=u.text m c;have c7:=u.fits m c;have bz:=u.lt;clear u;have aJ:Hid ((d.take (m+1)).all Tk.okB=((d.take m).all Tk.okB&&Tk.okB d[m])):=all_snoc d Tk.okB m c
       by_cases cb:Tk.okB d[m]=true
       . go_wp2_with (go_at_call 160;refine (zi d[m] _ c7).mono ?_;rintro e r ⟨rfl,aB⟩)
         go_roundw
         case rel=>exact ⟨m+1,by omega,by go_num,by rw [aJ.out,ar.out];simp [cb],(ai.alloc ai.size _).trans (aB.mono (by have:=ai.size;simp;omega))⟩
         case measure=>simp [intOf];omega
       . have g:Tk.okB d[m]=false:=by simpa using cb
         have p:Hid (jC d=1):=Dp a6 (all_not d Tk.okB m c g);clear cb
         go_wp2_with (go_at_call 160;refine (zi d[m] _ c7).mono ?_;rintro e r ⟨rfl,aB⟩)
         go_ret;exact ⟨ret_int p.symm,(ai.alloc ai.size _).trans (aB.mono (by have:=ai.size;simp;omega))⟩
     . have aG:Hid (d.all Tk.okB=true):=by
        have:=ar.out;rw [kw (by omega)] at this;exact this
       clear ar
       by_cases a8:4096<ln d
       . have p:Hid (jC d=2):=Dq a6 aG a8
         go_wp2_with fail;go_ret;exact ⟨ret_int p.symm,ai⟩
       . have p:Hid (jC d=0):=Dr a6 aG a8
         go_wp2_with fail;go_ret;exact ⟨ret_int p.symm,ai⟩
def hu (d:List Tk):Prop:=d.all iz=true/\d.all Tk.okB=true
theorem hu.get {d:List Tk} (h:hu d) (k:Nat) (N:k<ln d):iz d[k]=true/\Tk.okB d[k]=true:=
 ⟨hJ.1 h.1 _ (fO _),hJ.1 h.2 _ (fO _)⟩
theorem lt_of_heap {o:Obj} (h:w.heap[b]? = some o):b<w.heap.size:=by
 rcases iS b w.heap.size with q | q
 . exact q
 . simp [lK q] at h
def k8 (c:UInt8):Bool:=c == 32||c == 10
def hP (s:ByteArray) (a:Nat):Option (List Tk):=
 if h:a<s.size then
  if k8 s[a] then hP s (a+Lx.pieceN s a)
  else match hF (s.extract a (a+Lx.pieceN s a)) with
   | none=>none
   | some t=>(hP s (a+Lx.pieceN s a)).map (t :: ·)
 else some []
termination_by s.size - a
decreasing_by
 all_goals have:=Lx.zg4 s a;omega
theorem vQ (s:ByteArray) (a:Nat) (h:¬ a<s.size):hP s a=some []:=by rw [hP,dif_neg h]
theorem zj (s:ByteArray) (a:Nat) (h:a<s.size) (F:k8 s[a]=true):hP s a=hP s (a+Lx.pieceN s a):=by
 rw [hP,dif_pos h,if_pos F]
theorem zk (s:ByteArray) (a:Nat) (h:a<s.size) (F:k8 s[a]=false) (aj:hF (s.extract a (a+Lx.pieceN s a))=none):hP s a=none:=by
 rw [hP,dif_pos h,if_neg (by simp [F]),aj]
theorem zl (s:ByteArray) (a:Nat) (t:Tk) (h:a<s.size) (F:k8 s[a]=false) (aj:hF (s.extract a (a+Lx.pieceN s a))=some t):hP s a=(hP s (a+Lx.pieceN s a)).map (t :: ·):=by
 rw [hP,dif_pos h,if_neg (by simp [F]),aj]
def iP (s:ByteArray) (a:Nat) (d:List Tk):Prop:=hP s 0=(hP s a).map (d++·)
theorem iP.start (s:ByteArray):iP s 0 []:=by
 unfold iP;cases hP s 0<;>rfl
theorem iP.blank {d:List Tk} (h:iP s a d) (ab:a<s.size) (F:k8 s[a]=true):iP s (a+Lx.pieceN s a) d:=by
 unfold iP at *;rw [h,zj s a ab F]
theorem iP.tok {d:List Tk} {t:Tk} (h:iP s a d) (ab:a<s.size) (F:k8 s[a]=false) (aj:hF (s.extract a (a+Lx.pieceN s a))=some t):iP s (a+Lx.pieceN s a) (d++[t]):=by
 unfold iP at *;rw [h,zl s a t ab F aj]
 cases hP s (a+Lx.pieceN s a)<;>simp
theorem iP.stop {d:List Tk} (h:iP s a d) (ab:a<s.size) (F:k8 s[a]=false) (aj:hF (s.extract a (a+Lx.pieceN s a))=none):hP s 0=none:=by
 unfold iP at *;rw [h,zk s a ab F aj];rfl
theorem iP.done {d:List Tk} (h:iP s a d) (ab:¬ a<s.size):hP s 0=some d:=by
 unfold iP at *;rw [h,vQ s a ab];simp
def i7 (s:ByteArray):List Tk:=if 4096<s.size then [] else (hP s 0).getD []
def i8 (s:ByteArray):Int:=if 4096<s.size then 2 else if (hP s 0).isSome then 0 else 1
theorem Ds (h:4096<s.size):i7 s=[]/\i8 s=2:=⟨if_pos h,if_pos h⟩
theorem Dt (h:¬ 4096<s.size) (U:hP s 0=none):i7 s=[]/\i8 s=1:=by
 unfold i7 i8;rw [if_neg h,if_neg h,U];exact ⟨rfl,rfl⟩
theorem zm {d:List Tk} (h:¬ 4096<s.size) (U:hP s 0=some d):i7 s=d/\i8 s=0:=by
 unfold i7 i8;rw [if_neg h,if_neg h,U];exact ⟨rfl,rfl⟩
theorem Du (s:ByteArray) (a n:Nat):(s.extract a (a+n)).data.toList=(s.data.toList.drop a).take n:=by
 rw [Lib.extract_data,show a+n - a=n from by omega]
theorem Dv (s:ByteArray) (a:Nat) (h:a<s.size):s.data.toList.drop a=s[a] :: s.data.toList.drop (a+1):=by
 rw [List.drop_eq_getElem_cons (by rw [Lx.za0];exact h)];rfl
def p5 (t:Tk):List Value:=[em t.kind,em t.n,.string t.text]
def cellsOf (d:List Tk):List Value:=d.flatMap p5
theorem Dw (d:List Tk) (t:Tk):cellsOf (d++[t])=cellsOf d++p5 t:=by simp [cellsOf]
theorem zn:∀ (d:List Tk) (i:Nat) (h:i<ln d),(cellsOf d)[i*3]? = some (em d[i].kind)/\(cellsOf d)[i*3+1]? = some (em d[i].n)/\(cellsOf d)[i*3+2]? = some (.string d[i].text)
 | [],i,h=>by simp at h
 | t :: O,0,_=>⟨rfl,rfl,rfl⟩
 | t :: O,i+1,h=>by
   have aH:=zn O i (by simpa using h)
   have e:cellsOf (t :: O)=em t.kind :: em t.n :: .string t.text :: cellsOf O:=by simp [cellsOf,p5]
   rw [e,show (i+1)*3=i*3+1+1+1 from by omega];simpa using aH
def AllFit (d:List Tk):Prop:=∀ i (h:i<ln d),d[i].fits
theorem AllFit.nil:AllFit []:=fun i h=>by simp at h
theorem AllFit.snoc {d:List Tk} {t:Tk} (h:AllFit d) (aj:t.fits):AllFit (d++[t]):=by
 intro i X
 by_cases a2:i<ln d
 . rw [su a2];exact h i a2
 . have:i=ln d:=by simp at X;omega
   subst this
   simp;exact aj
theorem Dx {d:List Tk} (h:w.ownsRow B 184 3 v (ln d) (cellsOf d)) (ag:AllFit d):∃ a I,v = .slice a (ln d) I/\jD w a d:=by
 obtain ⟨G,J⟩:=h
 rcases J with ⟨a7,a3⟩ | ⟨g,I,o,a7,af,a1,U,a8,O,j⟩
 . have:d=[]:=ii a3
   subst this;exact ⟨none,0,a7,Or.inl rfl⟩
 . refine ⟨some (ep g 0),I,a7,Or.inr ⟨g,0,rfl,lt_of_heap a1,?_,?_,?_,ag⟩⟩
   all_goals
    intro i X;have Q:=zn d i X;rw [fU a1];rw [← j] at Q;simp only [wW,Array.getElem?_toList] at Q;rw [if_pos (by omega),if_pos (by omega),if_pos (by omega)] at Q;simp only [hv]
   . exact Q.1
   . exact Q.2.1
   . exact Q.2.2
theorem Tryz.infoTok:(prog.info? 184).map (fun i=>(i.zero,i.size,i.bytes))=some (some (.agg #[em 0,em 0,.string ⟨#[]⟩]),3,32):=by kernel_rfl
theorem vR (s:ByteArray) (a n:Nat) (h:a+n<=s.size):(s.extract a (a+n)).size=n:=by
 rw [ByteArray.size_extract];omega
theorem ownsRow_later {M x:World} {e:TypeId} {size:Nat} {n:Nat} {ae:List Value} (h:M.ownsRow B e size v n ae) (F:et M x):x.ownsRow B e size v n ae:=by
 obtain ⟨G,J⟩:=h;refine ⟨G,?_⟩
 rcases J with J | ⟨g,I,o,a7,af,a1,hrest⟩
 . exact Or.inl J
 . exact Or.inr ⟨g,I,o,a7,af,(F.block g (lt_of_heap a1)).trans a1,hrest⟩
theorem Dy (w:World) (x y z:Value) (t:TypeId):∀ j u,[x,y,z][j]? = some u->(w.alloc (.cells #[x,y,z] t)).cell? (((ep w.heap.size 0):Addr).add j)=some u:=by
 intro j u ac;have m:(w.alloc (.cells #[x,y,z] t)).heap[w.heap.size]? = some (.cells #[x,y,z] t):=_root_.Go.heap_alloc_new w _
 have:((ep w.heap.size 0):Addr).add j=(ep w.heap.size j):=by simp [Addr.add];exact fun h=>h.symm
 rw [this,fU m,← ac];simp
theorem Dz (t:Tk):∀ u ∈ p5 t,u.oneCell'=true:=by
 intro u aI;simp only [p5,lM,List.not_mem_nil,or_false] at aI
 rcases aI with h | h | h
 all_goals subst h;rfl
end Go.Proofs.YtndkhgakfodldaaGreatDoor
