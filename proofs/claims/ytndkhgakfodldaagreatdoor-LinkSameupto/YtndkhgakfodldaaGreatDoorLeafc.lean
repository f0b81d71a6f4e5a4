import Derived.Test.YtndkhgakfodldaaGreatDoorLeaf
import Derived.Test.YtndkhgakfodldaaGreatDoorShelf
import Derived.Test.YtndkhgakfodldaaGreatDoorNum
set_option maxRecDepth 100000
set_option maxHeartbeats 800000
open Go.Proofs.Tryz
namespace Go.Proofs.YtndkhgakfodldaaGreatDoor
open Go.RowKit
theorem OC{P:Prop}(h:P:=by (simp [results,results256,go_sem,Mg.val,gI])):P:=h
theorem OE{P:Prop}(h:P:=by (simp [results,results162,go_sem,bG,r1_,r2_,r3_,r4,r5,r6,a9])):P:=h
theorem OG{P:Prop}(h:P:=by (simp [results,results283,go_sem,ab,F,J,U,aa])):P:=h
theorem OT{P:Prop}(h:P:=by (simp [results,results205,go_sem,ab,F,J,U,aa,aB,bj,ac])):P:=h
theorem OX{P:Prop}(h:P:=by (simp [results,results288,go_sem,ab,F,J,U,aa,ac])):P:=h
theorem OY{P:Prop}(h:P:=by (simp [results,results25,go_sem,aH,az,aK,aW,b5])):P:=h
theorem O5{P:Prop}(h:P:=by (simp [go_sem])):P:=h
theorem Pd{P:Prop}(h:P:=by (simp [results,results254,go_sem,ab,F,J,U,aa,aB])):P:=h
theorem Pe{P:Prop}(h:P:=by (simp [results,results258,go_sem,ab,F,J,U,aa,ac])):P:=h
theorem Ps{P:Prop}(h:P:=by (simp [results,results40,go_sem,bG,bp,al])):P:=h
theorem Pu{P:Prop}(h:P:=by (simp [results,results194,go_sem,Tk.val])):P:=h
theorem QL{P:Prop}(h:P:=by
 rintro e bw ⟨rfl,n⟩;have g:=D.later n;have a9:=B.later n;go_wp2_with fail;go_roundw
 case rel=>exact ⟨j+1,N7,Ou,dp a1 n,g,a9⟩
 case measure=>simp [intOf];omega):P:=h
theorem QY{P:Prop}(h:P:=by
 refine aO _ _ ?_;clear aO K;refine wpAny_ready (rs:=[6]) (by kernel_rfl) Ob ?_;refine nk rfl (fun K aO=>?_) qj;refine xK Oq 194 _ _ Oq en35 _ Oq iQ (l _) ?_;intro dC T;exact (hm.caught ((aS.drewT.later aN).later T) _ rfl rfl (fun c aF=>⟨none,0,PO,PB,aF⟩))):P:=h
theorem Rd{P:Prop}(h:P:=by
 go_wp2_with fail
 go_loopw [10] (fun i wr=>i=di 0/\dm w wr) (fun _ _=>0)
 case atStart=>exact ⟨rfl,dn _ _⟩
 case round=>
  obtain ⟨rfl,I⟩:=hrel;go_wp2_with fail;go_ret;exact ⟨rfl,I⟩):P:=h
theorem Ru{P:Prop}(h:P:=by
 obtain ⟨Q,p⟩:=N;go_wp2_with fail;go_roundw
 case rel=>exact ⟨j+1,N7,Ou,dp I (dn _ _),D.later (dn _ _),B.later (dn _ _)⟩
 case measure=>simp [intOf];omega):P:=h
theorem RC{P:Prop}(h:P:=by
 go_enter func146,ntmps146;go_wp2_with fail;refine bodyPost_ret (v:=wB l k a6 B a9) (by simp [results,results146,go_sem,bG,bp,bx,bQ,bg]) rfl ⟨rfl,e6 _ _ _⟩):P:=h
theorem RH{P:Prop}(h:P:=by
 clear aw;go_wp2_with fail;go_roundw
 case rel=>exact ⟨j+1,N7,Ou,dp I X,v⟩
 case measure=>simp [intOf];omega):P:=h
theorem Sk{P:Prop}(h:P:=by
 rintro e S a7 ⟨rfl,rfl,rfl⟩;exact ⟨.tuple #[],by simp [results,results74,go_sem],H⟩):P:=h
variable {B a b:Nat} {l:L8} {s:ByteArray} {v:Value} {w G:World} {α:Type}
theorem sL (s:ByteArray) (w:World) :
 dw 203 #[.string s] w fun e G=>e = .returned (.bool (Lx.zle s.data.toList))/\G=w:=by
 by_cases F:s.size=1
 . have ab:0<s.size:=by omega
   have aV:Hid (Lx.zle s.data.toList=decide (0<=Lib.indexByte AA.data.toList s[0])):=by
    have:=Lx.zm6 s[0];exact (Lx.z1a s F).trans this.symm
   have b1:((s.size:Int) == 1)=true:=by rw [beq_iff_eq];omega
   clear F;go_enter func203,ntmps203
   go_wp2_with (go_at_call 255;refine (Tryz.strings_IndexByte AA _ _).mono ?_;rintro e G ⟨rfl,rfl⟩)
   all_goals go_ret
   all_goals exact ⟨ret_bool (by rw [aV.out];simp),rfl⟩
 . have aV:Hid (Lx.zle s.data.toList=false):=Lx.zuo s F
   have b1:((s.size:Int) == 1)=false:=by rw [beq_eq_false_iff_ne];omega
   clear F;go_enter func203,ntmps203;exact R9
def iQ:List PanicEntry:=[{ v:=.iface 31 (di 1),recovered:=false }]
def pj (l:L8):Ending:=if Lx.zhs l then .returned (di (Lx.valL l)) else .panicked iQ
theorem AB (h:Lx.zhs l=true):pj l = .returned (di (Lx.valL l)):=by unfold pj;rw [h];rfl
theorem ui (h:Lx.zhs l=false):pj l = .panicked iQ:=by unfold pj;rw [h];rfl
theorem AC (s:ByteArray) (w:World) (a8:s.size<=maxLen) :
 dw 250 #[.string s] w fun e G=>e=pj s.data.toList/\G=w:=by
 unfold maxLen at a8
 by_cases a:∃ h:1<s.size,s[0]=48
 . obtain ⟨F,ab⟩:=a
   have aV:Hid (pj s.data.toList = .panicked iQ):=ui (Lx.zya _ (Lx.z5d s F ab))
   have I:(((s[0].toNat:Nat):Int) == 48)=true:=by rw [ab];rfl
   clear ab;go_enter func250,ntmps250;go_wp2_with fail;exact ⟨rfl,aV.symm,rfl⟩
 . have b2 : Hid (Lx.zn5 s.data.toList=true):=Lx.z08 s (fun F ab=>a ⟨F,ab⟩)
   have m:(¬ 1<s.size)\/∃ h:1<s.size,(((s[0].toNat:Nat):Int) == 48)=false:=by
    by_cases F:1<s.size
    . refine Or.inr ⟨F,?_⟩
      rw [beq_eq_false_iff_ne];intro e;exact a ⟨F,xw.1 (by show s[0].toNat=48;omega)⟩
    . exact Or.inl F
   clear a
   rcases m with F | ⟨F,I⟩
   all_goals
    go_enter func250,ntmps250;go_wp2_with fail
    go_loop [16,3,4] (fun i n _=>∃ k:Nat,k<=s.size/\i=di k/\n=di (Lx.valL (s.data.toList.take k))/\(s.data.toList.take k).all Lx.zlj=true/\Lx.valL (s.data.toList.take k)<=1099511627775) (fun i _ _=>s.size - (intOf i).toNat)
    case atStart=>exact ⟨0,dY _,rfl,rfl,rfl,by simp [Lx.valL]⟩
    case round=>
     obtain ⟨k,N,rfl,rfl,aS,af⟩:=hrel;have aR:Hid ((s.data.toList.take k).all Lx.zlj=true):=aS;clear aS
     by_cases ac:k<s.size
     . by_cases hd:Lx.zlj s[k]=true
       . have aQ:Hid ((s.data.toList.take (k+1)).all Lx.zlj=((s.data.toList.take k).all Lx.zlj&&Lx.zlj s[k])):=Lx.zik s k ac Lx.zlj
         have bh:Hid (Lx.valL (s.data.toList.take (k+1))=10*Lx.valL (s.data.toList.take k)+Lx.dv s[k]):=Lx.zpw s k ac;have Q:=Lx.z07 _ hd
         have ag:Hid (Lx.valL (s.data.toList.take (k+1))<=1099511627775\/Lx.zhs s.data.toList=false):=by
          by_cases a1:Lx.valL (s.data.toList.take (k+1))<=1099511627775
          . exact Or.inl a1
          . exact Or.inr (Lx.z09 s (k+1) N7)
         generalize bb:Lx.valL (s.data.toList.take k)=Z at *;have b:Hid (Lx.valL (s.data.toList.take k)=Z):=bb;clear bb;obtain ⟨f,r⟩:=Q
         go_wp2_with (go_at_call 249;refine (oi _ _).mono ?_;rintro e G ⟨rfl,rfl⟩)
         . have aw:Lx.zhs s.data.toList=false:=by
            rcases ag.out with h | h
            . rw [bh.out] at h;unfold Lx.dv at h;omega
            . exact h
           exact ⟨rfl,(ui aw).symm,rfl⟩
         . go_round
           case rel=>exact ⟨k+1,N7,Ou,by rw [bh.out];unfold Lx.dv;go_num,by rw [aQ.out,aR.out];simp [hd],by rw [bh.out];unfold Lx.dv;omega⟩
           case measure=>simp [intOf];omega
       . have z:Lx.zlj s[k]=false:=by simpa using hd
         clear hd;have aV:Hid (pj s.data.toList = .panicked iQ):=ui (Lx.zm5 _ (Lx.z1x s k ac _ z))
         go_wp2_with (go_at_call 249;refine (oi _ _).mono ?_;rintro e G ⟨rfl,rfl⟩)
         exact ⟨rfl,aV.symm,rfl⟩
     . obtain rfl:k=s.size:=by omega
       have aV:Hid (pj s.data.toList = .returned (di (Lx.valL (s.data.toList.take s.size)))):=by
        have H:s.data.toList.take s.size=s.data.toList:=iq (by rw [Lx.zbb];exact dA _);rw [H] at aR af ⊢;exact AB (by unfold Lx.zhs;rw [aR.out,b2.out];simp;exact af)
       go_wp2_with fail;go_ret;exact ⟨aV.symm,rfl⟩
def strOf (l:L8):ByteArray:=⟨l.toArray⟩
theorem strOf_list (l:L8):(strOf l).data.toList=l:=by simp [strOf]
theorem strOf_back (s:ByteArray):strOf s.data.toList=s:=by simp [strOf]
theorem strOf_size (l:L8):(strOf l).size=l.length:=by simp [strOf,ByteArray.size]
structure Tk where
 kind:Int
 n:Int
 text:ByteArray
def Tk.val (t:Tk):Value:=.agg #[di t.kind,di t.n,.string t.text]
def ia (s:ByteArray):Option Tk:=
 if Lx.zle s.data.toList then some ⟨3,0,s⟩ else if Lx.zck s.data.toList then some ⟨1,0,s⟩ else if Lx.zhs s.data.toList then some ⟨2,Lx.valL s.data.toList,⟨#[]⟩⟩ else none
theorem AD (s:ByteArray) (w:World) (a8:s.size<=281474976710656) :
 dw 173 #[.string s] w fun e G=>e = .returned (.string s)/\dm w G:=by
 go_enter func173,ntmps173
 go_wp2_with (go_at_call 220;refine (Tryz.stringslite_Clone s _ a8).mono ?_;rintro e G ⟨rfl,I⟩)
 go_ret;exact ⟨rfl,I⟩
theorem AE (s:ByteArray) (w:World) (a8:s.size<=maxLen) :
 dw 194 #[.string s] w fun e G=>((∃ n,ia s=some n/\e = .returned n.val)\/(ia s=none/\e = .panicked iQ))/\dm w G:=by
 by_cases F:Lx.zle s.data.toList=true
 . have aM:Hid (ia s=some ⟨3,0,s⟩):=by show ia s=_;unfold ia;rw [if_pos F]
   go_enter func194,ntmps194
   go_wp2_with (go_at_call 203;refine (sL s _).mono ?_;rintro e G ⟨rfl,rfl⟩)
   exact bodyPost_ret (v:=Tk.val ⟨3,0,s⟩) Pu rfl ⟨Or.inl ⟨_,aM,rfl⟩,(Below.refl _ _).alloc (dA _) _⟩
 . have o:Lx.zle s.data.toList=false:=by simpa using F
   clear F
   by_cases J:Lx.zck s.data.toList=true
   . have aM:Hid (ia s=some ⟨1,0,s⟩):=by show ia s=_;unfold ia;rw [if_neg (by simp [o]),if_pos J]
     go_enter func194,ntmps194
     go_wp2_with (first | (go_at_call 203;refine (sL s _).mono ?_;rintro e G ⟨rfl,rfl⟩) | (go_at_call 202;refine (sK s _ a8).mono ?_;rintro e G ⟨rfl,rfl⟩))
     exact bodyPost_ret (v:=Tk.val ⟨1,0,s⟩) Pu rfl ⟨Or.inl ⟨_,aM,rfl⟩,(Below.refl _ _).alloc (dA _) _⟩
   . have b:Lx.zck s.data.toList=false:=by simpa using J
     clear J
     by_cases U:Lx.zhs s.data.toList=true
     . have aM:Hid (ia s=some ⟨2,Lx.valL s.data.toList,⟨#[]⟩⟩):=by show ia s=_;unfold ia;rw [if_neg (by simp [o]),if_neg (by simp [b]),if_pos U]
       have aw:=AB U
       have ao:Hid (∀ w:World,dw 250 #[.string s] w fun e G=>e = .returned (di (Lx.valL s.data.toList))/\G=w):=fun w=>by rw [← aw];exact AC s w a8
       clear aw U;go_enter func194,ntmps194
       go_wp2_with (first | (go_at_call 203;refine (sL s _).mono ?_;rintro e G ⟨rfl,rfl⟩) | (go_at_call 202;refine (sK s _ a8).mono ?_;rintro e G ⟨rfl,rfl⟩) | (go_at_call 250;refine (ao _).mono ?_;rintro e G ⟨rfl,rfl⟩))
       exact bodyPost_ret (v:=Tk.val ⟨2,Lx.valL s.data.toList,⟨#[]⟩⟩) Pu rfl ⟨Or.inl ⟨_,aM,rfl⟩,(Below.refl _ _).alloc (dA _) _⟩
     . have i:Lx.zhs s.data.toList=false:=by simpa using U
       have aM:Hid (ia s=none):=by show ia s=_;unfold ia;rw [if_neg (by simp [o]),if_neg (by simp [b]),if_neg U]
       have aw:=ui i
       have ao:Hid (∀ w:World,dw 250 #[.string s] w fun e G=>e = .panicked iQ/\G=w):=fun w=>by rw [← aw];exact AC s w a8
       clear aw U i;go_enter func194,ntmps194
       go_wp2_with (first | (go_at_call 203;refine (sL s _).mono ?_;rintro e G ⟨rfl,rfl⟩) | (go_at_call 202;refine (sK s _ a8).mono ?_;rintro e G ⟨rfl,rfl⟩) | (go_at_call 250;refine (ao _).mono ?_;rintro e G ⟨rfl,rfl⟩))
       exact ⟨rfl,Or.inr ⟨aM,rfl⟩,(Below.refl _ _).alloc (dA _) _⟩
def Tk.inB (t:Tk):Prop:=t.kind=2->0<=t.n/\t.n<=1099511627775
def Tk.okB (t:Tk):Bool:=
 if t.kind=1 then decide (t.n=0)&&Lx.zck t.text.data.toList
 else if t.kind=2 then t.text.toList.isEmpty&&(decide (0<=t.n)&&decide (t.n<=1099511627775))
 else decide (t.n=0)&&Lx.zle t.text.data.toList
theorem AF (t:Tk) (w:World) (a8:t.text.size<=maxLen) :
 dw 160 #[t.val] w fun e G=>e = .returned (.bool t.okB)/\dm w G:=by
 obtain ⟨s,a5,a⟩:=t;simp only [Tk.val] at *
 by_cases a9:s=1
 . have aM:Hid (Tk.okB ⟨s,a5,a⟩=(decide (a5=0)&&Lx.zck a.data.toList)):=if_pos a9
   have u:(s == 1)=true:=beq_iff_eq.2 a9;clear a9
   by_cases q:a5=0
   . have b:(a5 == 0)=true:=beq_iff_eq.2 q
     have z:Hid (Tk.okB ⟨s,a5,a⟩=Lx.zck a.data.toList):=by show Tk.okB _=_;rw [aM.out,decide_eq_true q,s4]
     clear q;go_enter func160,ntmps160
     go_wp2_with (go_at_call 202;refine (sK a _ a8).mono ?_;rintro e G ⟨rfl,rfl⟩)
     exact RZ
   . exact QV
 . by_cases au:s=2
   . have aM:Hid (Tk.okB ⟨s,a5,a⟩=(a.toList.isEmpty&&(decide (0<=a5)&&decide (a5<=1099511627775)))):=by show Tk.okB _=_;unfold Tk.okB;rw [if_neg a9,if_pos au]
     have u:(s == 1)=false:=beq_eq_false_iff_ne.2 a9;have d:(s == 2)=true:=beq_iff_eq.2 au;clear a9 au
     by_cases ar:a.toList.isEmpty=true
     . by_cases ab:0<=a5
       . go_enter func160,ntmps160
         go_wp2_with fail;go_ret;exact ⟨ret_bool (by rw [aM.out];simp [ar,ab]),(Below.refl _ _).alloc (dA _) _⟩
       . go_enter func160,ntmps160
         go_wp2_with fail;go_ret;exact ⟨ret_bool (by rw [aM.out,decide_eq_false (show ¬ 0<=a5 from N7)];simp),(Below.refl _ _).alloc (dA _) _⟩
     . have c:a.toList.isEmpty=false:=by simpa using ar
       clear ar;go_enter func160,ntmps160;go_wp2_with fail;go_ret;exact ⟨ret_bool (by rw [aM.out];simp [c]),(Below.refl _ _).alloc (dA _) _⟩
   . have aM:Hid (Tk.okB ⟨s,a5,a⟩=(decide (a5=0)&&Lx.zle a.data.toList)):=by show Tk.okB _=_;unfold Tk.okB;rw [if_neg a9,if_neg au]
     have u:(s == 1)=false:=beq_eq_false_iff_ne.2 a9;have d:(s == 2)=false:=beq_eq_false_iff_ne.2 au;clear a9 au
     by_cases q:a5=0
     . have b:(a5 == 0)=true:=beq_iff_eq.2 q
       have z:Hid (Tk.okB ⟨s,a5,a⟩=Lx.zle a.data.toList):=by show Tk.okB _=_;rw [aM.out,decide_eq_true q,s4]
       clear q;go_enter func160,ntmps160
       go_wp2_with (go_at_call 203;refine (sL a _).mono ?_;rintro e G ⟨rfl,rfl⟩)
       exact RZ
     . exact QV
def Tk.fits (t:Tk):Prop:=t.text.size<=maxLen
structure sM (w:World) (b off:Nat) (ts:List Tk):Prop where
 lt:b<w.heap.size
 kind:∀ i (h:i<ts.length),w.cell? ⟨b,off+i*3,none⟩=some (di ts[i].kind)
 num:∀ i (h:i<ts.length),w.cell? ⟨b,off+i*3+1,none⟩=some (di ts[i].n)
 text:∀ i (h:i<ts.length),w.cell? ⟨b,off+i*3+2,none⟩=some (.string ts[i].text)
 fits:∀ i (h:i<ts.length),ts[i].fits
theorem sM.below {C:Nat} {d:List Tk} (h:sM w b C d) (I:Below B w G) (aF:b<B):sM G b C d:=
 ⟨e4 h.lt I.size,fun i V=>(I.cell (p:=⟨b,C+i*3,none⟩) aF).trans (h.kind i V),fun i V=>(I.cell (p:=⟨b,C+i*3+1,none⟩) aF).trans (h.num i V),fun i V=>(I.cell (p:=⟨b,C+i*3+2,none⟩) aF).trans (h.text i V),h.fits⟩
def iz (t:Tk):Bool:=decide (1<=t.kind)&&decide (t.kind<=3)
def jm (d:List Tk):Int:=if d.all iz then (if d.all Tk.okB then (if 4096<d.length then 2 else 0) else 1) else 4
def i8 (w:World) (a:OA) (d:List Tk):Prop:=d=[]\/∃ b C,a=some (dj b C)/\sM w b C d
theorem i8.later {a:OA} {d:List Tk} (h:i8 w a d) (I:dm w G):i8 G a d:=by
 rcases h with h | ⟨b,C,e,h⟩
 . exact Or.inl h
 . exact Or.inr ⟨b,C,e,h.below I h.lt⟩
theorem i8.place {a:OA} {d:List Tk} (h:i8 w a d) {k:Nat} (N:k<d.length):∃ b C,a=some (dj b C)/\sM w b C d:=by
 rcases h with h | h
 . subst h;simp at N
 . exact h
theorem all_snoc (d:List α) (p:α->Bool) (k:Nat) (h:k<d.length):(d.take (k+1)).all p=((d.take k).all p&&p d[k]):=by
 rw [gn h,k8];simp
theorem all_not (d:List α) (p:α->Bool) (k:Nat) (h:k<d.length) (aA:p d[k]=false):d.all p=false:=by
 rw [sY];exact ⟨d[k],eb _,by simp [aA]⟩
theorem F5 {d:List Tk} (h:d.all iz=false):jm d=4:=by unfold jm;rw [h];rfl
theorem F6 {d:List Tk} (h:d.all iz=true) (F:d.all Tk.okB=false):jm d=1:=by unfold jm;rw [h,F];rfl
theorem F7 {d:List Tk} (h:d.all iz=true) (F:d.all Tk.okB=true) (J:4096<d.length):jm d=2:=by unfold jm;rw [h,F,if_pos rfl,if_pos rfl,if_pos J]
theorem F8 {d:List Tk} (h:d.all iz=true) (F:d.all Tk.okB=true) (J:¬ 4096<d.length):jm d=0:=by unfold jm;rw [h,F,if_pos rfl,if_pos rfl,if_neg J]
theorem Check_any (a:OA) (q:Nat) (d:List Tk) (w:World) (H:i8 w a d) (X:d.length<=1000000000000000) :
 dw 116 #[.slice a d.length q] w fun e G=>e = .returned (di (jm d))/\dm w G:=by
 have aM:Hid (i8 w a d):=H;clear H;go_enter func116,ntmps116;go_wp2_with fail
 go_loopw [9,4] (fun i _ wr=>∃ k:Nat,k<=d.length/\i=di k/\(d.take k).all iz=true/\dm w wr) (fun i _ _=>d.length - (intOf i).toNat)
 case atStart=>exact ⟨0,dY _,rfl,rfl,Below.refl _ _⟩
 case round=>
  obtain ⟨k,N,rfl,aS,I⟩:=hrel;have aR:Hid ((d.take k).all iz=true):=aS;clear aS
  by_cases ac:k<d.length
  . obtain ⟨b,C,rfl,H⟩:=(aM.later I).place ac
    have O:=H.kind k ac;have aO:=H.num k ac;have bp:=H.text k ac;have b8:=H.lt;clear H;have aQ:Hid ((d.take (k+1)).all iz=((d.take k).all iz&&iz d[k])):=all_snoc d iz k ac
    by_cases u:1<=d[k].kind/\d[k].kind<=3
    . obtain ⟨h,hkb3⟩:=u
      have bJ:Hid (iz d[k]=true):=by show iz d[k]=true;simp [iz,h,hkb3]
      go_wp2_with fail;go_roundw
      case rel=>exact ⟨k+1,N7,Ou,by rw [aQ.out,aR.out,bJ.out];rfl,I.alloc I.size _⟩
      case measure=>simp [intOf];omega
    . have aD:Hid (jm d=4):=F5 (all_not d iz k ac (by simp [iz];omega))
      by_cases Q:d[k].kind<1
      . clear u
        exact SX
      . have p:3<d[k].kind:=by omega
        clear u;exact SX
  . have bJ:Hid (d.all iz=true):=by
     have:=aR.out;exact SS
    clear aR;go_wp2_with fail
    go_loopw [24,6] (fun i _ wr=>∃ k:Nat,k<=d.length/\i=di k/\(d.take k).all Tk.okB=true/\dm w wr) (fun i _ _=>d.length - (intOf i).toNat)
    case atStart=>exact ⟨0,dY _,rfl,rfl,I⟩
    case round=>
     obtain ⟨bn,f,rfl,aS,aq⟩:=hrel;have aR:Hid ((d.take bn).all Tk.okB=true):=aS;clear aS
     by_cases c:bn<d.length
     . obtain ⟨b,C,rfl,H⟩:=(aM.later aq).place c
       have O:=H.kind bn c;have aO:=H.num bn c;have bp:=H.text bn c;have bg:=H.fits bn c;have b8:=H.lt;clear H;have aQ:Hid ((d.take (bn+1)).all Tk.okB=((d.take bn).all Tk.okB&&Tk.okB d[bn])):=all_snoc d Tk.okB bn c
       by_cases u:Tk.okB d[bn]=true
       . go_wp2_with (go_at_call 160;refine (AF d[bn] _ bg).mono ?_;rintro e G ⟨rfl,aN⟩)
         go_roundw
         case rel=>exact ⟨bn+1,N7,Ou,by rw [aQ.out,aR.out];simp [u],(aq.alloc aq.size _).trans (aN.mono PN)⟩
         case measure=>simp [intOf];omega
       . have g:Tk.okB d[bn]=false:=by simpa using u
         have aD:Hid (jm d=1):=F6 bJ (all_not d Tk.okB bn c g);clear u
         go_wp2_with (go_at_call 160;refine (AF d[bn] _ bg).mono ?_;rintro e G ⟨rfl,aN⟩)
         go_ret;exact ⟨ret_int aD.symm,(aq.alloc aq.size _).trans (aN.mono PN)⟩
     . have P:Hid (d.all Tk.okB=true):=by
        have:=aR.out;exact SS
       clear aR
       by_cases a1:4096<d.length
       . have aD:Hid (jm d=2):=F7 bJ P a1
         go_wp2_with fail;go_ret;exact ⟨ret_int aD.symm,aq⟩
       . have aD:Hid (jm d=0):=F8 bJ P a1
         go_wp2_with fail;go_ret;exact ⟨ret_int aD.symm,aq⟩
def iA (d:List Tk):Prop:=d.all iz=true/\d.all Tk.okB=true
theorem iA.get {d:List Tk} (h:iA d) (k:Nat) (N:k<d.length):iz d[k]=true/\Tk.okB d[k]=true:=
 ⟨e1.1 h.1 _ (eb _),e1.1 h.2 _ (eb _)⟩
theorem lt_of_heap {o:Obj} (h:w.heap[b]? = some o):b<w.heap.size:=by
 rcases gZ b w.heap.size with a5 | a5
 . exact a5
 . simp [lF a5] at h
def lZ (c:UInt8):Bool:=c == 32||c == 10
def hJ (s:ByteArray) (a:Nat):Option (List Tk):=
 if h:a<s.size then
  if lZ s[a] then hJ s (a+Lx.pieceN s a)
  else match ia (s.extract a (a+Lx.pieceN s a)) with
   | none=>none
   | some n=>(hJ s (a+Lx.pieceN s a)).map (n :: ·)
 else some []
termination_by s.size - a
decreasing_by
 all_goals have:=Lx.zje s a;omega
theorem AG (s:ByteArray) (a:Nat) (h:¬ a<s.size):hJ s a=some []:=by rw [hJ,dif_neg h]
theorem F9 (s:ByteArray) (a:Nat) (h:a<s.size) (I:lZ s[a]=true):hJ s a=hJ s (a+Lx.pieceN s a):=by
 rw [hJ,dif_pos h,if_pos I]
theorem Ga (s:ByteArray) (a:Nat) (h:a<s.size) (I:lZ s[a]=false) (ax:ia (s.extract a (a+Lx.pieceN s a))=none):hJ s a=none:=by
 rw [hJ,dif_pos h,if_neg (by simp [I]),ax]
theorem Gb (s:ByteArray) (a:Nat) (t:Tk) (h:a<s.size) (I:lZ s[a]=false) (ax:ia (s.extract a (a+Lx.pieceN s a))=some t):hJ s a=(hJ s (a+Lx.pieceN s a)).map (t :: ·):=by
 rw [hJ,dif_pos h,if_neg (by simp [I]),ax]
def iB (s:ByteArray) (a:Nat) (d:List Tk):Prop:=hJ s 0=(hJ s a).map (d++·)
theorem iB.start (s:ByteArray):iB s 0 []:=by
 unfold iB;cases hJ s 0<;>rfl
theorem iB.blank {d:List Tk} (h:iB s a d) (a7:a<s.size) (I:lZ s[a]=true):iB s (a+Lx.pieceN s a) d:=by
 unfold iB at *;rw [h,F9 s a a7 I]
theorem iB.tok {d:List Tk} {t:Tk} (h:iB s a d) (a7:a<s.size) (I:lZ s[a]=false) (ax:ia (s.extract a (a+Lx.pieceN s a))=some t):iB s (a+Lx.pieceN s a) (d++[t]):=by
 unfold iB at *;rw [h,Gb s a t a7 I ax]
 cases hJ s (a+Lx.pieceN s a)<;>simp
theorem iB.stop {d:List Tk} (h:iB s a d) (a7:a<s.size) (I:lZ s[a]=false) (ax:ia (s.extract a (a+Lx.pieceN s a))=none):hJ s 0=none:=by
 unfold iB at *;rw [h,Ga s a a7 I ax];rfl
theorem iB.done {d:List Tk} (h:iB s a d) (a7:¬ a<s.size):hJ s 0=some d:=by
 unfold iB at *;rw [h,AG s a a7];simp
def jV (s:ByteArray):List Tk:=if 4096<s.size then [] else (hJ s 0).getD []
def kZ (s:ByteArray):Int:=if 4096<s.size then 2 else if (hJ s 0).isSome then 0 else 1
theorem Gc (h:4096<s.size):jV s=[]/\kZ s=2:=⟨if_pos h,if_pos h⟩
theorem Gd (h:¬ 4096<s.size) (Z:hJ s 0=none):jV s=[]/\kZ s=1:=by
 unfold jV kZ;rw [if_neg h,if_neg h,Z];exact ⟨rfl,rfl⟩
theorem AH {d:List Tk} (h:¬ 4096<s.size) (Z:hJ s 0=some d):jV s=d/\kZ s=0:=by
 unfold jV kZ;rw [if_neg h,if_neg h,Z];exact ⟨rfl,rfl⟩
def qk (t:Tk):List Value:=[di t.kind,di t.n,.string t.text]
def cellsOf (d:List Tk):List Value:=d.flatMap qk
theorem Ge (d:List Tk) (t:Tk):cellsOf (d++[t])=cellsOf d++qk t:=by simp [cellsOf]
theorem AJ:∀ (d:List Tk) (i:Nat) (h:i<d.length),(cellsOf d)[i*3]? = some (di d[i].kind)/\(cellsOf d)[i*3+1]? = some (di d[i].n)/\(cellsOf d)[i*3+2]? = some (.string d[i].text)
 | [],i,h=>Pq
 | n :: r,0,_=>⟨rfl,rfl,rfl⟩
 | n :: r,i+1,h=>by
   have ay:=AJ r i OU
   have e:cellsOf (n :: r)=di n.kind :: di n.n :: .string n.text :: cellsOf r:=by simp [cellsOf,qk]
   rw [e,show (i+1)*3=i*3+1+1+1 from N7];simpa using ay
def AllFit (d:List Tk):Prop:=∀ i (h:i<d.length),d[i].fits
theorem AllFit.nil:AllFit []:=fun i h=>Pq
theorem AllFit.snoc {d:List Tk} {t:Tk} (h:AllFit d) (ax:t.fits):AllFit (d++[t]):=by
 intro i V
 by_cases X:i<d.length
 . rw [lE X];exact h i X
 . have:i=d.length:=by simp at V;omega
   subst this
   simp;exact ax
theorem Gf {d:List Tk} (h:w.ownsRow B 184 3 v d.length (cellsOf d)) (Y:AllFit d):∃ a q,v = .slice a d.length q/\i8 w a d:=by
 obtain ⟨F,J⟩:=h
 rcases J with ⟨af,ab⟩ | ⟨al,q,o,af,ak,W,Z,a1,am,g⟩
 . have:d=[]:=hF ab
   subst this;exact ⟨none,0,af,Or.inl rfl⟩
 . refine ⟨some (dj al 0),q,af,Or.inr ⟨al,0,rfl,lt_of_heap W,?_,?_,?_,Y⟩⟩
   all_goals
    intro i V;have S:=AJ d i V;rw [eZ W];rw [← g] at S;simp only [xl,Array.getElem?_toList] at S;rw [if_pos N7,if_pos N7,if_pos N7] at S;simp only [fY]
   . exact S.1
   . exact S.2.1
   . exact S.2.2
theorem Tryz.infoTok:(prog.info? 184).map (fun i=>(i.zero,i.size,i.bytes))=some (some (.agg #[di 0,di 0,.string ⟨#[]⟩]),3,32):=by kernel_rfl
theorem wI (s:ByteArray) (a n:Nat) (h:a+n<=s.size):(s.extract a (a+n)).size=n:=by
 rw [ByteArray.size_extract];omega
theorem ownsRow_later {M c:World} {e:TypeId} {size:Nat} {n:Nat} {ao:List Value} (h:M.ownsRow B e size v n ao) (I:dm M c):c.ownsRow B e size v n ao:=by
 obtain ⟨F,J⟩:=h;refine ⟨F,?_⟩
 rcases J with J | ⟨al,q,o,af,ak,W,hrest⟩
 . exact Or.inl J
 . exact Or.inr ⟨al,q,o,af,ak,(I.block al (lt_of_heap W)).trans W,hrest⟩
theorem Gg (w:World) (x y z:Value) (t:TypeId):∀ j u,[x,y,z][j]? = some u->(w.alloc (.cells #[x,y,z] t)).cell? (((dj w.heap.size 0):Addr).add j)=some u:=by
 intro j u a2;have al:(w.alloc (.cells #[x,y,z] t)).heap[w.heap.size]? = some (.cells #[x,y,z] t):=_root_.Go.heap_alloc_new w _
 have:((dj w.heap.size 0):Addr).add j=(dj w.heap.size j):=by simp [Addr.add];exact fun h=>h.symm
 rw [this,eZ al,← a2];simp
theorem Gh (t:Tk):∀ u ∈ qk t,u.oneCell'=true:=by
 intro u aL;simp only [qk,kk,List.not_mem_nil,or_false] at aL
 rcases aL with h | h | h
 all_goals subst h;rfl
end Go.Proofs.YtndkhgakfodldaaGreatDoor
