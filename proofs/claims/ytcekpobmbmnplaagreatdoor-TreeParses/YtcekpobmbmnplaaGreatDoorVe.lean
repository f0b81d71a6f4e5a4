/-
  What must be in any case, of package tree.
-/
import Derived.Test.YtcekpobmbmnplaaGreatDoorVa
import Derived.Deep.RegionHeld
import Derived.Test.YtcekpobmbmnplaaGreatDoorQe
namespace Go.Proofs.YtcekpobmbmnplaaGreatDoor
set_option maxRecDepth 100000
set_option maxHeartbeats 3200000
open Go.RowKit
structure Bg (w W:World) (b3 b7:Nat) (x1:Option Addr) (y1:Nat) (x2:Option Addr) (y2:Nat) (x3:Option Addr) (y3:Nat) (x4:Option Addr) (y4:Nat) (z1:Option Addr) (d1:Nat) (z2:Option Addr) (d2:Nat) (z3:Option Addr) (d3:Nat) (b o d4:Nat):Prop where
 below:Below w.heap.size w W
 h3:W.heap[b3]? = some (.cells #[.string ⟨#[99,110,116]⟩,.slice x1 0 y1,.slice x2 3 y2,.slice x3 1 y3,.slice x4 0 y4] 27 (0,0))
 m3:MoAt W Tt zga (.agg #[.string ⟨#[99,110,116]⟩,.slice x1 0 y1,.slice x2 3 y2,.slice x3 1 y3,.slice x4 0 y4]) x1 y1 x2 y2 x3 y3 x4 y4
 h7:W.heap[b7]? = some (.cells #[.string ⟨#[116,111,112]⟩,.slice z1 1 d1,.slice z2 0 d2,.slice z3 0 d3,.slice (some ⟨b,o,none⟩) 3 d4] 27 (0,0))
 c7:W.cell? ⟨b,o+1,none⟩=some (.string ⟨#[99,110,116]⟩)
 lt:b<W.heap.size
theorem Bg.later {w W W':World} {b3 b7:Nat} {x1 x2 x3 x4 z1 z2 z3:Option Addr} {y1 y2 y3 y4 d1 d2 d3 b o d4:Nat} (h:Bg w W b3 b7 x1 y1 x2 y2 x3 y3 x4 y4 z1 d1 z2 d2 z3 d3 b o d4) (hb:Below W.heap.size W W'):Bg w W' b3 b7 x1 y1 x2 y2 x3 y3 x4 y4 z1 d1 z2 d2 z3 d3 b o d4:=
 ⟨h.below.trans (hb.mono h.below.size),(hb.block _ (zac h.h3)).trans h.h3,h.m3.later hb,(hb.block _ (zac h.h7)).trans h.h7,(hb.cell (p:=⟨b,o+1,none⟩) h.lt).trans h.c7,Nat.lt_of_lt_of_le h.lt hb.size⟩
theorem zhc {w W:World} {b3 b7:Nat} {x1 x2 x3 x4 z1 z2 z3:Option Addr} {y1 y2 y3 y4 d1 d2 d3 b o d4:Nat} (h:Bg w W b3 b7 x1 y1 x2 y2 x3 y3 x4 y4 z1 d1 z2 d2 z3 d3 b o d4):W.cell? ⟨b3,0,none⟩=some (.string ⟨#[99,110,116]⟩)/\W.cell? ⟨b3,1,none⟩=some (.slice x1 0 y1)/\W.cell? ⟨b3,2,none⟩=some (.slice x2 3 y2)/\W.cell? ⟨b3,3,none⟩=some (.slice x3 1 y3)/\W.cell? ⟨b3,4,none⟩=some (.slice x4 0 y4)/\W.cell? ⟨b7,4,none⟩=some (.slice (some ⟨b,o,none⟩) 3 d4)/\W.cell? ⟨b,o+1,none⟩=some (.string ⟨#[99,110,116]⟩):=
 have h3:=zaf h.h3;have h7:=zaf h.h7
 ⟨h3.1,h3.2.1,h3.2.2.1,h3.2.2.2.1,h3.2.2.2.2.1,h7.2.2.2.2.1,h.c7⟩
theorem zch (w:World) (htab:Tab w) :
 Calls Tryz.prog 6 #[] w fun e w'=>e = .returned (.bool true)/\Below w.heap.size w w':=by
 have HTab:=hid htab;clear htab;go_enter Tryz.func6,Tryz.ntmps6;go_wp2_with fail;refine (zhv _).mono ?_;rintro e w1 ⟨v,a1,c1,a2,c2,a3,c3,a4,c4,rfl,hM,hb1⟩;have HM:=hid hM;have HB1:=hid hb1;clear hM hb1;go_wp2_with fail;refine (zgt zga v a1 c1 a2 c2 a3 c3 a4 c4 w1 (HTab.out.later HB1.out) HM.out).mono ?_;rw [znu,zyb];rintro e w2 ⟨rfl,hb2⟩;have HB2:=hid (zab HB1.out hb2);clear hb2 HM HB1 HTab;go_wp2_with fail;refine (zek cntS w2 (by decide)).mono ?_;rintro e w3 ⟨hp,hb3⟩;have HB3:=hid (zab HB2.out hb3);clear hb3 HB2
 rcases hp with ⟨h,_⟩ | ⟨m,u,x1,y1,x2,y2,x3,y3,x4,y4,hm,_,rfl,hM⟩
 . rw [zr6] at h;cases h
 rw [zr6] at hm;cases hm;obtain rfl:u = .agg #[.string ⟨#[99,110,116]⟩,.slice x1 0 y1,.slice x2 3 y2,.slice x3 1 y3,.slice x4 0 y4]:=hM.val;have HM:=hid hM;clear hM;go_wp2_with fail
 obtain ⟨W3,hW3⟩:∃ W3,W3=w3.alloc (.cells #[.string ⟨#[99,110,116]⟩,.slice x1 0 y1,.slice x2 3 y2,.slice x3 1 y3,.slice x4 0 y4] 27):=⟨_,rfl⟩
 have hB3:Below w3.heap.size w3 W3:=by rw [hW3];exact al1 _ _
 have HX3:Hid (W3.heap[w3.heap.size]? = some (.cells #[.string ⟨#[99,110,116]⟩,.slice x1 0 y1,.slice x2 3 y2,.slice x3 1 y3,.slice x4 0 y4] 27 (0,0))):=by rw [hW3];exact heap_newP _ _
 have HBW3:=hid (zab HB3.out hB3);have HM3:=hid (HM.out.later hB3);rw [← hW3];clear hW3 hB3 HM HB3;refine (zek z0k W3 (by decide)).mono ?_;rintro e w4 ⟨hp,hb4⟩;have HBW4:=hid (zab HBW3.out hb4);have HX4:=hid ((hb4.block _ (zac HX3.out)).trans HX3.out);have HM4:=hid (HM3.out.later hb4);clear hb4 HBW3 HX3 HM3
 rcases hp with ⟨_,_,rfl⟩ | ⟨m,_,_,_,_,_,_,_,_,_,hm,_⟩
 rotate_left
 . rw [zr8.1] at hm;cases hm
 rw [zr8.2];go_wp2_with fail;refine (zqx _).mono ?_;rintro e w5 ⟨rfl,h5⟩
 have hB5:Below w4.heap.size w4 w5:=by rw [h5];exact al1 _ _
 have HBW5:=hid (zab HBW4.out hB5);have HX5:=hid ((hB5.block _ (zac HX4.out)).trans HX4.out);have HM5:=hid (HM4.out.later hB5);clear h5 hB5 HBW4 HX4 HM4;go_wp2_with fail;refine (zek z0i w5 (by decide)).mono ?_;rintro e w6 ⟨hp,hb6⟩;have HBW6:=hid (zab HBW5.out hb6);have HX6:=hid ((hb6.block _ (zac HX5.out)).trans HX5.out);have HM6:=hid (HM5.out.later hb6);clear hb6 HBW5 HX5 HM5
 rcases hp with ⟨h,_⟩ | ⟨m,u,z1,d1,z2,d2,z3,d3,z4,d4,hm,_,rfl,hM⟩
 . rw [zr7] at h;cases h
 rw [zr7] at hm;cases hm;obtain rfl:u = .agg #[.string ⟨#[116,111,112]⟩,.slice z1 1 d1,.slice z2 0 d2,.slice z3 0 d3,.slice z4 3 d4]:=hM.val;obtain ⟨b,o,_,_,_,_,_,_,hz4,hS⟩:=hM.main.st 0 (by decide);obtain rfl:z4=some ⟨b,o,none⟩:=hz4;have HC:Hid (w6.cell? ⟨b,o+1,none⟩=some (.string ⟨#[99,110,116]⟩)):=hS.c1;have HL:Hid (b<w6.heap.size):=hS.lt;clear hM hS;go_wp2_with fail
 obtain ⟨W6,hW6⟩:∃ W6,W6=w6.alloc (.cells #[.string ⟨#[116,111,112]⟩,.slice z1 1 d1,.slice z2 0 d2,.slice z3 0 d3,.slice (some ⟨b,o,none⟩) 3 d4] 27):=⟨_,rfl⟩
 have hB6:Below w6.heap.size w6 W6:=by rw [hW6];exact al1 _ _
 have HY:Hid (Bg w W6 w3.heap.size w6.heap.size x1 y1 x2 y2 x3 y3 x4 y4 z1 d1 z2 d2 z3 d3 b o d4):=
  ⟨zab HBW6.out hB6,(hB6.block _ (zac HX6.out)).trans HX6.out,HM6.out.later hB6,by rw [hW6];exact heap_newP _ _,(hB6.cell (p:=⟨b,o+1,none⟩) HL.out).trans HC.out,Nat.lt_of_lt_of_le HL.out hB6.size⟩
 rw [← hW6];clear hW6 hB6 HBW6 HX6 HM6 HC HL;have HCT:Hid (∀ W:World,Calls Tryz.prog 17 #[] W fun e w'=>e = .returned (.string cntS)/\w'=W):=znv
 have HCK:Hid (∀ (v:Value) (a1:Option Addr) (c1:Nat) (a2:Option Addr) (c2:Nat) (a3:Option Addr) (c3:Nat) (a4:Option Addr) (c4:Nat) (W:World),MoAt W Tt zga v a1 c1 a2 c2 a3 c3 a4 c4->Calls Tryz.prog 7 #[v] W fun e w'=>e = .returned (.int .i64 0)/\Below W.heap.size W w'):=fun v a1 c1 a2 c2 a3 c3 a4 c4 W h=>by
  have:=zd9 zga v a1 c1 a2 c2 a3 c3 a4 c4 W h;rw [zns] at this;exact this
 generalize cntS=cs at *;have HY5:=hid (HY.out.later (Below.refl _ _).drew);clear HY;have FF:=hid (zhc HY5.out)
 go_region_held (fun W=>W.cell? ⟨w3.heap.size,0,none⟩=some (.string ⟨#[99,110,116]⟩)/\W.cell? ⟨w3.heap.size,1,none⟩=some (.slice x1 0 y1)/\W.cell? ⟨w3.heap.size,2,none⟩=some (.slice x2 3 y2)/\W.cell? ⟨w3.heap.size,3,none⟩=some (.slice x3 1 y3)/\W.cell? ⟨w3.heap.size,4,none⟩=some (.slice x4 0 y4)/\W.cell? ⟨w6.heap.size,4,none⟩=some (.slice (some ⟨b,o,none⟩) 3 d4)/\W.cell? ⟨b,o+1,none⟩=some (.string ⟨#[99,110,116]⟩)) (exact FF.out)
  (first
  | (go_at_call 15;have HYt:=hid HY8.out;refine (zhv _).mono ?_;rintro e w9 ⟨v9,e1,f1,e2,f2,e3,f3,e4,f4,rfl,hM9,hb9⟩;have HN9:=hid hM9;have HY9:=hid (HYt.out.later hb9);clear hM9 hb9;have FF:=hid (zhc HY9.out))
  | (go_at_call 11;refine (ze4 zga _ v9 x1 y1 x2 y2 x3 y3 x4 y4 e1 f1 e2 f2 e3 f3 e4 f4 _ HY9.out.m3 HN9.out).mono ?_;rintro e w10 ⟨rfl,hb10⟩;have HY10:=hid (HY9.out.later hb10);clear hb10;have FF:=hid (zhc HY10.out))
  | (go_at_call 15;refine (zhv _).mono ?_;rintro e w6a ⟨v6,e1,f1,e2,f2,e3,f3,e4,f4,rfl,hM6,hb6⟩;have HN6:=hid hM6;have HY6:=hid (HY5.out.later hb6);clear hM6 hb6;have FF:=hid (zhc HY6.out))
  | (go_at_call 7;refine (HCK.out _ _ _ _ _ _ _ _ _ _ HN6.out).mono ?_;rintro e w7 ⟨rfl,hb7⟩;have HY7:=hid (HY6.out.later hb7);clear hb7;have FF:=hid (zhc HY7.out))
  | (go_at_call 17;refine (HCT.out _).mono ?_;rintro e w8 ⟨rfl,hw8⟩;obtain rfl:=hw8.symm;have HY8:=hid HY7.out;have FF:=hid (zhc HY8.out)))
 all_goals
  go_wp2_with fail;go_ret;exact ⟨rfl,HY10.out.below⟩
end Go.Proofs.YtcekpobmbmnplaaGreatDoor

namespace Go.Proofs.YtcekpobmbmnplaaGreatDoor
open Go.RowKit
theorem skK (t u:ByteArray) (l:List Tk):skB (kTk t :: l) u=(t.data.toList == u.data.toList):=by
 show (t.toList == u.toList)=_;rw [Lib.toList_data,Lib.toList_data]
theorem skN (n:Int) (u:ByteArray) (l:List Tk) (hu:0<u.size):skB (nTk n :: l) u=false:=by
 show ((⟨#[]⟩:ByteArray).toList == u.toList)=false;rw [Lib.toList_data,Lib.toList_data];have:=Lx.len_toList u
 cases h:u.data.toList with
 | nil=>rw [h] at this;simp at this;omega
 | cons a r=>rfl
def zxx (u:ByteArray):Bool:=kept.contains u.data.toList || !Lx.nameB u.data.toList
theorem skW {n:ByteArray} (hn:zae n=true) (u:ByteArray) (l:List Tk) (hu:zxx u=true):skB (wTk n :: l) u=false:=by
 show (n.toList == u.toList)=false;rw [Lib.toList_data,Lib.toList_data]
 cases h:(n.data.toList == u.data.toList) with
 | false=>rfl
 | true=>
   exfalso
   have e:=beq_iff_eq.1 h;unfold zae zjf at hn;unfold zxx at hu;rw [e,Bool.and_eq_true,Bool.not_eq_true'] at hn;rw [hn.1,hn.2] at hu;cases hu
theorem zgm {n:ByteArray} (hn:zae n=true) (l:List Tk):zc3 (wTk n :: l)=some (n,l):=by
 have hk:zkf n=false:=by
  rw [zrj];unfold zae at hn;rw [Bool.and_eq_true,Bool.not_eq_true'] at hn;exact hn.1
 show (if ((1:Int) == 1 && !zkf n)=true then some (n,l) else none)=some (n,l)
 rw [hk];rfl
theorem z1u (n:Int) (l:List Tk):zh9 (nTk n :: l)=some (n,l):=rfl
def Fol (r:List Tk):Prop:=skB r tDot=false/\skB r tLs=false/\skB r tLp=false
theorem zk2 {t:ByteArray} {l:List Tk} (h:(t.data.toList == tDot.data.toList||(t.data.toList == tLs.data.toList||t.data.toList == tLp.data.toList))=false):Fol (kTk t :: l):=by
 simp only [Bool.or_eq_false_iff] at h;exact ⟨by rw [skK];exact h.1,by rw [skK];exact h.2.1,by rw [skK];exact h.2.2⟩
theorem zjo {s:ByteArray} (hs:s.size=0):s=⟨#[]⟩:=by
 have:s.data.toList=[]:=List.eq_nil_of_length_eq_zero (by rw [Lx.len_toList];exact hs);exact ByteArray.ext (Array.ext' this)
theorem zil {m n:ByteArray} (hn:zae n=true) (hm:m.size=0\/zae m=true) (r:List Tk) (hr:skB r tDot=false):zok (refT m n++r)=some ((m,n),r):=by
 unfold refT;split
 . rename_i h0
   obtain rfl:=zjo h0;show zok (wTk n :: r)=_;unfold zok;rw [zgm hn];show (if skB r tDot=true then _ else _)=_;rw [if_neg (by rw [hr];decide)]
 . rename_i h0
   have hm':=hm.resolve_left h0;show zok (wTk m :: kTk tDot :: wTk n :: r)=_;unfold zok;rw [zgm hm'];show (if skB (kTk tDot :: wTk n :: r) tDot=true then (match zc3 (wTk n :: r) with | none=>none | some (b,l2)=>some ((m,b),l2)) else _)=_;rw [if_pos (by rw [skK];rfl),zgm hn]
theorem zgn {m n:ByteArray} (hn:zae n=true) (hm:m.size=0\/zae m=true) (r:List Tk):∃ a l,refT m n++r=wTk a :: l/\zae a=true:=by
 unfold refT;split
 . exact ⟨n,r,rfl,hn⟩
 . rename_i h0
   exact ⟨m,kTk tDot :: wTk n :: r,rfl,hm.resolve_left h0⟩
theorem zkn {f:Nat} {m n:ByteArray} (hn:zae n=true) (hm:m.size=0\/zae m=true) (r:List Tk) (hr:skB r tDot=false):zbd (f+1) (refT m n++r) =
 if skB r tLs then (match zbd f r.tail with | none=>none | some (x,l2)=>if skB l2 tRs then some (.mk 4 0 m n [x],l2.tail) else none)
 else if skB r tLp then (match zd4 f r.tail with | none=>none | some (xs,l2)=>some (.mk 5 0 m n xs,l2))
 else some (.mk 3 0 m n [],r):=by
 have hR:=zil hn hm r hr;obtain ⟨a,l,e,ha⟩:=zgn hn hm r;rw [e] at hR ⊢;rw [zbd,if_neg (by show ¬ (1:Int)=2;decide),if_neg (by rw [skW ha _ _ (by decide)];decide),if_neg (by rw [skW ha _ _ (by decide)];decide),if_neg (by rw [skW ha _ _ (by decide)];decide),hR]
 rfl
theorem zro {op:Int} (h:7<=op/\op<=15) (l:List Tk):zm4 (opTk op :: l)=some (op - 7).toNat/\Fol (opTk op :: l):=by
 have key:∀ k:Fin 9,opTexts.findIdx? (fun t=>(opTexts.getD k.val ⟨#[]⟩).data.toList == t.data.toList)=some k.val/\((opTexts.getD k.val ⟨#[]⟩).data.toList == tDot.data.toList||((opTexts.getD k.val ⟨#[]⟩).data.toList == tLs.data.toList||(opTexts.getD k.val ⟨#[]⟩).data.toList == tLp.data.toList))=false:=by decide
 have k:=key ⟨(op - 7).toNat,by omega⟩;refine ⟨?_,zk2 k.2⟩;unfold zm4 opTk;rw [← k.1]
 congr 1
 funext t
 exact skK _ _ _
theorem zld {α:Type} {l:List α} (h:l.length=1):∃ a,l=[a]:=by
 match l,h with
 | [a],_=>exact ⟨a,rfl⟩
theorem z0r {α:Type} {l:List α} (h:l.length=2):∃ a b,l=[a,b]:=by
 match l,h with
 | [a,b],_=>exact ⟨a,b,rfl⟩
theorem zay {h:Sh} {n:Nat} {k:Nat} (hc:zas h k=true) (h1:h.least=n) (h2:h.most=n):k=n:=by
 unfold zas at hc;rw [h1,h2] at hc;simp at hc;omega
theorem zrp {x:Ex} (h:exOk x):0<(tE x).length:=by
 cases h with
 | @mk op n m nm args h1 h2 h3 h4 h5=>
   simp only [tE]
   have hr:0<(refT m nm).length:=by unfold refT;split<;>simp
   unfold exTok
   rcases zkl h1 with rfl | rfl | rfl | rfl | rfl | rfl | hop
   . simp
   . simp
   . simpa using hr
   . simp;omega
   . simp;omega
   . simp
   . rw [if_neg (by omega),if_neg (by omega),if_neg (by omega),if_neg (by omega),if_neg (by omega),if_neg (by omega)];simp
def z3h (t:ByteArray):Bool:=zxx t && !(t.data.toList == tIn.data.toList||(t.data.toList == tNot.data.toList||t.data.toList == tLp.data.toList))&&decide (0<t.size)
theorem zrq {x:Ex} (h:exOk x) (t:ByteArray) (ht:z3h t=true) (r:List Tk):skB (tE x++r) t=false:=by
 unfold z3h at ht;simp only [Bool.and_eq_true,Bool.not_eq_true',Bool.or_eq_false_iff,decide_eq_true_eq] at ht;obtain ⟨⟨hw,h1',h2',h3'⟩,h0⟩:=ht
 have sy:∀ u:ByteArray,(t.data.toList == u.data.toList)=false->(u.data.toList == t.data.toList)=false:=fun u h=>by
  rw [Bool.eq_false_iff] at h ⊢;intro e;exact h (beq_iff_eq.2 (beq_iff_eq.1 e).symm)
 cases h with
 | @mk op n m nm args h1 h2 h3 h4 h5=>
   have rf:∀ rr,zae nm=true->(m.size=0\/zae m=true)->skB (refT m nm++rr) t=false:=fun rr a b=>by
    obtain ⟨c,l,e,hc⟩:=zgn a b rr;rw [e,skW hc _ _ hw]
   simp only [tE];unfold exTok
   rcases zkl h1 with rfl | rfl | rfl | rfl | rfl | rfl | hop
   . exact skN _ _ _ h0
   . exact (skK _ _ _).trans (sy _ h1')
   . obtain ⟨a,b⟩:=zbs rfl h2
     exact rf _ a b
   . obtain ⟨a,b⟩:=zbs rfl h2
     show skB ((refT m nm++_)++r) t=false
     rw [List.append_assoc];exact rf _ a b
   . obtain ⟨a,b⟩:=zbs rfl h2
     show skB ((refT m nm++_)++r) t=false
     rw [List.append_assoc];exact rf _ a b
   . exact (skK _ _ _).trans (sy _ h2')
   . rw [if_neg (by omega),if_neg (by omega),if_neg (by omega),if_neg (by omega),if_neg (by omega),if_neg (by omega)]
     exact (skK _ _ _).trans (sy _ h3')
def zet (xs:List Ex):List Tk:=xs.flatMap (fun x=>kTk tCom :: tE x)
theorem zhp:∀ (x:Ex) (xs:List Ex),commas (tEs (x :: xs))=tE x++zet xs
 | x,[]=>by simp [tEs,commas,zet]
 | x,y :: r=>by
   have:=zhp y r;simp only [tEs] at this;simp only [tEs,commas,this,zet,List.flatMap_cons];simp
theorem zop:∀ (xs:List Ex) (f:Nat) (acc:List Ex) (r:List Tk),(∀ x ∈ xs,∀ f r,3*(tE x).length<=f->Fol r->zbd f (tE x++r)=some (x,r))->3*(zet xs).length<f->
 ze0 f acc (zet xs++kTk tRp :: r)=some (acc++xs,r)
 | [],f,acc,r,_,hf=>by
   obtain ⟨f,rfl⟩:∃ g,f=g+1:=⟨f - 1,by omega⟩
   show ze0 (f+1) acc (kTk tRp :: r)=_
   rw [ze0,if_neg (by rw [skK];decide),if_pos (by rw [skK];rfl),List.append_nil];rfl
 | x :: xs,f,acc,r,hx,hf=>by
   obtain ⟨f,rfl⟩:∃ g,f=g+1:=⟨f - 1,by omega⟩
   have e:zet (x :: xs)=kTk tCom :: (tE x++zet xs):=by simp [zet]
   rw [e] at hf ⊢;simp only [List.length_cons,List.length_append] at hf;rw [show (kTk tCom :: (tE x++zet xs))++kTk tRp :: r=kTk tCom :: (tE x++(zet xs++kTk tRp :: r)) from by simp]
   have hF:Fol (zet xs++kTk tRp :: r):=by
    cases xs with
    | nil=>exact zk2 (by decide)
    | cons y ys=>
      rw [show zet (y :: ys)=kTk tCom :: (tE y++zet ys) from by simp [zet]];exact zk2 (by decide)
   rw [ze0,if_pos (by rw [skK];rfl)];show (match zbd f (tE x++(zet xs++kTk tRp :: r)) with | none=>none | some (x,l1)=>ze0 f (acc++[x]) l1)=_;rw [hx x (by simp) f _ (by omega) hF];show ze0 f (acc++[x]) _=_;rw [zop xs f (acc++[x]) r (fun y hy=>hx y (by simp [hy])) (by omega)];simp
theorem zoq {xs:List Ex} (ho:∀ x ∈ xs,exOk x) (hx:∀ x ∈ xs,∀ f r,3*(tE x).length<=f->Fol r->zbd f (tE x++r)=some (x,r)) (f:Nat) (r:List Tk) (hf:3*(commas (tEs xs)).length+2<=f) :
 zd4 f (commas (tEs xs)++kTk tRp :: r)=some (xs,r):=by
 obtain ⟨f,rfl⟩:∃ g,f=g+1:=⟨f - 1,by omega⟩
 cases xs with
 | nil=>
   show zd4 (f+1) (kTk tRp :: r)=_
   rw [zd4,if_pos (by rw [skK];rfl)];rfl
 | cons x xs=>
   rw [zhp] at hf ⊢;simp only [List.length_append] at hf;have hp:=zrp (ho x (by simp));rw [List.append_assoc,zd4,if_neg (by rw [zrq (ho x (by simp)) _ (by decide)];decide)]
   have hF:Fol (zet xs++kTk tRp :: r):=by
    cases xs with
    | nil=>exact zk2 (by decide)
    | cons y ys=>
      rw [show zet (y :: ys)=kTk tCom :: (tE y++zet ys) from by simp [zet]];exact zk2 (by decide)
   rw [hx x (by simp) f _ (by omega) hF];show ze0 f [x] _=_;rw [zop xs f [x] r (fun y hy=>hx y (by simp [hy])) (by omega)]
   rfl
theorem zvq {x:Ex} (h:exOk x):∀ (f:Nat) (r:List Tk),3*(tE x).length<=f->Fol r->zbd f (tE x++r)=some (x,r):=by
 induction h with
 | @mk op n m nm args h1 h2 h3 h4 h5 ih=>
   intro f r hf hr;have hp:=zrp (.mk h1 h2 h3 h4 h5)
   obtain ⟨f,rfl⟩:∃ g,f=g+1:=⟨f - 1,by omega⟩
   simp only [tE] at hf ⊢
   rcases zkl h1 with rfl | rfl | rfl | rfl | rfl | rfl | hop
   . obtain ⟨rfl,rfl⟩:=zbh (sh:=exS 1) rfl h2
     have:=zay (h:=exS 1) (n:=0) h4 rfl rfl;obtain rfl:=List.eq_nil_of_length_eq_zero this;show zbd (f+1) (nTk n :: r)=_
     rw [zbd,if_pos (by rfl)];rfl
   . obtain ⟨rfl,rfl⟩:=zbh (sh:=exS 2) rfl h2
     have:=zay (h:=exS 2) (n:=0) h4 rfl rfl;obtain rfl:=List.eq_nil_of_length_eq_zero this;have hn:n=0:=of_decide_eq_true h3;subst hn;show zbd (f+1) (kTk tIn :: r)=_
     rw [zbd,if_neg (by show ¬ (kTk tIn).kind=2;decide),if_pos (by rw [skK];rfl)];rfl
   . obtain ⟨a,b⟩:=zbs rfl h2
     have:=zay (h:=exS 3) (n:=0) h4 rfl rfl;obtain rfl:=List.eq_nil_of_length_eq_zero this;have hn:n=0:=of_decide_eq_true h3;subst hn;show zbd (f+1) (refT m nm++r)=_;rw [zkn a b r hr.1,if_neg (by rw [hr.2.1];decide),if_neg (by rw [hr.2.2];decide)]
   . obtain ⟨a,b⟩:=zbs rfl h2
     obtain ⟨y,rfl⟩:=zld (zay (h:=exS 4) (n:=1) h4 rfl rfl);have hn:n=0:=of_decide_eq_true h3;subst hn
     have e:exTok 4 0 m nm (tEs [y])=refT m nm++kTk tLs :: (tE y++[kTk tRs]):=by simp [exTok,tEs]
     rw [e] at hf ⊢;simp only [List.length_append,List.length_cons,List.length_nil] at hf;rw [show (refT m nm++kTk tLs :: (tE y++[kTk tRs]))++r=refT m nm++(kTk tLs :: (tE y++kTk tRs :: r)) from by simp];rw [zkn a b _ (by rw [skK];decide),if_pos (by rw [skK];rfl)];show (match zbd f (tE y++kTk tRs :: r) with | none=>none | some (x,l2)=>if skB l2 tRs then some (Ex.mk 4 0 m nm [x],l2.tail) else none)=_;rw [ih y (by simp) f _ (by omega) (zk2 (by decide))];show (if skB (kTk tRs :: r) tRs=true then _ else _)=_
     rw [if_pos (by rw [skK];rfl)];rfl
   . obtain ⟨a,b⟩:=zbs rfl h2
     have hn:n=0:=of_decide_eq_true h3;subst hn
     have e:exTok 5 0 m nm (tEs args)=refT m nm++kTk tLp :: (commas (tEs args)++[kTk tRp]):=by simp [exTok]
     rw [e] at hf ⊢;simp only [List.length_append,List.length_cons,List.length_nil] at hf;rw [show (refT m nm++kTk tLp :: (commas (tEs args)++[kTk tRp]))++r=refT m nm++(kTk tLp :: (commas (tEs args)++kTk tRp :: r)) from by simp];rw [zkn a b _ (by rw [skK];decide),if_neg (by rw [skK];decide),if_pos (by rw [skK];rfl)];show (match zd4 f (commas (tEs args)++kTk tRp :: r) with | none=>none | some (xs,l2)=>some (Ex.mk 5 0 m nm xs,l2))=_;rw [zoq h5 ih f r (by omega)]
   . obtain ⟨rfl,rfl⟩:=zbh (sh:=exS 6) rfl h2
     obtain ⟨y,rfl⟩:=zld (zay (h:=exS 6) (n:=1) h4 rfl rfl);have hn:n=0:=of_decide_eq_true h3;subst hn
     have e:exTok 6 0 ⟨#[]⟩ ⟨#[]⟩ (tEs [y])=kTk tNot :: tE y:=by simp [exTok,tEs]
     rw [e] at hf ⊢;simp only [List.length_cons] at hf;show zbd (f+1) (kTk tNot :: (tE y++r))=_;rw [zbd,if_neg (by show ¬ (kTk tNot).kind=2;decide),if_neg (by rw [skK];decide),if_pos (by rw [skK];rfl)];show (match zbd f (tE y++r) with | none=>none | some (x,l1)=>some (Ex.mk 6 0 ⟨#[]⟩ ⟨#[]⟩ [x],l1))=_;rw [ih y (by simp) f r (by omega) hr]
   . have hS:exS op=⟨false,false,2,2,false,false⟩:=by
      unfold exS zhd
      rw [if_neg (by omega),if_neg (by omega),if_neg (by omega),if_neg (by omega),if_neg (by omega),if_neg (by omega),if_pos hop];rfl
     rw [hS] at h2 h3 h4;obtain ⟨rfl,rfl⟩:=zbh rfl h2;obtain ⟨y,z,rfl⟩:=z0r (zay (n:=2) h4 rfl rfl);have hn:n=0:=of_decide_eq_true h3;subst hn
     have e:exTok op 0 ⟨#[]⟩ ⟨#[]⟩ (tEs [y,z])=kTk tLp :: (tE y++opTk op :: (tE z++[kTk tRp])):=by
      unfold exTok;rw [if_neg (by omega),if_neg (by omega),if_neg (by omega),if_neg (by omega),if_neg (by omega),if_neg (by omega)];simp [tEs]
     rw [e] at hf ⊢;simp only [List.length_append,List.length_cons,List.length_nil] at hf
     obtain ⟨f,rfl⟩:∃ g,f=g+1:=⟨f - 1,by omega⟩
     rw [show (kTk tLp :: (tE y++opTk op :: (tE z++[kTk tRp])))++r=kTk tLp :: (tE y++opTk op :: (tE z++kTk tRp :: r)) from by simp];rw [zbd,if_neg (by show ¬ (kTk tLp).kind=2;decide),if_neg (by rw [skK];decide),if_neg (by rw [skK];decide),if_pos (by rw [skK];rfl)];show zf0 (f+1) (tE y++opTk op :: (tE z++kTk tRp :: r))=_;obtain ⟨o1,o2⟩:=zro hop (tE z++kTk tRp :: r);rw [zf0,ih y (by simp) f _ (by omega) o2];show (match zm4 (opTk op :: (tE z++kTk tRp :: r)) with | none=>none | some k=>(match zbd f (tE z++kTk tRp :: r) with | none=>none | some (b,l2)=>if skB l2 tRp then some (Ex.mk (7+k) 0 ⟨#[]⟩ ⟨#[]⟩ [y,b],l2.tail) else none))=_;rw [o1];show (match zbd f (tE z++kTk tRp :: r) with | none=>none | some (b,l2)=>if skB l2 tRp then some (Ex.mk (7+((op - 7).toNat:Int)) 0 ⟨#[]⟩ ⟨#[]⟩ [y,b],l2.tail) else none)=_;rw [ih z (by simp) f _ (by omega) (zk2 (by decide))]
     show (if skB (kTk tRp :: r) tRp=true then _ else _)=_
     rw [if_pos (by rw [skK];rfl),show (7+((op - 7).toNat:Int))=op from by omega];rfl
end Go.Proofs.YtcekpobmbmnplaaGreatDoor

namespace Go.Proofs.YtcekpobmbmnplaaGreatDoor
open Go.RowKit
theorem zhq {x:Ex} (h:exOk x) (r:List Tk) (hr:Fol r):pX (tE x++r)=some (x,r):=by
 unfold pX;exact zvq h _ r (by rw [List.length_append];omega) hr
theorem zxy {xs:List Ex} (h:∀ x ∈ xs,exOk x) (r:List Tk):pAs (commas (tEs xs)++kTk tRp :: r)=some (xs,r):=by
 unfold pAs;exact zoq h (fun x hx=>zvq (h x hx)) _ r (by rw [List.length_append];omega)
def zvr (s:St):Prop:=∀ (f:Nat) (r:List Tk),3*(tS s).length<=f->skB r tElse=false->zdj f (tS s++r)=some (s,r)
theorem ze2 {s:St} {r:List Tk}:zcy (some (s,kTk tSem :: r))=some (s,r):=by
 show (if skB (kTk tSem :: r) tSem=true then _ else _)=_
 rw [if_pos (by rw [skK];rfl)];rfl
def z29 (t:ByteArray):Bool:=zxx t && !(t.data.toList == tIf.data.toList||(t.data.toList == tWhile.data.toList||(t.data.toList == tReturn.data.toList||t.data.toList == tOut.data.toList)))
theorem zni {s:St} (h:stOk s) (t:ByteArray) (ht:z29 t=true) (r:List Tk):skB (tS s++r) t=false:=by
 unfold z29 at ht;simp only [Bool.and_eq_true,Bool.not_eq_true',Bool.or_eq_false_iff] at ht;obtain ⟨hw,h1',h2',h3',h4'⟩:=ht
 have sy:∀ u:ByteArray,(t.data.toList == u.data.toList)=false->(u.data.toList == t.data.toList)=false:=fun u h=>by
  rw [Bool.eq_false_iff] at h ⊢;intro e;exact h (beq_iff_eq.2 (beq_iff_eq.1 e).symm)
 cases h with
 | @mk op m nm args body other h1 h2 h3 h4 h5 h6 h7 h8=>
   have rf:∀ rr,zae nm=true->(m.size=0\/zae m=true)->skB (refT m nm++rr) t=false:=fun rr a b=>by
    obtain ⟨c,l,e,hc⟩:=zgn a b rr;rw [e,skW hc _ _ hw]
   simp only [tS];unfold zbv zb0
   rcases zl9 h1 with rfl | rfl | rfl | rfl | rfl | rfl | rfl
   . obtain ⟨a,b⟩:=zbs rfl h2
     show skB (((refT m nm++_)++_)++r) t=false
     rw [List.append_assoc,List.append_assoc];exact rf _ a b
   . obtain ⟨a,b⟩:=zbs rfl h2
     show skB (((refT m nm++_)++_)++r) t=false
     rw [List.append_assoc,List.append_assoc];exact rf _ a b
   . obtain ⟨a,b⟩:=zbs rfl h2
     show skB (((refT m nm++_)++_)++r) t=false
     rw [List.append_assoc,List.append_assoc];exact rf _ a b
   . exact (skK _ _ _).trans (sy _ h1')
   . exact (skK _ _ _).trans (sy _ h2')
   . exact (skK _ _ _).trans (sy _ h3')
   . exact (skK _ _ _).trans (sy _ h4')
theorem zor {l:List St} (h:∀ s ∈ l,stOk s) (t:ByteArray) (ht:z29 t=true) (hb:(tRb.data.toList == t.data.toList)=false) (r:List Tk):skB (tSs l++kTk tRb :: r) t=false:=by
 cases l with
 | nil=>show skB (kTk tRb :: r) t=false;rw [skK];exact hb
 | cons s l=>simp only [tSs,List.append_assoc];exact zni (h s (by simp)) t ht _
theorem zrr {s:St} (h:stOk s):0<(tS s).length:=by
 cases hl:tS s with
 | cons a l=>simp
 | nil=>
   exfalso
   cases h with
   | @mk op m nm args body other h1 h2 h3 h4 h5 h6 h7 h8=>
     simp only [tS,zbv] at hl
     split at hl
     . cases hl
     split at hl
     . cases hl
     . simp at hl
theorem zrs:∀ (l:List St),(∀ s ∈ l,stOk s)->(∀ s ∈ l,zvr s)->∀ (f:Nat) (acc:List St) (r:List Tk),3*(tSs l).length<f->zdp f acc (tSs l++kTk tRb :: r)=some (acc++l,r)
 | [],_,_,f,acc,r,hf=>by
   obtain ⟨f,rfl⟩:∃ g,f=g+1:=⟨f - 1,by omega⟩
   show zdp (f+1) acc (kTk tRb :: r)=_
   rw [zdp,if_pos (by rw [skK];rfl),List.append_nil];rfl
 | s :: l,ho,hs,f,acc,r,hf=>by
   obtain ⟨f,rfl⟩:∃ g,f=g+1:=⟨f - 1,by omega⟩
   have hp:=zrr (ho s (by simp));simp only [tSs,List.length_append] at hf;simp only [tSs,List.append_assoc];rw [zdp,if_neg (by rw [zni (ho s (by simp)) _ (by decide)];decide),hs s (by simp) f _ (by omega) (zor (fun x hx=>ho x (by simp [hx])) _ (by decide) (by decide) r)];show zdp f (acc++[s]) _=_;rw [zrs l (fun x hx=>ho x (by simp [hx])) (fun x hx=>hs x (by simp [hx])) f (acc++[s]) r (by omega)];simp
theorem zg6 {l:List St} (ho:∀ s ∈ l,stOk s) (hs:∀ s ∈ l,zvr s) (f:Nat) (r:List Tk) (hf:3*(brT (tSs l)).length<=f):zbz f (brT (tSs l)++r)=some (l,r):=by
 unfold brT at hf ⊢;simp only [List.length_append,List.length_cons,List.length_nil] at hf
 obtain ⟨f,rfl⟩:∃ g,f=g+1:=⟨f - 1,by omega⟩
 rw [show (kTk tLb :: (tSs l++[kTk tRb]))++r=kTk tLb :: (tSs l++kTk tRb :: r) from by simp];rw [zbz,if_pos (by rw [skK];rfl)];show zdp f [] (tSs l++kTk tRb :: r)=_
 rw [zrs l ho hs f [] r (by omega)];rfl
theorem znj (x r:List Tk):Fol (brT x++r):=zk2 (by decide)
theorem zhr {m nm:ByteArray} (a:zae nm=true) (b:m.size=0\/zae m=true) (f:Nat) (r:List Tk):zdj (f+1) (refT m nm++r)=zcy (zb4 (refT m nm++r)):=by
 obtain ⟨c,l,e,hc⟩:=zgn a b r;rw [e];exact zf2 (skW hc _ _ (by decide)) (skW hc _ _ (by decide)) (skW hc _ _ (by decide)) (skW hc _ _ (by decide))
theorem zz6 {s:St} (h:stOk s):zvr s:=by
 induction h with
 | @mk op m nm args body other h1 h2 h3 h4 h5 h6 h7 h8 ih1 ih2=>
   intro f r hf hr;have hp:=zrr (.mk h1 h2 h3 h4 h5 h6 h7 h8)
   obtain ⟨f,rfl⟩:∃ g,f=g+1:=⟨f - 1,by omega⟩
   simp only [tS] at hf ⊢
   rcases zl9 h1 with rfl | rfl | rfl | rfl | rfl | rfl | rfl
   . obtain ⟨a,b⟩:=zbs rfl h2
     obtain ⟨y,rfl⟩:=zld (zay (h:=stS 1) (n:=1) h3 rfl rfl);obtain rfl:=h5.resolve_left (by decide);obtain rfl:=h6.resolve_left (by decide);rw [show zbv 1 m nm (tEs [y]) (tSs []) (tSs []) (([]:List St).length)++r=refT m nm++kTk tEq :: (tE y++kTk tSem :: r) from by simp [zbv,zb0,tEs]];rw [zhr a b];unfold zb4;rw [zil a b _ (by rw [skK];decide)];show zcy (if skB (kTk tEq :: (tE y++kTk tSem :: r)) tEq=true then (match pX (tE y++kTk tSem :: r) with | none=>none | some (x,l2)=>some (St.mk 1 m nm [x] [] [],l2)) else _)=_;rw [if_pos (by rw [skK];rfl),zhq (h4 y (by simp)) _ (zk2 (by decide))];exact ze2
   . obtain ⟨a,b⟩:=zbs rfl h2
     obtain ⟨y,z,rfl⟩:=z0r (zay (h:=stS 2) (n:=2) h3 rfl rfl);obtain rfl:=h5.resolve_left (by decide);obtain rfl:=h6.resolve_left (by decide);rw [show zbv 2 m nm (tEs [y,z]) (tSs []) (tSs []) (([]:List St).length)++r=refT m nm++kTk tLs :: (tE y++kTk tRs :: kTk tEq :: (tE z++kTk tSem :: r)) from by simp [zbv,zb0,tEs]];rw [zhr a b];unfold zb4;rw [zil a b _ (by rw [skK];decide)]
     show zcy (if skB (kTk tLs :: (tE y++kTk tRs :: kTk tEq :: (tE z++kTk tSem :: r))) tEq=true then _ else if skB (kTk tLs :: (tE y++kTk tRs :: kTk tEq :: (tE z++kTk tSem :: r))) tLs=true then (match pX (tE y++kTk tRs :: kTk tEq :: (tE z++kTk tSem :: r)) with
      | none=>none
      | some (x,l2)=>if skB l2 tRs then (if skB l2.tail tEq then (match pX l2.tail.tail with | none=>none | some (y,l3)=>some (St.mk 2 m nm [x,y] [] [],l3)) else none) else none) else _)=_
     rw [if_neg (by rw [skK];decide),if_pos (by rw [skK];rfl),zhq (h4 y (by simp)) _ (zk2 (by decide))];show zcy (if skB (kTk tRs :: kTk tEq :: (tE z++kTk tSem :: r)) tRs=true then (if skB (kTk tEq :: (tE z++kTk tSem :: r)) tEq=true then (match pX (tE z++kTk tSem :: r) with | none=>none | some (w,l3)=>some (St.mk 2 m nm [y,w] [] [],l3)) else none) else none)=_;rw [if_pos (by rw [skK];rfl),if_pos (by rw [skK];rfl),zhq (h4 z (by simp)) _ (zk2 (by decide))];exact ze2
   . obtain ⟨a,b⟩:=zbs rfl h2
     obtain rfl:=h5.resolve_left (by decide);obtain rfl:=h6.resolve_left (by decide);rw [show zbv 3 m nm (tEs args) (tSs []) (tSs []) (([]:List St).length)++r=refT m nm++kTk tLp :: (commas (tEs args)++kTk tRp :: kTk tSem :: r) from by simp [zbv,zb0]];rw [zhr a b];unfold zb4;rw [zil a b _ (by rw [skK];decide)];show zcy (if skB (kTk tLp :: (commas (tEs args)++kTk tRp :: kTk tSem :: r)) tEq=true then _ else if skB (kTk tLp :: (commas (tEs args)++kTk tRp :: kTk tSem :: r)) tLs=true then _ else if skB (kTk tLp :: (commas (tEs args)++kTk tRp :: kTk tSem :: r)) tLp=true then (match pAs (commas (tEs args)++kTk tRp :: kTk tSem :: r) with | none=>none | some (xs,l2)=>some (St.mk 3 m nm xs [] [],l2)) else _)=_;rw [if_neg (by rw [skK];decide),if_neg (by rw [skK];decide),if_pos (by rw [skK];rfl),zxy h4];exact ze2
   . obtain ⟨rfl,rfl⟩:=zbh (sh:=stS 4) rfl h2
     obtain ⟨y,rfl⟩:=zld (zay (h:=stS 4) (n:=1) h3 rfl rfl)
     have eo:zbv 4 ⟨#[]⟩ ⟨#[]⟩ (tEs [y]) (tSs body) (tSs other) other.length=kTk tIf :: (tE y++(brT (tSs body)++(if other.length=0 then [] else kTk tElse :: brT (tSs other)))):=by simp [zbv,tEs]
     rw [eo] at hf ⊢;simp only [List.length_append,List.length_cons] at hf;rw [show (kTk tIf :: (tE y++(brT (tSs body)++(if other.length=0 then [] else kTk tElse :: brT (tSs other)))))++r=kTk tIf :: (tE y++(brT (tSs body)++((if other.length=0 then [] else kTk tElse :: brT (tSs other))++r))) from by simp];rw [zm6 (by rw [skK];rfl)];show zdf f (tE y++(brT (tSs body)++((if other.length=0 then [] else kTk tElse :: brT (tSs other))++r)))=_;unfold zdf;rw [zhq (h4 y (by simp)) _ (znj _ _)]
     show (match zbz f (brT (tSs body)++((if other.length=0 then [] else kTk tElse :: brT (tSs other))++r)) with
      | none=>none
      | some (b,l2)=>if skB l2 tElse then (match zbz f l2.tail with | none=>none | some (o,l3)=>if o.length=0 then none else some (St.mk 4 ⟨#[]⟩ ⟨#[]⟩ [y] b o,l3)) else some (St.mk 4 ⟨#[]⟩ ⟨#[]⟩ [y] b [],l2))=_
     rw [zg6 h7 ih1 f _ (by omega)]
     by_cases h0:other.length=0
     . obtain rfl:=List.eq_nil_of_length_eq_zero h0
       show (if skB r tElse=true then _ else _)=_
       rw [if_neg (by rw [hr];decide)];rfl
     . rw [if_neg h0] at hf ⊢
       simp only [List.length_cons] at hf;show (if skB (kTk tElse :: (brT (tSs other)++r)) tElse=true then (match zbz f (brT (tSs other)++r) with | none=>none | some (o,l3)=>if o.length=0 then none else some (St.mk 4 ⟨#[]⟩ ⟨#[]⟩ [y] body o,l3)) else _)=_;rw [if_pos (by rw [skK];rfl),zg6 h8 ih2 f _ (by omega)];show (if other.length=0 then none else _)=_;rw [if_neg h0]
   . obtain ⟨rfl,rfl⟩:=zbh (sh:=stS 5) rfl h2
     obtain ⟨y,rfl⟩:=zld (zay (h:=stS 5) (n:=1) h3 rfl rfl);obtain rfl:=h6.resolve_left (by decide)
     have eo:zbv 5 ⟨#[]⟩ ⟨#[]⟩ (tEs [y]) (tSs body) (tSs []) (([]:List St).length)=kTk tWhile :: (tE y++brT (tSs body)):=by simp [zbv,tEs]
     rw [eo] at hf ⊢;simp only [List.length_append,List.length_cons] at hf;rw [show (kTk tWhile :: (tE y++brT (tSs body)))++r=kTk tWhile :: (tE y++(brT (tSs body)++r)) from by simp];rw [zf1 (by rw [skK];decide) (by rw [skK];rfl)]
     show (match pX (tE y++(brT (tSs body)++r)) with
      | none=>none
      | some (x,l1)=>match zbz f l1 with | none=>none | some (b,l2)=>some (St.mk 5 ⟨#[]⟩ ⟨#[]⟩ [x] b [],l2))=_
     rw [zhq (h4 y (by simp)) _ (znj _ _)];show (match zbz f (brT (tSs body)++r) with | none=>none | some (b,l2)=>some (St.mk 5 ⟨#[]⟩ ⟨#[]⟩ [y] b [],l2))=_;rw [zg6 h7 ih1 f _ (by omega)]
   . obtain ⟨rfl,rfl⟩:=zbh (sh:=stS 6) rfl h2
     obtain ⟨y,rfl⟩:=zld (zay (h:=stS 6) (n:=1) h3 rfl rfl);obtain rfl:=h5.resolve_left (by decide);obtain rfl:=h6.resolve_left (by decide);rw [show zbv 6 ⟨#[]⟩ ⟨#[]⟩ (tEs [y]) (tSs []) (tSs []) (([]:List St).length)++r=kTk tReturn :: (tE y++kTk tSem :: r) from by simp [zbv,zb0,tEs]];rw [zfd (by rw [skK];decide) (by rw [skK];decide) (by rw [skK];rfl)];show zcy (match pX (tE y++kTk tSem :: r) with | none=>none | some (x,l1)=>some (St.mk 6 ⟨#[]⟩ ⟨#[]⟩ [x] [] [],l1))=_;rw [zhq (h4 y (by simp)) _ (zk2 (by decide))];exact ze2
   . obtain ⟨rfl,rfl⟩:=zbh (sh:=stS 7) rfl h2
     obtain ⟨y,rfl⟩:=zld (zay (h:=stS 7) (n:=1) h3 rfl rfl);obtain rfl:=h5.resolve_left (by decide);obtain rfl:=h6.resolve_left (by decide);rw [show zbv 7 ⟨#[]⟩ ⟨#[]⟩ (tEs [y]) (tSs []) (tSs []) (([]:List St).length)++r=kTk tOut :: (tE y++kTk tSem :: r) from by simp [zbv,zb0,tEs]];rw [zia (by rw [skK];decide) (by rw [skK];decide) (by rw [skK];decide) (by rw [skK];rfl)];show zcy (match pX (tE y++kTk tSem :: r) with | none=>none | some (x,l1)=>some (St.mk 7 ⟨#[]⟩ ⟨#[]⟩ [x] [] [],l1))=_;rw [zhq (h4 y (by simp)) _ (zk2 (by decide))];exact ze2
theorem zvs {l:List St} (h:∀ s ∈ l,stOk s) (r:List Tk):pB (brT (tSs l)++r)=some (l,r):=by
 unfold pB;exact zg6 h (fun s hs=>zz6 (h s hs)) _ r (by rw [List.length_append];omega)
end Go.Proofs.YtcekpobmbmnplaaGreatDoor
