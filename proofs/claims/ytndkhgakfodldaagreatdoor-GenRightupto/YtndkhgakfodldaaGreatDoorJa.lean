/-
  Package obj: objects as they lie in memory; the small questions of Check.
-/
import Derived.Test.YtndkhgakfodldaaGreatDoorNl
import Derived.Test.YtndkhgakfodldaaGreatDoorUn
namespace Go.Proofs.YtndkhgakfodldaaGreatDoor
set_option maxRecDepth 100000
open Go.RowKit Go.Maps Go.WideMaps
set_option linter.unusedSimpArgs false
set_option linter.unusedVariables false
def Gi.ds (i:Gi):List D:=[.int i.op,.int i.a,.int i.b]
def gisD (l:List Gi):List D:=l.flatMap Gi.ds
def Gf.ds (f:Gf):List D:=[.int f.at_,.int f.kind,.int f.m]
def gfsD (l:List Gf):List D:=l.flatMap Gf.ds
def intD (l:List Int):List D:=l.map D.int
def Ob.ds (o:Ob):List D:=[.str o.name,.list o.uses.length (strsD o.uses),.int o.data,.list o.code.length (gisD o.code),.list o.fixes.length (gfsD o.fixes),.list o.entries.length (intD o.entries),.int o.main]
structure OvAt (w:World) (o:Ob) (x1:Option Addr) (x3:Option Addr) (x4:Option Addr) (x5:Option Addr):Prop where
 wn:o.name.size<=maxLen
 uses:DAt w Tt x1 o.uses.length (strsD o.uses)
 wd:(Lit.int .i64 o.data).wf=true
 code:DAt w Tt x3 o.code.length (gisD o.code)
 fixes:DAt w Tt x4 o.fixes.length (gfsD o.fixes)
 entries:DAt w Tt x5 o.entries.length (intD o.entries)
 wm:(Lit.int .i64 o.main).wf=true
theorem OvAt.later {w w':World} {o:Ob} {x1 x3 x4 x5:Option Addr} (h:OvAt w o x1 x3 x4 x5) (hb:Below w.heap.size w w'):OvAt w' o x1 x3 x4 x5:=
 ⟨h.wn,h.uses.later hb,h.wd,h.code.later hb,h.fixes.later hb,h.entries.later hb,h.wm⟩
def oMany (o:Ob):Bool:=decide (3<o.uses.length)||(decide (6<o.entries.length)||(decide (o.code.length<1)||decide (2048<o.code.length)))
def placeB (o:Ob) (x:Int):Bool:=decide (0<=x/\x<o.code.length)
theorem oName_any (s:ByteArray) (w:World) (hs:s.size<=maxLen) :
 Calls Tryz.prog 131 #[.string s] w fun e w'=>e = .returned (.bool (Lx.nameB s.data.toList))/\Below w.heap.size w w':=by
 have HK:Hid ((checkN [⟨1,0,s⟩] == 0)=Lx.nameB s.data.toList):=by rw [← okB_name];exact checkN_one ⟨1,0,s⟩ rfl
 have HC:Hid (∀ (w1:World) (n:Nat),n=w1.heap.size->Calls Tryz.prog 116 #[.slice (some ⟨n,0,none⟩) 1 1] (w1.alloc (.cells #[.int .i64 1,.int .i64 0,.string s] 184)) fun e w'=>e = .returned (.int .i64 (checkN [⟨1,0,s⟩]))/\Below w1.heap.size w1 w'):=
  fun w1 n hn=>by
   subst hn;refine (Check_any _ 1 [⟨1,0,s⟩] _ (tok_new ⟨1,0,s⟩ w1 hs) (by simp)).mono ?_;rintro e w' ⟨rfl,hb⟩;exact ⟨rfl,((Below.refl _ _).alloc (Nat.le_refl _) _).trans (hb.mono (by simp))⟩
 go_enter Tryz.func131,Tryz.ntmps131
 go_wp2_with (go_at_call 116;refine (HC.out _ _ (by simp)).mono ?_;rintro e w' ⟨rfl,hb⟩)
 go_ret;exact ⟨ret_bool HK.out,hb⟩
theorem oPlace_any (o:Ob) (s:ByteArray) (x1:Option Addr) (n1 y1:Nat) (d:Int) (x3:Option Addr) (y3:Nat) (x4:Option Addr) (n4 y4:Nat) (x5:Option Addr) (n5 y5:Nat) (m x:Int) (w:World) (hb:o.code.length<=17592186044416) :
 Calls Tryz.prog 132 #[.agg #[.string s,.slice x1 n1 y1,.int .i64 d,.slice x3 o.code.length y3,.slice x4 n4 y4,.slice x5 n5 y5,.int .i64 m],.int .i64 x] w fun e w'=>e = .returned (.bool (placeB o x))/\Below w.heap.size w w':=by
 by_cases t:0<=x
 . have HR:Hid (placeB o x=decide (x<o.code.length)):=by show _=_;unfold placeB;exact decide_eq_decide.2 ⟨fun h=>h.2,fun h=>⟨t,h⟩⟩
   go_enter Tryz.func132,Tryz.ntmps132;go_wp2_with fail;go_ret;exact ⟨ret_bool (by first | exact HR.out.symm | (rw [HR.out]<;>first | (simp;omega) | (simp [*];done))),al1 _ _⟩
 . have HR:Hid (placeB o x=false):=by show _=_;unfold placeB;exact decide_eq_false (fun h=>t h.1)
   have t':x<0:=by omega
   clear t;go_enter Tryz.func132,Tryz.ntmps132;go_wp2_with fail;go_ret;exact ⟨ret_bool (by first | exact HR.out.symm | (rw [HR.out]<;>first | (simp;omega) | (simp [*];done))),al1 _ _⟩
theorem oMany_any (o:Ob) (s:ByteArray) (x1:Option Addr) (y1:Nat) (d:Int) (x3:Option Addr) (y3:Nat) (x4:Option Addr) (n4 y4:Nat) (x5:Option Addr) (y5:Nat) (m:Int) (w:World) (h1:o.uses.length<=17592186044416) (h3:o.code.length<=17592186044416) (h5:o.entries.length<=17592186044416) :
 Calls Tryz.prog 81 #[.agg #[.string s,.slice x1 o.uses.length y1,.int .i64 d,.slice x3 o.code.length y3,.slice x4 n4 y4,.slice x5 o.entries.length y5,.int .i64 m]] w fun e w'=>e = .returned (.bool (oMany o))/\Below w.heap.size w w':=by
 have HR:Hid (oMany o=(decide (3<o.uses.length)||(decide (6<o.entries.length)||(decide (o.code.length<1)||decide (2048<o.code.length))))):=rfl
 by_cases t1:3<o.uses.length
 . have HT:Hid (oMany o=true):=by show _=_;rw [HR.out,decide_eq_true t1];rfl
   have t1':(3:Int)<o.uses.length:=by omega
   go_enter Tryz.func81,Tryz.ntmps81;go_wp2_with fail;go_ret;exact ⟨ret_bool (by first | exact HT.out.symm | (rw [HT.out]<;>first | (simp;omega) | (simp [*];done))),al1 _ _⟩
 by_cases t2:6<o.entries.length
 . have HT:Hid (oMany o=true):=by show _=_;rw [HR.out,decide_eq_true t2,decide_eq_false t1];rfl
   have t1':¬ (3:Int)<o.uses.length:=by omega
   have t2':(6:Int)<o.entries.length:=by omega
   go_enter Tryz.func81,Tryz.ntmps81;go_wp2_with fail;go_ret;exact ⟨ret_bool (by first | exact HT.out.symm | (rw [HT.out]<;>first | (simp;omega) | (simp [*];done))),al1 _ _⟩
 have t1':¬ (3:Int)<o.uses.length:=by omega
 have t2':¬ (6:Int)<o.entries.length:=by omega
 by_cases t3:o.code.length<1
 . have HT:Hid (oMany o=true):=by show _=_;rw [HR.out,decide_eq_true t3,decide_eq_false t1,decide_eq_false t2];rfl
   have t3':(o.code.length:Int)<1:=by omega
   clear t3;go_enter Tryz.func81,Tryz.ntmps81;go_wp2_with fail;go_ret;exact ⟨ret_bool (by first | exact HT.out.symm | (rw [HT.out]<;>first | (simp;omega) | (simp [*];done))),al1 _ _⟩
 . have HT:Hid (oMany o=decide (2048<o.code.length)):=by show _=_;rw [HR.out,decide_eq_false t3,decide_eq_false t1,decide_eq_false t2];rfl
   have t3':¬ (o.code.length:Int)<1:=by omega
   clear t3;go_enter Tryz.func81,Tryz.ntmps81;go_wp2_with fail;go_ret;exact ⟨ret_bool (by first | exact HT.out.symm | (rw [HT.out]<;>first | (simp;omega) | (simp [*];done))),al1 _ _⟩
end Go.Proofs.YtndkhgakfodldaaGreatDoor

namespace Go.Proofs.YtndkhgakfodldaaGreatDoor
set_option maxRecDepth 100000
open Go.RowKit Go.Maps Go.WideMaps
set_option linter.unusedSimpArgs false
set_option linter.unusedVariables false
structure GiAt (w:World) (b o:Nat) (x:Gi):Prop where
 lt:b<w.heap.size
 c0:w.cell? ⟨b,o,none⟩=some (.int .i64 x.op)
 c1:w.cell? ⟨b,o+1,none⟩=some (.int .i64 x.a)
 c2:w.cell? ⟨b,o+2,none⟩=some (.int .i64 x.b)
 w0:(Lit.int .i64 x.op).wf=true
 w1:(Lit.int .i64 x.a).wf=true
 w2:(Lit.int .i64 x.b).wf=true
theorem DAt.gi {w:World} {A:Nat->Prop} {a:Option Addr} {l:List Gi} (h:DAt w A a l.length (gisD l)) (i:Nat) (hi:i<l.length):∃ b off,a=some ⟨b,off,none⟩/\GiAt w b (off+i*3) l[i]:=by
 obtain ⟨b,off,ha,hb,hc⟩:=h.cell (by omega);generalize hx:l[i]=x;obtain ⟨op,a',b'⟩:=x
 have g:∀ j d,j<3->(Gi.mk op a' b').ds[j]? = some d->∃ v,w.cell? ⟨b,off+i*3+j,none⟩=some v/\DVal w A d v:=fun j d hj hd=>by
  rw [Nat.add_assoc];exact hc (i*3+j) d ((flat_get Gi.ds 3 (fun _=>rfl) l i hi j hj).trans (by rw [hx];exact hd))
 obtain ⟨v0,q0,d0⟩:=g 0 (.int op) (by omega) (by simp [Gi.ds]);obtain ⟨v1,q1,d1⟩:=g 1 (.int a') (by omega) (by simp [Gi.ds]);obtain ⟨v2,q2,d2⟩:=g 2 (.int b') (by omega) (by simp [Gi.ds]);obtain ⟨rfl,w0⟩:=dnum_of d0;obtain ⟨rfl,w1⟩:=dnum_of d1;obtain ⟨rfl,w2⟩:=dnum_of d2;exact ⟨b,off,ha,hb,q0,q1,q2,w0,w1,w2⟩
structure GfAt (w:World) (b o:Nat) (x:Gf):Prop where
 lt:b<w.heap.size
 c0:w.cell? ⟨b,o,none⟩=some (.int .i64 x.at_)
 c1:w.cell? ⟨b,o+1,none⟩=some (.int .i64 x.kind)
 c2:w.cell? ⟨b,o+2,none⟩=some (.int .i64 x.m)
 w0:(Lit.int .i64 x.at_).wf=true
 w1:(Lit.int .i64 x.kind).wf=true
 w2:(Lit.int .i64 x.m).wf=true
theorem DAt.gf {w:World} {A:Nat->Prop} {a:Option Addr} {l:List Gf} (h:DAt w A a l.length (gfsD l)) (i:Nat) (hi:i<l.length):∃ b off,a=some ⟨b,off,none⟩/\GfAt w b (off+i*3) l[i]:=by
 obtain ⟨b,off,ha,hb,hc⟩:=h.cell (by omega);generalize hx:l[i]=x;obtain ⟨op,a',b'⟩:=x
 have g:∀ j d,j<3->(Gf.mk op a' b').ds[j]? = some d->∃ v,w.cell? ⟨b,off+i*3+j,none⟩=some v/\DVal w A d v:=fun j d hj hd=>by
  rw [Nat.add_assoc];exact hc (i*3+j) d ((flat_get Gf.ds 3 (fun _=>rfl) l i hi j hj).trans (by rw [hx];exact hd))
 obtain ⟨v0,q0,d0⟩:=g 0 (.int op) (by omega) (by simp [Gf.ds]);obtain ⟨v1,q1,d1⟩:=g 1 (.int a') (by omega) (by simp [Gf.ds]);obtain ⟨v2,q2,d2⟩:=g 2 (.int b') (by omega) (by simp [Gf.ds]);obtain ⟨rfl,w0⟩:=dnum_of d0;obtain ⟨rfl,w1⟩:=dnum_of d1;obtain ⟨rfl,w2⟩:=dnum_of d2;exact ⟨b,off,ha,hb,q0,q1,q2,w0,w1,w2⟩
theorem DAt.num {w:World} {A:Nat->Prop} {a:Option Addr} {l:List Int} (h:DAt w A a l.length (intD l)) (i:Nat) (hi:i<l.length):∃ b off,a=some ⟨b,off,none⟩/\b<w.heap.size/\w.cell? ⟨b,off+i,none⟩=some (.int .i64 l[i])/\(Lit.int .i64 l[i]).wf=true:=by
 obtain ⟨b,off,ha,hb,hc⟩:=h.cell (by omega);obtain ⟨v0,q0,d0⟩:=hc i (.int l[i]) (by simp [intD,hi]);obtain ⟨rfl,w0⟩:=dnum_of d0;exact ⟨b,off,ha,hb,q0,w0⟩
def okF (a far m uses:Int):Bool:=decide (0<=a)&&(decide (a<=far)&&(decide (0<=m)&&decide (m<=uses)))
def aAt (o:Ob) (x:Int):Int:=match o.code[x.toNat]? with | some i=>i.a | none=>0
def fixB (o:Ob) (f:Gf):Bool:=
 if f.kind=1 then okF (aAt o f.at_) o.code.length f.m 0
 else if f.kind=2\/f.kind=3 then okF (aAt o f.at_) 2048 f.m o.uses.length
 else false
end Go.Proofs.YtndkhgakfodldaaGreatDoor

namespace Go.Proofs.YtndkhgakfodldaaGreatDoor
open Go.RowKit Go.Maps Go.WideMaps
def allTo (n:Nat) (q:Nat->Bool):Bool:=(List.range n).all q
theorem allTo_true {n:Nat} {q:Nat->Bool}:allTo n q=true↔∀ i,i<n->q i=true:=by simp [allTo]
theorem allTo_false {n:Nat} {q:Nat->Bool} {i:Nat} (h:i<n) (hq:q i=false):allTo n q=false:=by
 cases e:allTo n q with
 | false=>rfl
 | true=>rw [allTo_true.1 e i h] at hq;cases hq
theorem upto_succ {q:Nat->Bool} {j:Nat} (h:∀ k,k<j->q k=true) (hq:q j=true):∀ k,k<j+1->q k=true:=fun k hk=>by
 rcases Nat.lt_or_ge k j with h1 | h1
 . exact h k h1
 . obtain rfl:k=j:=by omega
   exact hq
theorem str_beq (a b:ByteArray):(a.toList == b.toList)=decide (a=b):=by
 rw [Bool.eq_iff_iff];simp only [beq_iff_eq,decide_eq_true_eq]
 constructor
 . intro h
   rw [Lib.toList_data,Lib.toList_data] at h;exact bytes_inj h
 . rintro rfl;rfl
def opB (i:Gi):Bool:=decide (1<=i.op/\i.op<=22)
def opAt (o:Ob) (j:Nat):Bool:=match o.code[j]? with | some i=>opB i | none=>true
def entAt (o:Ob) (j:Nat):Bool:=match o.entries[j]? with | some x=>placeB o x | none=>true
def dataB (o:Ob):Bool:=placeB o o.main&&decide (0<=o.data/\o.data<=512)
def codeB (o:Ob):Bool:=allTo o.code.length (opAt o)&&(allTo o.entries.length (entAt o)&&dataB o)
def useAt (o:Ob) (i:Nat):Bool:=match o.uses[i]? with | some x=>Lx.nameB x.data.toList&&(!decide (x=o.name) && !Go.Lib.containsS (o.uses.take i) x) | none=>true
def namesB (o:Ob):Bool:=Lx.nameB o.name.data.toList&&allTo o.uses.length (useAt o)
def lastAt (o:Ob):Nat->Int
 | 0=>-1
 | j+1=>match o.fixes[j]? with | some f=>f.at_ | none=>-1
def fixAt (o:Ob) (j:Nat):Bool:=match o.fixes[j]? with | some f=>decide (lastAt o j<f.at_)&&(placeB o f.at_&&fixB o f) | none=>true
def fixesB (o:Ob):Bool:=allTo o.fixes.length (fixAt o)
def oChk (o:Ob):Int:=if oMany o=true then 2 else if (namesB o&&(codeB o&&fixesB o))=true then 0 else 1
end Go.Proofs.YtndkhgakfodldaaGreatDoor

namespace Go.Proofs.YtndkhgakfodldaaGreatDoor
set_option linter.unusedSimpArgs false
set_option linter.unusedVariables false
def Home (B:List Nat) (s:Wrt):Prop:=(∀ b ∈ B,b<=s.code.length)/\∀ f ∈ s.fixes,f.kind=1->∃ (k:Nat) (i:Gi),s.code[k]? = some i/\f.at_=(k:Int)/\i.a<s.code.length/\∀ b ∈ B,(k<b->i.a<b)/\(b<=k->(b:Int)<=i.a)
theorem Home.mem {B B':List Nat} {s:Wrt} (h:Home B s) (hB:∀ b ∈ B',b ∈ B):Home B' s:=
 ⟨fun b hb=>h.1 b (hB b hb),fun f hf hk=>by
  obtain ⟨k,i,h1,h2,h3,h4⟩:=h.2 f hf hk
  exact ⟨k,i,h1,h2,h3,fun b hb=>h4 b (hB b hb)⟩⟩
theorem Home.more {B:List Nat} {s:Wrt} (h:Home B s):Home (s.code.length :: B) s:=by
 refine ⟨fun b hb=>?_,fun f hf hk=>?_⟩
 . rcases List.mem_cons.1 hb with rfl | hb
   . exact Nat.le_refl _
   . exact h.1 b hb
 . obtain ⟨k,i,h1,h2,h3,h4⟩:=h.2 f hf hk
   refine ⟨k,i,h1,h2,h3,fun b hb=>?_⟩
   rcases List.mem_cons.1 hb with rfl | hb
   . have:=lt_some h1
     exact ⟨fun _=>h3,fun h=>by omega⟩
   . exact h4 b hb
theorem Home.body {us:Int} {B:List Nat} {s t:Wrt} (h:Home B s) (ha:Adds us (fun _=>False) s t):Home B (putW 15 0 0 (putW 1 0 0 t)):=by
 obtain ⟨e,he,_,hf⟩:=ha.fx;have hl:=ha.le
 have len:(putW 15 0 0 (putW 1 0 0 t)).code.length=t.code.length+2:=by rw [putW_len,putW_len]
 have old:∀ k,k<t.code.length->(putW 15 0 0 (putW 1 0 0 t)).code[k]? = t.code[k]?:=fun k hk=>by
  simp only [putW];rw [List.getElem?_append_left (by simp;omega),List.getElem?_append_left hk]
 refine ⟨fun b hb=>by have:=h.1 b hb;rw [len];omega,fun f hfm hk=>?_⟩
 have hfm':f ∈ s.fixes++e:=by rw [← he];exact hfm
 rw [len]
 rcases List.mem_append.1 hfm' with h1 | h1
 . obtain ⟨k,i,h1,h2,h3,h4⟩:=h.2 f h1 hk
   have hks:=lt_some h1;exact ⟨k,i,(old k (by omega)).trans ((ha.pre k hks).trans h1),h2,by omega,h4⟩
 . obtain ⟨k,i,h1,h2,h3,h4⟩:=hf f h1
   refine ⟨k,i,(old k (lt_some h1)).trans h1,h2,?_,fun b hb=>?_⟩
   all_goals rcases h4 with ⟨_,_,h5 | h5⟩ | ⟨h5,_⟩
   . exact h5.elim
   . omega
   . omega
   . exact h5.elim
   . have:=h.1 b hb
     exact ⟨fun _=>by omega,fun _=>by omega⟩
   . omega
theorem ck_sane {u:Un} (h:headB u=true) (lc:Int) (hl:lc<=64):Sane (ckOf u numS prtS lc):=by
 have h6:=headB_six h;have hd:=headB_data h;refine ⟨fun m at_ n hn h=>?_,fun m at_ k h=>?_,hl⟩
 . unfold numB at h
   split at h
   . rename_i e
     have h:0<=at_/\at_+n<=u.data:=of_decide_eq_true h;subst e;exact ⟨by omega,by omega,by simp only [ckOf];omega⟩
   . rw [Bool.and_eq_true] at h
     obtain ⟨h1,h2⟩:=h;have h1:1<=m/\m<=u.uses.length:=of_decide_eq_true h1;have h2:numS m at_ n=true:=h2;simp only [numS,Bool.or_eq_true,lieB,decide_eq_true_eq] at h2;exact ⟨by omega,by omega,by simp only [ckOf];omega⟩
 . unfold prtB at h
   split at h
   . rename_i e
     have h:hasP u.parts at_ k=true:=h;unfold hasP at h;rw [Bool.and_eq_true,decide_eq_true_eq] at h;obtain ⟨h1,h2⟩:=h
     cases hq:u.parts[at_.toNat]? with
     | none=>rw [hq] at h2;cases h2
     | some p=>
       have:=lt_some hq;subst e;exact ⟨by omega,by omega,by simp only [ckOf];omega⟩
   . rw [Bool.and_eq_true] at h
     obtain ⟨h1,h2⟩:=h;have h1:1<=m/\m<=u.uses.length:=of_decide_eq_true h1;have h2:prtS m at_ k=true:=h2;simp only [prtS,Bool.and_eq_true,decide_eq_true_eq] at h2;exact ⟨by omega,by omega,by simp only [ckOf];omega⟩
def startsTo (l:List Pt) (j:Nat):List Nat:=(List.range j).map (fun i=>(partsW (l.take i)).code.length)
theorem parts_grow {u:Un} (h:holdB u numS prtS=true):∀ j,j<=u.parts.length->Adds u.uses.length (fun _=>False) wr0 (partsW (u.parts.take j))/\Home (startsTo u.parts j) (partsW (u.parts.take j))
 | 0,_=>⟨Adds.refl _,fun b hb=>by simp [startsTo] at hb,fun f hf=>by cases hf⟩
 | j + 1,hj=>by
   obtain ⟨h1,h2⟩:=parts_grow h j (by omega);obtain ⟨hp,_,hh⟩:=holdB_parts h
   have hpt:ptB u.parts[j]=true:=by
    unfold headB at hh;simp only [Bool.and_eq_true,List.all_eq_true] at hh;exact hh.2.1 _ (List.getElem_mem (by omega))
   have hlc:u.parts[j].params+u.parts[j].locals<=64:=by
    have:=hpt;unfold ptB at this;simp only [Bool.and_eq_true,decide_eq_true_eq] at this;omega
   obtain ⟨t,ha,_,hb⟩:=good_body (ck_sane hh _ hlc) u.parts[j] (hp _ (List.getElem_mem (by omega))) hpt (partsW (u.parts.take j));rw [partsW_take _ _ (by omega),hb];refine ⟨((h1.then ha).put 1 0 0 (by decide)).put 15 0 0 (by decide),(h2.more.body ha).mem (fun b hb=>?_)⟩;unfold startsTo at hb;rw [List.range_succ,List.map_append,List.mem_append] at hb
   rcases hb with hb | hb
   . exact List.mem_cons_of_mem _ hb
   . simp only [List.map_cons,List.map_nil,List.mem_singleton] at hb
     subst hb;exact List.mem_cons_self ..
theorem gen_grow {u:Un} (h:holdB u numS prtS=true):Adds u.uses.length (fun _=>False) wr0 (genS u)/\Home ((partsW u.parts).code.length :: startsTo u.parts u.parts.length) (genS u)/\(partsW u.parts).code.length<(genS u).code.length/\∀ b ∈ startsTo u.parts u.parts.length,b<=(partsW u.parts).code.length:=by
 obtain ⟨h1,h2⟩:=parts_grow h _ (Nat.le_refl _);rw [List.take_length] at h1 h2;obtain ⟨_,hm,hh⟩:=holdB_parts h;obtain ⟨t,ha,hl,hb⟩:=good_body (ck_sane hh 0 (by decide)) ⟨0,0,u.main⟩ hm rfl (partsW u.parts);unfold genS;rw [hb];refine ⟨((h1.then ha).put 1 0 0 (by decide)).put 15 0 0 (by decide),h2.more.body ha,?_,h2.1⟩;rw [putW_len,putW_len];omega
theorem ents_starts (l:List Pt):entsW l=(startsTo l l.length).map (fun n:Nat=>(n:Int)):=by
 unfold entsW startsTo;rw [List.map_map]
 rfl
theorem chk_err0 {m:Mo} (h:chkM m=0):m.err=0/\Fx.dupB (Fx.lists m.uses)=false:=by
 unfold chkM at h
 split at h
 . contradiction
 . rename_i he
   refine ⟨by simpa using he,?_⟩
   cases hd:Fx.dupB (Fx.lists m.uses) with
   | false=>rfl
   | true=>rw [hd] at h;simp at h
theorem names_ok {u:Un} (h:headB u=true) (hc:Go.Lib.containsS u.uses u.name=false):namesB (genOb u)=true:=by
 unfold headB at h;rw [Bool.and_eq_true] at h;obtain ⟨he,hd⟩:=chk_err0 (of_decide_eq_true h.1)
 have hf:(⟨u.name,u.uses,[],[],[]⟩:Mo).form=true:=by
  unfold Mo.err at he
  split at he
  . split at he
    . cases he
    . split at he
      . assumption
      . cases he
  . cases he
 unfold Mo.form at hf;simp only [Bool.and_eq_true,List.all_eq_true,nameOk] at hf;unfold namesB;rw [Bool.and_eq_true];refine ⟨hf.1.2,allTo_true.2 (fun i hi=>?_)⟩;have hi':i<u.uses.length:=hi;unfold useAt;show (match u.uses[i]? with | some x=>Lx.nameB x.data.toList&&(!decide (x=u.name) && !Go.Lib.containsS (u.uses.take i) x) | none=>true)=true;rw [List.getElem?_eq_getElem hi'];simp only [Bool.and_eq_true,Bool.not_eq_true',decide_eq_false_iff_not];refine ⟨(hf.2.1 _ (List.getElem_mem hi')).2,fun e=>?_,?_⟩
 . have:Go.Lib.containsS u.uses u.name=true:=(Go.Lib.containsS_iff _ _).2 (e ▸ List.getElem_mem hi')
   rw [hc] at this;cases this
 . cases hq:Go.Lib.containsS (u.uses.take i) u.uses[i] with
   | false=>rfl
   | true=>
     have hm:=(Go.Lib.containsS_iff _ _).1 hq;obtain ⟨j,hj,e⟩:=List.getElem_of_mem hm;rw [List.getElem_take] at e
     have hj':j<i:=by rw [List.length_take] at hj;omega
     have:=nodup_of_dup _ hd j i (by simp [Fx.lists];omega) (by simp [Fx.lists];omega) (by simp [Fx.lists,e]);omega
theorem gen_right {u:Un} (h:holdB u numS prtS=true) (hc:Go.Lib.containsS u.uses u.name=false) (hf:fullW (genS u)=false):oChk (genOb u)=0:=by
 obtain ⟨ha,_,hl,hs⟩:=gen_grow h;obtain ⟨_,_,hh⟩:=holdB_parts h;have h6:=headB_six hh;have h3:=headB_uses hh;have hd:=headB_data hh
 have hfl:(genS u).code.length<=2048:=by
  unfold fullW at hf;have:=of_decide_eq_false hf;omega
 have hel:(genOb u).entries.length=u.parts.length:=entsTo_len ..
 have hm:oMany (genOb u)=false:=by
  unfold oMany;rw [hel];simp only [Bool.or_eq_false_iff,decide_eq_false_iff_not];refine ⟨?_,?_,?_,?_⟩
  . show ¬ 3<u.uses.length;omega
  . omega
  . show ¬ (genS u).code.length<1;omega
  . show ¬ 2048<(genS u).code.length;omega
 unfold oChk;rw [hm,if_neg (by decide),if_pos];rw [Bool.and_eq_true,Bool.and_eq_true];refine ⟨names_ok hh hc,?_,?_⟩
 . unfold codeB
   rw [Bool.and_eq_true,Bool.and_eq_true,allTo_true,allTo_true];refine ⟨fun j hj=>?_,fun j hj=>?_,?_⟩
   . have hj':j<(genS u).code.length:=hj
     unfold opAt;show (match (genS u).code[j]? with | some i=>opB i | none=>true)=true;rw [List.getElem?_eq_getElem hj'];have:=(ha.ins j _ (Nat.zero_le _) (List.getElem?_eq_getElem hj')).1;exact decide_eq_true this
   . unfold entAt
     rw [List.getElem?_eq_getElem hj];have hmem:(genOb u).entries[j] ∈ entsW u.parts:=List.getElem_mem hj;rw [ents_starts,List.mem_map] at hmem;obtain ⟨b,hb,e⟩:=hmem;show placeB (genOb u) (genOb u).entries[j]=true;rw [← e];have:=hs b hb;exact decide_eq_true ⟨by omega,by show (b:Int)<((genS u).code.length:Int);omega⟩
   . unfold dataB
     rw [Bool.and_eq_true];exact ⟨decide_eq_true ⟨by show (0:Int)<=((partsW u.parts).code.length:Int);omega,by show ((partsW u.parts).code.length:Int)<((genS u).code.length:Int);omega⟩,decide_eq_true hd⟩
 . unfold fixesB
   rw [allTo_true];intro j hj;obtain ⟨e,he,hp,hr⟩:=ha.fx
   have he':(genS u).fixes=e:=by rw [he];rfl
   subst he';have hj':j<(genS u).fixes.length:=hj;unfold fixAt;show (match (genS u).fixes[j]? with | some f=>decide (lastAt (genOb u) j<f.at_)&&(placeB (genOb u) f.at_&&fixB (genOb u) f) | none=>true)=true;rw [List.getElem?_eq_getElem hj'];simp only [Bool.and_eq_true];obtain ⟨k,i,hi,hk,_,hx⟩:=hr _ (List.getElem_mem hj');have hkl:=lt_some hi;refine ⟨decide_eq_true ?_,decide_eq_true ⟨by omega,by show _<((genS u).code.length:Int);omega⟩,?_⟩
   . cases j with
     | zero=>show (-1:Int)<_;omega
     | succ j=>
       show (match (genS u).fixes[j]? with | some f=>f.at_ | none=>-1)<_;rw [List.getElem?_eq_getElem (by omega)];exact List.pairwise_iff_getElem.1 hp j (j+1) (by omega) hj' (by omega)
   . have hA:aAt (genOb u) (genS u).fixes[j].at_=i.a:=by
      unfold aAt;rw [hk,Int.toNat_natCast];show (match (genS u).code[k]? with | some i=>i.a | none=>0)=_;rw [hi]
     unfold fixB;rw [hA]
     rcases hx with ⟨h1,h2,h4 | h4⟩ | ⟨h1,_,h4,h5⟩
     . exact h4.elim
     . rw [if_pos h1]
       have h0:(wr0.code.length:Int)=0:=rfl;rw [h0] at h4;unfold okF;simp only [Bool.and_eq_true,decide_eq_true_eq];exact ⟨h4.1,h4.2,by omega,by omega⟩
     . rw [if_neg (by omega),if_pos h1]
       unfold okF;simp only [Bool.and_eq_true,decide_eq_true_eq];exact ⟨h4.1,h4.2,h5.1,h5.2⟩
theorem gen_home {u:Un} (h:holdB u numS prtS=true):∀ f ∈ (genOb u).fixes,f.kind=1->∃ (k:Nat) (i:Gi),(genOb u).code[k]? = some i/\f.at_=(k:Int)/\∀ b ∈ (genOb u).entries++[(genOb u).main],((k:Int)<b->i.a<b)/\(b<=k->b<=i.a):=by
 obtain ⟨_,hH,_,_⟩:=gen_grow h;intro f hf hk;obtain ⟨k,i,h1,h2,_,h4⟩:=hH.2 f hf hk;refine ⟨k,i,h1,h2,fun b hb=>?_⟩
 have:∃ b':Nat,b=b'/\b' ∈ (partsW u.parts).code.length :: startsTo u.parts u.parts.length:=by
  rcases List.mem_append.1 hb with hb | hb
  . have hb':b ∈ entsW u.parts:=hb
    rw [ents_starts,List.mem_map] at hb';obtain ⟨b',h5,e⟩:=hb';exact ⟨b',e.symm,List.mem_cons_of_mem _ h5⟩
  . rw [List.mem_singleton] at hb
    exact ⟨_,hb,List.mem_cons_self ..⟩
 obtain ⟨b',rfl,hb'⟩:=this;have:=h4 b' hb';exact ⟨fun h=>this.1 (by omega),fun h=>this.2 (by omega)⟩
theorem nodeA_mono {c c':Ck} (hn:∀ m at_ n,numB c m at_ n=true->numB c' m at_ n=true) (hp:∀ m at_ k,prtB c m at_ k=true->prtB c' m at_ k=true) (hl:c'.locals=c.locals) (x:Nd) (h:nodeA c x=true):nodeA c' x=true:=by
 unfold nodeA arrB locB at h ⊢;rw [hl];split
 . rename_i e;rw [if_pos e] at h;simp only [Bool.and_eq_true] at h ⊢;exact ⟨h.1,h.2.1,hn _ _ _ h.2.2⟩
 . rename_i e;rw [if_neg e] at h
   split
   . rename_i e;rw [if_pos e] at h;simp only [Bool.and_eq_true] at h ⊢;exact ⟨h.1,h.2.1,hn _ _ _ h.2.2⟩
   . rename_i e;rw [if_neg e] at h
     split
     . rename_i e;rw [if_pos e] at h;simp only [Bool.and_eq_true] at h ⊢;exact ⟨h.1,hp _ _ _ h.2⟩
     . rename_i e;rw [if_neg e] at h;exact h
theorem ndsB_mono {c c':Ck} (h:∀ x,nodeA c x=true->nodeA c' x=true):∀ (k:Nat) (l:List Nd),ndsB c k l=true->ndsB c' k l=true
 | 0,l,hl=>hl
 | k+1,l,hl=>by
   unfold ndsB at hl ⊢;rw [List.all_eq_true] at hl ⊢;intro x hx;have:=hl x hx;rw [Bool.and_eq_true] at this ⊢;exact ⟨h x this.1,ndsB_mono h k _ this.2⟩
theorem acsB_mono {c c':Ck} (hn:∀ m at_ n,numB c m at_ n=true->numB c' m at_ n=true) (hp:∀ m at_ k,prtB c m at_ k=true->prtB c' m at_ k=true) (hl:c'.locals=c.locals):∀ (k:Nat) (l:List Ac),acsB c k l=true->acsB c' k l=true
 | 0,l,h=>h
 | k + 1,l,h=>by
   have ih:=acsB_mono hn hp hl k;have hN:=ndsB_mono (nodeA_mono hn hp hl);unfold acsB at h ⊢;simp only [Bool.and_eq_true,List.all_eq_true] at h ⊢;refine ⟨h.1,fun a ha=>?_⟩;obtain ⟨h1,h2,h3⟩:=h.2 a ha;refine ⟨?_,hN _ _ h2,?_⟩
   . unfold actA arrB locB at h1 ⊢
     rw [hl];split
     . rename_i e;rw [if_pos e] at h1;simp only [Bool.and_eq_true] at h1 ⊢
       refine ⟨h1.1,h1.2.1,?_⟩;split
       . rename_i e;have:=h1.2.2;rw [if_pos e] at this;exact this
       . rename_i e;have:=h1.2.2;rw [if_neg e] at this;exact hn _ _ _ this
     . rename_i e;rw [if_neg e] at h1
       split
       . rename_i e;rw [if_pos e] at h1;simp only [Bool.and_eq_true] at h1 ⊢;exact ⟨h1.1,h1.2.1,hn _ _ _ h1.2.2⟩
       . rename_i e;rw [if_neg e] at h1
         split
         . rename_i e;rw [if_pos e] at h1;simp only [Bool.and_eq_true] at h1 ⊢;exact ⟨h1.1,hp _ _ _ h1.2⟩
         . rename_i e;rw [if_neg e] at h1;exact h1
   . split
     . rename_i e;rw [if_pos e] at h3;rw [Bool.and_eq_true] at h3 ⊢;exact ⟨ih _ h3.1,ih _ h3.2⟩
     . rename_i e;rw [if_neg e] at h3
       split
       . rename_i e;rw [if_pos e] at h3;rw [Bool.and_eq_true] at h3 ⊢;exact ⟨ih _ h3.1,h3.2⟩
       . rename_i e;rw [if_neg e] at h3;exact h3
theorem sem_parts {l:List Un} (h:semE l=0):aheadB l=true/\Apart l/\formB l=true/\sumD l<=512/\1<=l.length/\l.length<=4:=by
 unfold semE at h
 split at h
 . cases h
 . rename_i h0
   split at h
   . cases h
   . rename_i h1
     split at h
     . cases h
     . rename_i h2
       split at h
       . rename_i h3
         rw [Bool.and_eq_true] at h3;exact ⟨by simpa using h1,apart_of (by simpa using h2),h3.1,of_decide_eq_true h3.2,by omega,by omega⟩
       . cases h
theorem gen_made {l:List Un} (h:semE l=0) {u:Un} (hu:u ∈ l):Go.Lib.containsS u.uses u.name=false/\holdB u numS prtS=true:=by
 obtain ⟨hA,hN,hF,_,_,_⟩:=sem_parts h;have hall:∀ v ∈ l,oneU l v=true:=List.all_eq_true.1 hF;refine ⟨?_,?_⟩
 . cases hq:Go.Lib.containsS u.uses u.name with
   | false=>rfl
   | true=>
     obtain ⟨j,hj,rfl⟩:=List.getElem_of_mem hu;obtain ⟨i,hi,hij,_,e⟩:=use_at hA hN hj ((Go.Lib.containsS_iff _ _).1 hq);rw [findU_at hN j hj] at e;have:=hN i j hi hj (by rw [e]);omega
 . have h1:=hall u hu
   unfold oneU at h1
   have hus:∀ v ∈ usesU l u,v=un0\/v ∈ l:=fun v hv=>by
    unfold usesU at hv;obtain ⟨s,_,rfl⟩:=List.mem_map.1 hv;unfold findU
    cases hq:l.find? (fun u=>decide (u.name=s)) with
    | none=>exact Or.inl rfl
    | some x=>exact Or.inr (List.mem_of_find?_eq_some hq)
   have hd:∀ v ∈ usesU l u,v.data<=512/\v.parts.length<=6/\∀ p ∈ v.parts,p.params<=3:=fun v hv=>by
    rcases hus v hv with rfl | hv
    . exact ⟨by decide,by decide,fun p hp=>by cases hp⟩
    . have h2:=hall v hv
      have hh:=(holdB_parts h2).2.2;refine ⟨(headB_data hh).2,headB_six hh,fun p hp=>?_⟩;unfold headB at hh;simp only [Bool.and_eq_true,List.all_eq_true] at hh;have:=hh.2.1 p hp;unfold ptB at this;simp only [Bool.and_eq_true,decide_eq_true_eq] at this;omega
   have hnum:∀ lc m at_ n,numB (ckOf u (numU (usesU l u)) (prtU (usesU l u)) lc) m at_ n=true->numB (ckOf u numS prtS lc) m at_ n=true:=fun lc m at_ n h=>by
    unfold numB at h ⊢;split
    . rename_i e;rw [if_pos e] at h;exact h
    . rename_i e;rw [if_neg e] at h
      rw [Bool.and_eq_true] at h ⊢;refine ⟨h.1,?_⟩;have h2:=h.2;simp only [ckOf,numU] at h2 ⊢
      cases hq:(usesU l u)[(m - 1).toNat]? with
      | none=>rw [hq] at h2;cases h2
      | some v=>
        rw [hq] at h2;have:=(hd v (List.mem_of_getElem? hq)).1;simp only [lieB,decide_eq_true_eq] at h2;unfold numS lieB;rw [decide_eq_true (p:=0<=at_/\at_+n<=512) (by omega),Bool.or_true]
   have hprt:∀ lc m at_ k,prtB (ckOf u (numU (usesU l u)) (prtU (usesU l u)) lc) m at_ k=true->prtB (ckOf u numS prtS lc) m at_ k=true:=fun lc m at_ k h=>by
    unfold prtB at h ⊢;split
    . rename_i e;rw [if_pos e] at h;exact h
    . rename_i e;rw [if_neg e] at h
      rw [Bool.and_eq_true] at h ⊢;refine ⟨h.1,?_⟩;have h2:=h.2;simp only [ckOf,prtU] at h2 ⊢
      cases hq:(usesU l u)[(m - 1).toNat]? with
      | none=>rw [hq] at h2;cases h2
      | some v=>
        rw [hq] at h2;obtain ⟨_,h6,hp⟩:=hd v (List.mem_of_getElem? hq);simp only [hasP,Bool.and_eq_true,decide_eq_true_eq] at h2;obtain ⟨h3,h4⟩:=h2
        cases hz:v.parts[at_.toNat]? with
        | none=>rw [hz] at h4;cases h4
        | some p=>
          rw [hz] at h4;have h5:=of_decide_eq_true h4;have:=hp p (List.mem_of_getElem? hz);have:=lt_some hz;unfold prtS;rw [Bool.and_eq_true,decide_eq_true_eq,decide_eq_true_eq];omega
   have hh:=h1;unfold holdB at h1 ⊢;simp only [Bool.and_eq_true,List.all_eq_true] at h1 ⊢;exact ⟨h1.1,fun p hp=>acsB_mono (hnum _) (hprt _) rfl 6 _ (h1.2.1 p hp),acsB_mono (hnum _) (hprt _) rfl 6 _ h1.2.2⟩
end Go.Proofs.YtndkhgakfodldaaGreatDoor

namespace Go.Proofs.YtndkhgakfodldaaGreatDoor
set_option maxRecDepth 100000
set_option maxHeartbeats 3200000
open Go.RowKit Go.Maps Go.WideMaps
set_option linter.unusedSimpArgs false
set_option linter.unusedVariables false
theorem codeB_eq (o:Ob):codeB o=(allTo o.code.length (opAt o)&&(allTo o.entries.length (entAt o)&&dataB o)):=rfl
theorem codeHolds_any (o:Ob) (x1:Option Addr) (y1:Nat) (x3:Option Addr) (y3:Nat) (x4:Option Addr) (y4:Nat) (x5:Option Addr) (y5:Nat) (w:World) (hO:OvAt w o x1 x3 x4 x5) :
 Calls Tryz.prog 83 #[.agg #[.string o.name,.slice x1 o.uses.length y1,.int .i64 o.data,.slice x3 o.code.length y3,.slice x4 o.fixes.length y4,.slice x5 o.entries.length y5,.int .i64 o.main]] w fun e w'=>e = .returned (.bool (codeB o))/\Below w.heap.size w w':=by
 have hb3:=hO.code.bound;have hb5:=hO.entries.bound;have HO:=hid hO;have HP:=hid (fun (x:Int) (W:World)=>oPlace_any o o.name x1 o.uses.length y1 o.data x3 y3 x4 o.fixes.length y4 x5 o.entries.length y5 o.main x W hb3);clear hO;go_enter Tryz.func83,Tryz.ntmps83;go_wp2_with fail
 go_loopw [10] (fun i wr=>∃ j:Nat,j<=o.code.length/\i = .int .i64 j/\(∀ k,k<j->opAt o k=true)/\Below w.heap.size w wr/\wr.heap[w.heap.size]? = some (.cells #[.string o.name,.slice x1 o.uses.length y1,.int .i64 o.data,.slice x3 o.code.length y3,.slice x4 o.fixes.length y4,.slice x5 o.entries.length y5,.int .i64 o.main] 62)) (fun i _=>o.code.length - (intOf i).toNat)
 case atStart=>exact ⟨0,Nat.zero_le _,rfl,fun k hk=>absurd hk (Nat.not_lt_zero k),al1 _ _,heap_newP w (.cells #[.string o.name,.slice x1 o.uses.length y1,.int .i64 o.data,.slice x3 o.code.length y3,.slice x4 o.fixes.length y4,.slice x5 o.entries.length y5,.int .i64 o.main] 62)⟩
 case round=>
  obtain ⟨j,hj,rfl,hall,hb,hB⟩:=hrel;obtain ⟨q0,q1,q2,q3,q4,q5,q6,_⟩:=cells7 hB;have qz:=lt_of_heap hB;have HB:=hid hb;have HX:=hid hB;have HL:=hid hall;clear hall hB hb
  by_cases hlt:j<o.code.length
  . obtain ⟨b,off,rfl,hx⟩:=(HO.out.later HB.out).code.gi j hlt
    have HE:Hid (opAt o j=opB o.code[j]):=by show _=_;unfold opAt;rw [List.getElem?_eq_getElem hlt]
    have HF:=hid (fun (h:opB o.code[j]=false)=>(by rw [codeB_eq,allTo_false hlt (HE.out.trans h)];rfl:codeB o=false));have HT:=hid (fun (h:opB o.code[j]=true)=>upto_succ HL.out (HE.out.trans h));obtain ⟨hbl,p0,p1,p2,_,_,_⟩:=hx;generalize o.code[j]=p at *
    by_cases t1:p.op<1
    . have HF':=hid (HF.out (by unfold opB;exact decide_eq_false (by omega)))
      go_wp2_with fail;go_ret;exact ⟨ret_bool (by first | exact HF'.out.symm | (rw [HF'.out]<;>first | (simp;omega) | (simp [*];done))),thenB HB.out (al1 _ _)⟩
    by_cases t2:22<p.op
    . have HF':=hid (HF.out (by unfold opB;exact decide_eq_false (by omega)))
      have t1':1<=p.op:=by omega
      clear t1;go_wp2_with fail;go_ret;exact ⟨ret_bool (by first | exact HF'.out.symm | (rw [HF'.out]<;>first | (simp;omega) | (simp [*];done))),thenB HB.out (al1 _ _)⟩
    have HT':=hid (HT.out (by unfold opB;exact decide_eq_true (by omega)))
    have t1':1<=p.op:=by omega
    have t2':p.op<=22:=by omega
    clear t1 t2;go_wp2_with fail;go_roundw
    case rel=>exact ⟨j+1,by omega,by go_num,HT'.out,thenB HB.out (al1 _ _),heap_old HX.out⟩
    case measure=>simp [intOf];omega
  . obtain rfl:j=o.code.length:=by omega
    have HC:Hid (codeB o=(allTo o.entries.length (entAt o)&&dataB o)):=by show _=_;rw [codeB_eq,allTo_true.2 HL.out];rfl
    go_wp2_with fail
    go_loopw [26] (fun i wr=>∃ j:Nat,j<=o.entries.length/\i = .int .i64 j/\(∀ k,k<j->entAt o k=true)/\Below w.heap.size w wr/\wr.heap[w.heap.size]? = some (.cells #[.string o.name,.slice x1 o.uses.length y1,.int .i64 o.data,.slice x3 o.code.length y3,.slice x4 o.fixes.length y4,.slice x5 o.entries.length y5,.int .i64 o.main] 62)) (fun i _=>o.entries.length - (intOf i).toNat)
    case atStart=>exact ⟨0,Nat.zero_le _,rfl,fun k hk=>absurd hk (Nat.not_lt_zero k),HB.out,HX.out⟩
    case round=>
     clear q0 q1 q2 q3 q4 q5 q6 qz;obtain ⟨j,hj,rfl,hall,hb,hB⟩:=hrel;obtain ⟨q0,q1,q2,q3,q4,q5,q6,_⟩:=cells7 hB;have qz:=lt_of_heap hB;have HB:=hid hb;have HX:=hid hB;have HL:=hid hall;clear hall hB hb
     by_cases hlt:j<o.entries.length
     . obtain ⟨b,off,rfl,hbl,p0,_⟩:=(HO.out.later HB.out).entries.num j hlt
       have HE:Hid (entAt o j=placeB o o.entries[j]):=by show _=_;unfold entAt;rw [List.getElem?_eq_getElem hlt]
       have HF:=hid (fun (h:placeB o o.entries[j]=false)=>(by rw [HC.out,allTo_false hlt (HE.out.trans h)];rfl:codeB o=false));have HT:=hid (fun (h:placeB o o.entries[j]=true)=>upto_succ HL.out (HE.out.trans h));generalize o.entries[j]=p at *;go_wp2_with fail;refine (HP.out p _).mono ?_;rintro e w1 ⟨rfl,hb1⟩;have HB1:=hid (thenB HB.out hb1);have HX1:=hid ((hb1.block _ qz).trans HX.out);clear q0 q1 q2 q3 q4 q5 q6 qz hb1
       cases hp:placeB o p with
       | false=>
         have HF':=hid (HF.out hp);go_wp2_with fail;go_ret;exact ⟨ret_bool (by first | exact HF'.out.symm | (rw [HF'.out]<;>first | (simp;omega) | (simp [*];done))),HB1.out⟩
       | true=>
         have HT':=hid (HT.out hp);go_wp2_with fail;go_roundw
         case rel=>exact ⟨j+1,by omega,by go_num,HT'.out,HB1.out,HX1.out⟩
         case measure=>simp [intOf];omega
     . obtain rfl:j=o.entries.length:=by omega
       have HD:Hid (codeB o=(placeB o o.main&&decide (0<=o.data/\o.data<=512))):=by show _=_;rw [HC.out,allTo_true.2 HL.out];rfl
       go_wp2_with fail;refine (HP.out o.main _).mono ?_;rintro e w1 ⟨rfl,hb1⟩;have HB1:=hid (thenB HB.out hb1);have HX1:=hid ((hb1.block _ qz).trans HX.out);clear q0 q1 q2 q3 q4 q5 q6 qz hb1;obtain ⟨q0,q1,q2,q3,q4,q5,q6,_⟩:=cells7 HX1.out;have qz:=lt_of_heap HX1.out
       cases hp:placeB o o.main with
       | false=>
         have HR:Hid (codeB o=false):=by show _=_;rw [HD.out,hp];rfl
         go_wp2_with fail;go_ret;exact ⟨ret_bool (by first | exact HR.out.symm | (rw [HR.out]<;>first | (simp;omega) | (simp [*];done))),HB1.out⟩
       | true=>
         by_cases t1:0<=o.data
         . have HR:Hid (codeB o=decide (o.data<=512)):=by show _=_;rw [HD.out,hp,Bool.true_and];exact decide_eq_decide.2 ⟨fun h=>h.2,fun h=>⟨t1,h⟩⟩
           go_wp2_with fail;go_ret;exact ⟨ret_bool (by first | exact HR.out.symm | (rw [HR.out]<;>first | (simp;omega) | (simp [*];done))),HB1.out⟩
         . have HR:Hid (codeB o=false):=by show _=_;rw [HD.out,hp,Bool.true_and];exact decide_eq_false (fun h=>t1 h.1)
           have t1':o.data<0:=by omega
           clear t1;go_wp2_with fail;go_ret;exact ⟨ret_bool (by first | exact HR.out.symm | (rw [HR.out]<;>first | (simp;omega) | (simp [*];done))),HB1.out⟩
end Go.Proofs.YtndkhgakfodldaaGreatDoor

namespace Go.Proofs.YtndkhgakfodldaaGreatDoor
set_option maxRecDepth 100000
set_option maxHeartbeats 3200000
open Go.RowKit Go.Maps Go.WideMaps
set_option linter.unusedSimpArgs false
set_option linter.unusedVariables false
theorem namesB_eq (o:Ob):namesB o=(Lx.nameB o.name.data.toList&&allTo o.uses.length (useAt o)):=rfl
theorem DVals.take {w:World} {lo:Nat->Prop}:∀ {l:List D} {cs:List Value},DVals w lo l cs->∀ j,DVals w lo (l.take j) (cs.take j)
 | [],cs,h,j=>by unfold DVals at h;subst h;simp only [List.take_nil];exact DVals.nil
 | d :: ds,cs,h,0=>by simp only [List.take_zero];exact DVals.nil
 | d :: ds,cs,h,j+1=>by
   unfold DVals at h;obtain ⟨v,r,rfl,h1,h2⟩:=h;exact DVals.cons h1 (DVals.take h2 j)
theorem strs_take {w:World} {A:Nat->Prop} {a:Option Addr} {l:List ByteArray} (h:DAt w A a l.length (strsD l)) (j:Nat):DAt w A a (l.take j).length (strsD (l.take j)):=by
 obtain ⟨h1,h2,h3⟩:=h
 have e:strsD (l.take j)=(strsD l).take j:=by simp [strsD,List.map_take]
 have hn:(strsD l).length=l.length:=by simp [strsD]
 refine ⟨by rw [e,List.length_take,List.length_take,hn];exact Nat.le_refl _,by rw [e,List.length_take];omega,?_⟩
 rcases h3 with h4 | ⟨b,off,cs,ha,hl,hb,hc,hx⟩
 . exact Or.inl (by rw [List.length_take];omega)
 . exact Or.inr ⟨b,off,cs.take j,ha,hl,hb,fun k u hk=>hc k u (by rw [List.getElem?_take] at hk;split at hk;exact hk;cases hk),by rw [e];exact hx.take j⟩
theorem namesHold_any (o:Ob) (x1:Option Addr) (y1:Nat) (x3:Option Addr) (y3:Nat) (x4:Option Addr) (y4:Nat) (x5:Option Addr) (y5:Nat) (w:World) (hO:OvAt w o x1 x3 x4 x5) (h3:o.uses.length<=3) (hcp:o.uses.length<=y1) :
 Calls Tryz.prog 82 #[.agg #[.string o.name,.slice x1 o.uses.length y1,.int .i64 o.data,.slice x3 o.code.length y3,.slice x4 o.fixes.length y4,.slice x5 o.entries.length y5,.int .i64 o.main]] w fun e w'=>e = .returned (.bool (namesB o))/\Below w.heap.size w w':=by
 have HO:=hid hO;have HN:=hid (oName_any o.name (w.alloc (.cells #[.string o.name,.slice x1 o.uses.length y1,.int .i64 o.data,.slice x3 o.code.length y3,.slice x4 o.fixes.length y4,.slice x5 o.entries.length y5,.int .i64 o.main] 62)) hO.wn);clear hO;go_enter Tryz.func82,Tryz.ntmps82;go_wp2_with fail;refine HN.out.mono ?_;rintro e w1 ⟨rfl,hb1⟩;have HB1:=hid (thenB (al1 w _) hb1);have HX1:=hid ((hb1.block _ (by simp)).trans (heap_newP w (.cells #[.string o.name,.slice x1 o.uses.length y1,.int .i64 o.data,.slice x3 o.code.length y3,.slice x4 o.fixes.length y4,.slice x5 o.entries.length y5,.int .i64 o.main] 62)));clear hb1
 cases hn:Lx.nameB o.name.data.toList with
 | false=>
   have HR:Hid (namesB o=false):=by show _=_;rw [namesB_eq,hn];rfl
   go_wp2_with fail;go_ret;exact ⟨ret_bool (by first | exact HR.out.symm | (rw [HR.out]<;>first | (simp;omega) | (simp [*];done))),HB1.out⟩
 | true=>
 have HC:Hid (namesB o=allTo o.uses.length (useAt o)):=by show _=_;rw [namesB_eq,hn];rfl
 clear hn;obtain ⟨q0,q1,q2,q3,q4,q5,q6,_⟩:=cells7 HX1.out;have qz:=lt_of_heap HX1.out;go_wp2_with fail
 go_loopw [12] (fun i wr=>∃ j:Nat,j<=o.uses.length/\i = .int .i64 j/\(∀ k,k<j->useAt o k=true)/\Below w.heap.size w wr/\wr.heap[w.heap.size]? = some (.cells #[.string o.name,.slice x1 o.uses.length y1,.int .i64 o.data,.slice x3 o.code.length y3,.slice x4 o.fixes.length y4,.slice x5 o.entries.length y5,.int .i64 o.main] 62)) (fun i _=>o.uses.length - (intOf i).toNat)
 case atStart=>exact ⟨0,Nat.zero_le _,rfl,fun k hk=>absurd hk (Nat.not_lt_zero k),HB1.out,HX1.out⟩
 case round=>
  clear q0 q1 q2 q3 q4 q5 q6 qz;obtain ⟨j,hj,rfl,hall,hb,hB⟩:=hrel;obtain ⟨q0,q1,q2,q3,q4,q5,q6,_⟩:=cells7 hB;have qz:=lt_of_heap hB;have HB:=hid hb;have HX:=hid hB;have HL:=hid hall;clear hall hB hb
  by_cases hlt:j<o.uses.length
  . obtain ⟨b,off,rfl,hbl,p0,hw⟩:=(HO.out.later HB.out).uses.str j hlt
    have HE:Hid (useAt o j=(Lx.nameB o.uses[j].data.toList&&(!decide (o.uses[j]=o.name) && !Go.Lib.containsS (o.uses.take j) o.uses[j]))):=by show _=_;unfold useAt;rw [List.getElem?_eq_getElem hlt]
    have HF:=hid (fun (h:useAt o j=false)=>(by rw [HC.out,allTo_false hlt h]:namesB o=false));have HT:=hid (fun (h:useAt o j=true)=>upto_succ HL.out (h));have HU:=hid (fun (W:World) (hW:Below wr.heap.size wr W) (y:Nat)=>(by have h:=containsU_any (o.uses.take j) o.uses[j] (some ⟨b,off,none⟩) y W (strs_take ((HO.out.later HB.out).later hW).uses j);rw [List.length_take,Nat.min_eq_left hj] at h;exact h:Calls Tryz.prog 76 #[.slice (some ⟨b,off,none⟩) j y,.string o.uses[j]] W fun e w'=>e = .returned (.bool (Go.Lib.containsS (o.uses.take j) o.uses[j]))/\w'=W))
    have hjc:j<=y1:=by omega
    generalize o.uses[j]=x at *;go_wp2_with fail;refine (oName_any x _ hw).mono ?_;rintro e w1 ⟨rfl,hb1⟩;have HB1:=hid (thenB HB.out hb1);have HX1:=hid ((hb1.block _ qz).trans HX.out);have HV:=hid (HU.out w1 hb1);clear q0 q1 q2 q3 q4 q5 q6 qz hb1 p0 hbl;obtain ⟨q0,q1,q2,q3,q4,q5,q6,_⟩:=cells7 HX1.out;have qz:=lt_of_heap HX1.out
    cases hn:Lx.nameB x.data.toList with
    | false=>
      have HR:=hid (HF.out (by rw [HE.out,hn];rfl));go_wp2_with fail;go_ret;exact ⟨ret_bool (by first | exact HR.out.symm | (rw [HR.out]<;>first | (simp;omega) | (simp [*];done))),HB1.out⟩
    | true=>
      by_cases hx:x=o.name
      . have HR:=hid (HF.out (by rw [HE.out,hn,decide_eq_true hx];rfl))
        have hx':(x.toList == o.name.toList)=true:=(str_beq _ _).trans (decide_eq_true hx);clear hx;go_wp2_with fail;go_ret;exact ⟨ret_bool (by first | exact HR.out.symm | (rw [HR.out]<;>first | (simp;omega) | (simp [*];done))),HB1.out⟩
      . have hx':(x.toList == o.name.toList)=false:=(str_beq _ _).trans (decide_eq_false hx)
        have HE':Hid (useAt o j = !Go.Lib.containsS (o.uses.take j) x):=by show _=_;rw [HE.out,hn,decide_eq_false hx];simp
        clear hx;go_wp2_with fail;refine (HV.out _).mono ?_;rintro e w2 ⟨rfl,rfl⟩
        cases hc:Go.Lib.containsS (o.uses.take j) x with
        | true=>
          have HR:=hid (HF.out (by rw [HE'.out,hc];rfl));go_wp2_with fail;go_ret;exact ⟨ret_bool (by first | exact HR.out.symm | (rw [HR.out]<;>first | (simp;omega) | (simp [*];done))),HB1.out⟩
        | false=>
          have HT':=hid (HT.out (by rw [HE'.out,hc];rfl));go_wp2_with fail;go_roundw
          case rel=>exact ⟨j+1,by omega,by go_num,HT'.out,HB1.out,HX1.out⟩
          case measure=>simp [intOf];omega
  . obtain rfl:j=o.uses.length:=by omega
    have HR:Hid (namesB o=true):=by show _=_;rw [HC.out,allTo_true.2 HL.out]
    go_wp2_with fail;go_ret;exact ⟨ret_bool (by first | exact HR.out.symm | (rw [HR.out]<;>first | (simp;omega) | (simp [*];done))),HB.out⟩
end Go.Proofs.YtndkhgakfodldaaGreatDoor

namespace Go.Proofs.YtndkhgakfodldaaGreatDoor
set_option maxRecDepth 100000
set_option maxHeartbeats 3200000
open Go.RowKit Go.Maps Go.WideMaps
set_option linter.unusedSimpArgs false
set_option linter.unusedVariables false
theorem fixH1 (o:Ob) (x1:Option Addr) (y1:Nat) (x3:Option Addr) (y3:Nat) (x4:Option Addr) (y4:Nat) (x5:Option Addr) (y5:Nat) (j:Nat) (m:Int) (w:World) (hj:j<o.code.length) (hC:DAt w Tt x3 o.code.length (gisD o.code)) (hu:o.uses.length<=17592186044416) :
 Calls Tryz.prog 133 #[.agg #[.string o.name,.slice x1 o.uses.length y1,.int .i64 o.data,.slice x3 o.code.length y3,.slice x4 o.fixes.length y4,.slice x5 o.entries.length y5,.int .i64 o.main],.agg #[.int .i64 (j:Int),.int .i64 1,.int .i64 m]] w fun e w'=>e = .returned (.bool (okF o.code[j].a (o.code.length:Int) m 0))/\Below w.heap.size w w':=by
 have hbd:=hC.bound;obtain ⟨b,off,rfl,hx⟩:=hC.gi j hj;obtain ⟨hbl,_,z1,_,_,_,_⟩:=hx;generalize o.code[j].a=a at *;clear hC
 by_cases t0:0<=a
 case neg=>
  have HR:Hid (okF a (o.code.length:Int) m 0=false):=by show _=_;simp [okF,t0]
  have n0:a<0:=by omega
  clear t0;go_enter Tryz.func133,Tryz.ntmps133;go_wp2_with fail
  go_region
  go_wp2_with fail;go_ret;exact ⟨ret_bool (by first | exact HR.out.symm | (rw [HR.out]<;>first | (simp;omega) | (simp [*];done))),(by first | exact bl2 _ _ _ | exact (bl2 _ _ _).drew | exact thenB (bAdrew _ _) (al1 _ _) | exact thenB (al1 _ _) (bAdrew _ _))⟩
 by_cases t1:a<=(o.code.length:Int)
 case neg=>
  have HR:Hid (okF a (o.code.length:Int) m 0=false):=by show _=_;simp [okF,t1]
  have n1:(o.code.length:Int)<a:=by omega
  clear t1;go_enter Tryz.func133,Tryz.ntmps133;go_wp2_with fail
  go_region
  go_wp2_with fail;go_ret;exact ⟨ret_bool (by first | exact HR.out.symm | (rw [HR.out]<;>first | (simp;omega) | (simp [*];done))),(by first | exact bl2 _ _ _ | exact (bl2 _ _ _).drew | exact thenB (bAdrew _ _) (al1 _ _) | exact thenB (al1 _ _) (bAdrew _ _))⟩
 by_cases t2:0<=m
 case neg=>
  have HR:Hid (okF a (o.code.length:Int) m 0=false):=by show _=_;simp [okF,t2]
  have n2:m<0:=by omega
  clear t2;go_enter Tryz.func133,Tryz.ntmps133;go_wp2_with fail
  go_region
  go_wp2_with fail;go_ret;exact ⟨ret_bool (by first | exact HR.out.symm | (rw [HR.out]<;>first | (simp;omega) | (simp [*];done))),(by first | exact bl2 _ _ _ | exact (bl2 _ _ _).drew | exact thenB (bAdrew _ _) (al1 _ _) | exact thenB (al1 _ _) (bAdrew _ _))⟩
 have HR:Hid (okF a (o.code.length:Int) m 0=decide (m<=0)):=by show _=_;simp [okF,t0,t1,t2]
 go_enter Tryz.func133,Tryz.ntmps133;go_wp2_with fail
 go_region
 go_wp2_with fail;go_ret;exact ⟨ret_bool (by first | exact HR.out.symm | (rw [HR.out]<;>first | (simp;omega) | (simp [*];done))),(by first | exact bl2 _ _ _ | exact (bl2 _ _ _).drew | exact thenB (bAdrew _ _) (al1 _ _) | exact thenB (al1 _ _) (bAdrew _ _))⟩
theorem fixH2 (o:Ob) (x1:Option Addr) (y1:Nat) (x3:Option Addr) (y3:Nat) (x4:Option Addr) (y4:Nat) (x5:Option Addr) (y5:Nat) (j:Nat) (m:Int) (w:World) (hj:j<o.code.length) (hC:DAt w Tt x3 o.code.length (gisD o.code)) (hu:o.uses.length<=17592186044416) :
 Calls Tryz.prog 133 #[.agg #[.string o.name,.slice x1 o.uses.length y1,.int .i64 o.data,.slice x3 o.code.length y3,.slice x4 o.fixes.length y4,.slice x5 o.entries.length y5,.int .i64 o.main],.agg #[.int .i64 (j:Int),.int .i64 2,.int .i64 m]] w fun e w'=>e = .returned (.bool (okF o.code[j].a 2048 m (o.uses.length:Int)))/\Below w.heap.size w w':=by
 have hbd:=hC.bound;obtain ⟨b,off,rfl,hx⟩:=hC.gi j hj;obtain ⟨hbl,_,z1,_,_,_,_⟩:=hx;generalize o.code[j].a=a at *;clear hC
 by_cases t0:0<=a
 case neg=>
  have HR:Hid (okF a 2048 m (o.uses.length:Int)=false):=by show _=_;simp [okF,t0]
  have n0:a<0:=by omega
  clear t0;go_enter Tryz.func133,Tryz.ntmps133;go_wp2_with fail
  go_region
  go_wp2_with fail;go_ret;exact ⟨ret_bool (by first | exact HR.out.symm | (rw [HR.out]<;>first | (simp;omega) | (simp [*];done))),(by first | exact bl2 _ _ _ | exact (bl2 _ _ _).drew | exact thenB (bAdrew _ _) (al1 _ _) | exact thenB (al1 _ _) (bAdrew _ _))⟩
 by_cases t1:a<=2048
 case neg=>
  have HR:Hid (okF a 2048 m (o.uses.length:Int)=false):=by show _=_;simp [okF,t1]
  have n1:2048<a:=by omega
  clear t1;go_enter Tryz.func133,Tryz.ntmps133;go_wp2_with fail
  go_region
  go_wp2_with fail;go_ret;exact ⟨ret_bool (by first | exact HR.out.symm | (rw [HR.out]<;>first | (simp;omega) | (simp [*];done))),(by first | exact bl2 _ _ _ | exact (bl2 _ _ _).drew | exact thenB (bAdrew _ _) (al1 _ _) | exact thenB (al1 _ _) (bAdrew _ _))⟩
 by_cases t2:0<=m
 case neg=>
  have HR:Hid (okF a 2048 m (o.uses.length:Int)=false):=by show _=_;simp [okF,t2]
  have n2:m<0:=by omega
  clear t2;go_enter Tryz.func133,Tryz.ntmps133;go_wp2_with fail
  go_region
  go_wp2_with fail;go_ret;exact ⟨ret_bool (by first | exact HR.out.symm | (rw [HR.out]<;>first | (simp;omega) | (simp [*];done))),(by first | exact bl2 _ _ _ | exact (bl2 _ _ _).drew | exact thenB (bAdrew _ _) (al1 _ _) | exact thenB (al1 _ _) (bAdrew _ _))⟩
 have HR:Hid (okF a 2048 m (o.uses.length:Int)=decide (m<=(o.uses.length:Int))):=by show _=_;simp [okF,t0,t1,t2]
 go_enter Tryz.func133,Tryz.ntmps133;go_wp2_with fail
 go_region
 go_wp2_with fail;go_ret;exact ⟨ret_bool (by first | exact HR.out.symm | (rw [HR.out]<;>first | (simp;omega) | (simp [*];done))),(by first | exact bl2 _ _ _ | exact (bl2 _ _ _).drew | exact thenB (bAdrew _ _) (al1 _ _) | exact thenB (al1 _ _) (bAdrew _ _))⟩
theorem fixH3 (o:Ob) (x1:Option Addr) (y1:Nat) (x3:Option Addr) (y3:Nat) (x4:Option Addr) (y4:Nat) (x5:Option Addr) (y5:Nat) (j:Nat) (m:Int) (w:World) (hj:j<o.code.length) (hC:DAt w Tt x3 o.code.length (gisD o.code)) (hu:o.uses.length<=17592186044416) :
 Calls Tryz.prog 133 #[.agg #[.string o.name,.slice x1 o.uses.length y1,.int .i64 o.data,.slice x3 o.code.length y3,.slice x4 o.fixes.length y4,.slice x5 o.entries.length y5,.int .i64 o.main],.agg #[.int .i64 (j:Int),.int .i64 3,.int .i64 m]] w fun e w'=>e = .returned (.bool (okF o.code[j].a 2048 m (o.uses.length:Int)))/\Below w.heap.size w w':=by
 have hbd:=hC.bound;obtain ⟨b,off,rfl,hx⟩:=hC.gi j hj;obtain ⟨hbl,_,z1,_,_,_,_⟩:=hx;generalize o.code[j].a=a at *;clear hC
 by_cases t0:0<=a
 case neg=>
  have HR:Hid (okF a 2048 m (o.uses.length:Int)=false):=by show _=_;simp [okF,t0]
  have n0:a<0:=by omega
  clear t0;go_enter Tryz.func133,Tryz.ntmps133;go_wp2_with fail
  go_region
  go_wp2_with fail;go_ret;exact ⟨ret_bool (by first | exact HR.out.symm | (rw [HR.out]<;>first | (simp;omega) | (simp [*];done))),(by first | exact bl2 _ _ _ | exact (bl2 _ _ _).drew | exact thenB (bAdrew _ _) (al1 _ _) | exact thenB (al1 _ _) (bAdrew _ _))⟩
 by_cases t1:a<=2048
 case neg=>
  have HR:Hid (okF a 2048 m (o.uses.length:Int)=false):=by show _=_;simp [okF,t1]
  have n1:2048<a:=by omega
  clear t1;go_enter Tryz.func133,Tryz.ntmps133;go_wp2_with fail
  go_region
  go_wp2_with fail;go_ret;exact ⟨ret_bool (by first | exact HR.out.symm | (rw [HR.out]<;>first | (simp;omega) | (simp [*];done))),(by first | exact bl2 _ _ _ | exact (bl2 _ _ _).drew | exact thenB (bAdrew _ _) (al1 _ _) | exact thenB (al1 _ _) (bAdrew _ _))⟩
 by_cases t2:0<=m
 case neg=>
  have HR:Hid (okF a 2048 m (o.uses.length:Int)=false):=by show _=_;simp [okF,t2]
  have n2:m<0:=by omega
  clear t2;go_enter Tryz.func133,Tryz.ntmps133;go_wp2_with fail
  go_region
  go_wp2_with fail;go_ret;exact ⟨ret_bool (by first | exact HR.out.symm | (rw [HR.out]<;>first | (simp;omega) | (simp [*];done))),(by first | exact bl2 _ _ _ | exact (bl2 _ _ _).drew | exact thenB (bAdrew _ _) (al1 _ _) | exact thenB (al1 _ _) (bAdrew _ _))⟩
 have HR:Hid (okF a 2048 m (o.uses.length:Int)=decide (m<=(o.uses.length:Int))):=by show _=_;simp [okF,t0,t1,t2]
 go_enter Tryz.func133,Tryz.ntmps133;go_wp2_with fail
 go_region
 go_wp2_with fail;go_ret;exact ⟨ret_bool (by first | exact HR.out.symm | (rw [HR.out]<;>first | (simp;omega) | (simp [*];done))),(by first | exact bl2 _ _ _ | exact (bl2 _ _ _).drew | exact thenB (bAdrew _ _) (al1 _ _) | exact thenB (al1 _ _) (bAdrew _ _))⟩
theorem fixH0 (o:Ob) (x1:Option Addr) (y1:Nat) (x3:Option Addr) (y3:Nat) (x4:Option Addr) (y4:Nat) (x5:Option Addr) (y5:Nat) (at_ kind m:Int) (w:World) (h1:kind≠1) (h2:kind≠2) (h3:kind≠3) (hu:o.uses.length<=17592186044416) :
 Calls Tryz.prog 133 #[.agg #[.string o.name,.slice x1 o.uses.length y1,.int .i64 o.data,.slice x3 o.code.length y3,.slice x4 o.fixes.length y4,.slice x5 o.entries.length y5,.int .i64 o.main],.agg #[.int .i64 at_,.int .i64 kind,.int .i64 m]] w fun e w'=>e = .returned (.bool false)/\Below w.heap.size w w':=by
 go_enter Tryz.func133,Tryz.ntmps133;go_wp2_with fail
 go_region
 go_wp2_with fail;go_ret;exact ⟨rfl,(by first | exact bl2 _ _ _ | exact (bl2 _ _ _).drew | exact thenB (bAdrew _ _) (al1 _ _) | exact thenB (al1 _ _) (bAdrew _ _))⟩
theorem fixHolds_any (o:Ob) (x1:Option Addr) (y1:Nat) (x3:Option Addr) (y3:Nat) (x4:Option Addr) (y4:Nat) (x5:Option Addr) (y5:Nat) (f:Gf) (w:World) (hp:placeB o f.at_=true) (hC:DAt w Tt x3 o.code.length (gisD o.code)) (hu:o.uses.length<=17592186044416) :
 Calls Tryz.prog 133 #[.agg #[.string o.name,.slice x1 o.uses.length y1,.int .i64 o.data,.slice x3 o.code.length y3,.slice x4 o.fixes.length y4,.slice x5 o.entries.length y5,.int .i64 o.main],.agg #[.int .i64 f.at_,.int .i64 f.kind,.int .i64 f.m]] w fun e w'=>e = .returned (.bool (fixB o f))/\Below w.heap.size w w':=by
 obtain ⟨at_,kind,m⟩:=f;have hp':=of_decide_eq_true hp;simp only at hp'
 obtain ⟨j,rfl⟩:∃ j:Nat,at_=j:=⟨at_.toNat,by omega⟩
 have hj:j<o.code.length:=by omega
 have ha:aAt o (j:Int)=o.code[j].a:=by unfold aAt;rw [Int.toNat_natCast,List.getElem?_eq_getElem hj]
 unfold fixB;simp only [ha]
 by_cases e1:kind=1
 . subst e1;exact fixH1 o x1 y1 x3 y3 x4 y4 x5 y5 j m w hj hC hu
 by_cases e2:kind=2
 . subst e2;exact fixH2 o x1 y1 x3 y3 x4 y4 x5 y5 j m w hj hC hu
 by_cases e3:kind=3
 . subst e3;exact fixH3 o x1 y1 x3 y3 x4 y4 x5 y5 j m w hj hC hu
 . rw [if_neg e1,if_neg (by omega)]
   exact fixH0 o x1 y1 x3 y3 x4 y4 x5 y5 j kind m w e1 e2 e3 hu
end Go.Proofs.YtndkhgakfodldaaGreatDoor
