/-
  Units as they lie in memory; what is asked of one unit, without the program.
-/
import Derived.Test.YtndkhgakfodldaaGreatDoorUi
namespace Go.Proofs.YtndkhgakfodldaaGreatDoor
open Go.RowKit
set_option linter.unusedSimpArgs false
theorem ndsD_get:∀ (l:List Nd) (i:Nat) (h:i<l.length) (j:Nat),j<5->(ndsD l)[i*5+j]? = (l[i].ds)[j]?
 | [],i,h,_,_=>by simp at h
 | x :: r,0,_,j,hj=>by
   have:=x.ds_len;simp only [ndsD,List.getElem_cons_zero];rw [List.getElem?_append_left (by omega),Nat.zero_mul,Nat.zero_add]
 | x :: r,i+1,h,j,hj=>by
   have:=x.ds_len;simp only [ndsD,List.getElem_cons_succ];rw [List.getElem?_append_right (by omega),show (i+1)*5+j - x.ds.length=i*5+j from by omega];exact ndsD_get r i (by simpa using h) j hj
theorem acsD_get:∀ (l:List Ac) (i:Nat) (h:i<l.length) (j:Nat),j<7->(acsD l)[i*7+j]? = (l[i].ds)[j]?
 | [],i,h,_,_=>by simp at h
 | x :: r,0,_,j,hj=>by
   have:=x.ds_len;simp only [acsD,List.getElem_cons_zero];rw [List.getElem?_append_left (by omega),Nat.zero_mul,Nat.zero_add]
 | x :: r,i+1,h,j,hj=>by
   have:=x.ds_len;simp only [acsD,List.getElem_cons_succ];rw [List.getElem?_append_right (by omega),show (i+1)*7+j - x.ds.length=i*7+j from by omega];exact acsD_get r i (by simpa using h) j hj
def Un.ds (u:Un):List D:=[.str u.name,.list u.uses.length (strsD u.uses),.int u.data,.list u.parts.length (ptsD u.parts),.list u.main.length (acsD u.main)]
def unsD (l:List Un):List D:=l.flatMap Un.ds
structure NdAt (w:World) (A:Nat->Prop) (b o:Nat) (x:Nd) (a1:Option Addr) (k1:Nat):Prop where
 lt:b<w.heap.size
 c0:w.cell? ⟨b,o,none⟩=some (.int .i64 x.op)
 c1:w.cell? ⟨b,o+1,none⟩=some (.int .i64 x.n)
 c2:w.cell? ⟨b,o+2,none⟩=some (.int .i64 x.m)
 c3:w.cell? ⟨b,o+3,none⟩=some (.int .i64 x.at_)
 c4:w.cell? ⟨b,o+4,none⟩=some (.slice a1 x.args.length k1)
 args':DAt w A a1 x.args.length (ndsD x.args)
 w0:(Lit.int .i64 x.op).wf=true
 w1:(Lit.int .i64 x.n).wf=true
 w2:(Lit.int .i64 x.m).wf=true
 w3:(Lit.int .i64 x.at_).wf=true
theorem DAt.nd {w:World} {A:Nat->Prop} {a:Option Addr} {l:List Nd} (h:DAt w A a l.length (ndsD l)) (i:Nat) (hi:i<l.length):∃ b off a1 k1,a=some ⟨b,off,none⟩/\NdAt w A b (off+i*5) l[i] a1 k1:=by
 obtain ⟨b,off,ha,hb,hc⟩:=h.cell (by omega);generalize hx:l[i]=x;obtain ⟨op,n,m,at_,args⟩:=x
 have g:∀ j d,j<5->(Nd.mk op n m at_ args).ds[j]? = some d->∃ v,w.cell? ⟨b,off+i*5+j,none⟩=some v/\DVal w A d v:=fun j d hj hd=>by
  rw [Nat.add_assoc];exact hc (i*5+j) d ((ndsD_get l i hi j hj).trans (by rw [hx];exact hd))
 obtain ⟨v0,q0,d0⟩:=g 0 (.int op) (by omega) (by simp [Nd.ds]);obtain ⟨v1,q1,d1⟩:=g 1 (.int n) (by omega) (by simp [Nd.ds]);obtain ⟨v2,q2,d2⟩:=g 2 (.int m) (by omega) (by simp [Nd.ds]);obtain ⟨v3,q3,d3⟩:=g 3 (.int at_) (by omega) (by simp [Nd.ds]);obtain ⟨v4,q4,d4⟩:=g 4 (.list args.length (ndsD args)) (by omega) (by simp [Nd.ds]);obtain ⟨rfl,w0⟩:=dnum_of d0;obtain ⟨rfl,w1⟩:=dnum_of d1;obtain ⟨rfl,w2⟩:=dnum_of d2;obtain ⟨rfl,w3⟩:=dnum_of d3;obtain ⟨a1,k1,rfl,h1⟩:=dlist_of d4;exact ⟨b,off,a1,k1,ha,hb,q0,q1,q2,q3,q4,h1,w0,w1,w2,w3⟩
structure AcAt (w:World) (A:Nat->Prop) (b o:Nat) (x:Ac) (a1:Option Addr) (k1:Nat) (a2:Option Addr) (k2:Nat) (a3:Option Addr) (k3:Nat):Prop where
 lt:b<w.heap.size
 c0:w.cell? ⟨b,o,none⟩=some (.int .i64 x.op)
 c1:w.cell? ⟨b,o+1,none⟩=some (.int .i64 x.n)
 c2:w.cell? ⟨b,o+2,none⟩=some (.int .i64 x.m)
 c3:w.cell? ⟨b,o+3,none⟩=some (.int .i64 x.at_)
 c4:w.cell? ⟨b,o+4,none⟩=some (.slice a1 x.args.length k1)
 c5:w.cell? ⟨b,o+5,none⟩=some (.slice a2 x.body.length k2)
 c6:w.cell? ⟨b,o+6,none⟩=some (.slice a3 x.other.length k3)
 args':DAt w A a1 x.args.length (ndsD x.args)
 body':DAt w A a2 x.body.length (acsD x.body)
 other':DAt w A a3 x.other.length (acsD x.other)
 w0:(Lit.int .i64 x.op).wf=true
 w1:(Lit.int .i64 x.n).wf=true
 w2:(Lit.int .i64 x.m).wf=true
 w3:(Lit.int .i64 x.at_).wf=true
theorem DAt.ac {w:World} {A:Nat->Prop} {a:Option Addr} {l:List Ac} (h:DAt w A a l.length (acsD l)) (i:Nat) (hi:i<l.length):∃ b off a1 k1 a2 k2 a3 k3,a=some ⟨b,off,none⟩/\AcAt w A b (off+i*7) l[i] a1 k1 a2 k2 a3 k3:=by
 obtain ⟨b,off,ha,hb,hc⟩:=h.cell (by omega);generalize hx:l[i]=x;obtain ⟨op,n,m,at_,args,body,other⟩:=x
 have g:∀ j d,j<7->(Ac.mk op n m at_ args body other).ds[j]? = some d->∃ v,w.cell? ⟨b,off+i*7+j,none⟩=some v/\DVal w A d v:=fun j d hj hd=>by
  rw [Nat.add_assoc];exact hc (i*7+j) d ((acsD_get l i hi j hj).trans (by rw [hx];exact hd))
 obtain ⟨v0,q0,d0⟩:=g 0 (.int op) (by omega) (by simp [Ac.ds]);obtain ⟨v1,q1,d1⟩:=g 1 (.int n) (by omega) (by simp [Ac.ds]);obtain ⟨v2,q2,d2⟩:=g 2 (.int m) (by omega) (by simp [Ac.ds]);obtain ⟨v3,q3,d3⟩:=g 3 (.int at_) (by omega) (by simp [Ac.ds]);obtain ⟨v4,q4,d4⟩:=g 4 (.list args.length (ndsD args)) (by omega) (by simp [Ac.ds]);obtain ⟨v5,q5,d5⟩:=g 5 (.list body.length (acsD body)) (by omega) (by simp [Ac.ds]);obtain ⟨v6,q6,d6⟩:=g 6 (.list other.length (acsD other)) (by omega) (by simp [Ac.ds]);obtain ⟨rfl,w0⟩:=dnum_of d0;obtain ⟨rfl,w1⟩:=dnum_of d1;obtain ⟨rfl,w2⟩:=dnum_of d2;obtain ⟨rfl,w3⟩:=dnum_of d3;obtain ⟨a1,k1,rfl,h1⟩:=dlist_of d4;obtain ⟨a2,k2,rfl,h2⟩:=dlist_of d5;obtain ⟨a3,k3,rfl,h3⟩:=dlist_of d6;exact ⟨b,off,a1,k1,a2,k2,a3,k3,ha,hb,q0,q1,q2,q3,q4,q5,q6,h1,h2,h3,w0,w1,w2,w3⟩
structure PtAt (w:World) (A:Nat->Prop) (b o:Nat) (x:Pt) (a1:Option Addr) (k1:Nat):Prop where
 lt:b<w.heap.size
 c0:w.cell? ⟨b,o,none⟩=some (.int .i64 x.params)
 c1:w.cell? ⟨b,o+1,none⟩=some (.int .i64 x.locals)
 c2:w.cell? ⟨b,o+2,none⟩=some (.slice a1 x.body.length k1)
 body':DAt w A a1 x.body.length (acsD x.body)
 w0:(Lit.int .i64 x.params).wf=true
 w1:(Lit.int .i64 x.locals).wf=true
theorem DAt.pt {w:World} {A:Nat->Prop} {a:Option Addr} {l:List Pt} (h:DAt w A a l.length (ptsD l)) (i:Nat) (hi:i<l.length):∃ b off a1 k1,a=some ⟨b,off,none⟩/\PtAt w A b (off+i*3) l[i] a1 k1:=by
 obtain ⟨b,off,ha,hb,hc⟩:=h.cell (by omega);generalize hx:l[i]=x;obtain ⟨params,locals,body⟩:=x
 have g:∀ j d,j<3->(Pt.mk params locals body).ds[j]? = some d->∃ v,w.cell? ⟨b,off+i*3+j,none⟩=some v/\DVal w A d v:=fun j d hj hd=>by
  rw [Nat.add_assoc];exact hc (i*3+j) d ((flat_get Pt.ds 3 (fun _=>rfl) l i hi j hj).trans (by rw [hx];exact hd))
 obtain ⟨v0,q0,d0⟩:=g 0 (.int params) (by omega) (by simp [Pt.ds]);obtain ⟨v1,q1,d1⟩:=g 1 (.int locals) (by omega) (by simp [Pt.ds]);obtain ⟨v2,q2,d2⟩:=g 2 (.list body.length (acsD body)) (by omega) (by simp [Pt.ds]);obtain ⟨rfl,w0⟩:=dnum_of d0;obtain ⟨rfl,w1⟩:=dnum_of d1;obtain ⟨a1,k1,rfl,h1⟩:=dlist_of d2;exact ⟨b,off,a1,k1,ha,hb,q0,q1,q2,h1,w0,w1⟩
structure UnAt (w:World) (A:Nat->Prop) (b o:Nat) (x:Un) (a1:Option Addr) (k1:Nat) (a2:Option Addr) (k2:Nat) (a3:Option Addr) (k3:Nat):Prop where
 lt:b<w.heap.size
 c0:w.cell? ⟨b,o,none⟩=some (.string x.name)
 c1:w.cell? ⟨b,o+1,none⟩=some (.slice a1 x.uses.length k1)
 c2:w.cell? ⟨b,o+2,none⟩=some (.int .i64 x.data)
 c3:w.cell? ⟨b,o+3,none⟩=some (.slice a2 x.parts.length k2)
 c4:w.cell? ⟨b,o+4,none⟩=some (.slice a3 x.main.length k3)
 uses':DAt w A a1 x.uses.length (strsD x.uses)
 parts':DAt w A a2 x.parts.length (ptsD x.parts)
 main':DAt w A a3 x.main.length (acsD x.main)
 w0:x.name.size<=maxLen
 w2:(Lit.int .i64 x.data).wf=true
theorem DAt.un {w:World} {A:Nat->Prop} {a:Option Addr} {l:List Un} (h:DAt w A a l.length (unsD l)) (i:Nat) (hi:i<l.length):∃ b off a1 k1 a2 k2 a3 k3,a=some ⟨b,off,none⟩/\UnAt w A b (off+i*5) l[i] a1 k1 a2 k2 a3 k3:=by
 obtain ⟨b,off,ha,hb,hc⟩:=h.cell (by omega);generalize hx:l[i]=x;obtain ⟨name,uses,data,parts,main⟩:=x
 have g:∀ j d,j<5->(Un.mk name uses data parts main).ds[j]? = some d->∃ v,w.cell? ⟨b,off+i*5+j,none⟩=some v/\DVal w A d v:=fun j d hj hd=>by
  rw [Nat.add_assoc];exact hc (i*5+j) d ((flat_get Un.ds 5 (fun _=>rfl) l i hi j hj).trans (by rw [hx];exact hd))
 obtain ⟨v0,q0,d0⟩:=g 0 (.str name) (by omega) (by simp [Un.ds,ptsD]);obtain ⟨v1,q1,d1⟩:=g 1 (.list uses.length (strsD uses)) (by omega) (by simp [Un.ds,ptsD]);obtain ⟨v2,q2,d2⟩:=g 2 (.int data) (by omega) (by simp [Un.ds,ptsD]);obtain ⟨v3,q3,d3⟩:=g 3 (.list parts.length (ptsD parts)) (by omega) (by simp [Un.ds,ptsD]);obtain ⟨v4,q4,d4⟩:=g 4 (.list main.length (acsD main)) (by omega) (by simp [Un.ds,ptsD]);obtain ⟨rfl,w0⟩:=dstr_of d0;obtain ⟨a1,k1,rfl,h1⟩:=dlist_of d1;obtain ⟨rfl,w2⟩:=dnum_of d2;obtain ⟨a2,k2,rfl,h2⟩:=dlist_of d3;obtain ⟨a3,k3,rfl,h3⟩:=dlist_of d4;exact ⟨b,off,a1,k1,a2,k2,a3,k3,ha,hb,q0,q1,q2,q3,q4,h1,h2,h3,w0,w2⟩
structure Ck where
 data:Int
 uses:Nat
 parts:List Pt
 num:Int->Int->Int->Bool
 prt:Int->Int->Int->Bool
 locals:Int
def useB (c:Ck) (m:Int):Bool:=decide (1<=m/\m<=c.uses)
def lieB (size at_ n:Int):Bool:=decide (0<=at_/\at_+n<=size)
def numB (c:Ck) (m at_ n:Int):Bool:=if m=0 then lieB c.data at_ n else useB c m&&c.num m at_ n
def hasP (l:List Pt) (at_ k:Int):Bool:=decide (0<=at_)&&(match l[at_.toNat]? with | some p=>decide (p.params=k) | none=>false)
def prtB (c:Ck) (m at_ k:Int):Bool:=if m=0 then hasP c.parts at_ k else useB c m&&c.prt m at_ k
def arrB (c:Ck) (n m at_:Int):Bool:=decide (1<=n/\n<=32)&&numB c m at_ n
def locB (c:Ck) (at_:Int):Bool:=decide (0<=at_/\at_<c.locals)
def argsOf (op:Int):Int:=if op=2 then 0 else if op=6 then 1 else if 7<=op/\op<=15 then 2 else -1
def nodeA (c:Ck) (x:Nd):Bool:=
 if x.op=3 then decide (x.args.length=0)&&(decide (x.n=0)&&numB c x.m x.at_ 1)
 else if x.op=4 then decide (x.args.length=1)&&arrB c x.n x.m x.at_
 else if x.op=5 then decide (x.n=0)&&prtB c x.m x.at_ x.args.length
 else if x.op=16 then decide (x.args.length=0)&&(decide (x.n=0)&&(decide (x.m=0)&&locB c x.at_))
 else if x.op=1 then decide (x.args.length=0)&&(decide (0<=x.n/\x.n<=1099511627775)&&(decide (x.m=0)&&decide (x.at_=0)))
 else decide ((x.args.length:Int)=argsOf x.op)&&(decide (x.n=0)&&(decide (x.m=0)&&decide (x.at_=0)))
def ndsB (c:Ck):Nat->List Nd->Bool
 | 0,l=>decide (l.length=0)
 | k+1,l=>l.all fun x=>nodeA c x&&ndsB c k x.args
def actA (c:Ck) (a:Ac):Bool:=
 if a.op=1 then decide (a.args.length=1)&&(decide (a.n=0)&&(if a.m = -1 then locB c a.at_ else numB c a.m a.at_ 1))
 else if a.op=2 then decide (a.args.length=2)&&arrB c a.n a.m a.at_
 else if a.op=3 then decide (a.n=0)&&prtB c a.m a.at_ a.args.length
 else if 4<=a.op/\a.op<=7 then decide (a.args.length=1)&&(decide (a.n=0)&&(decide (a.m=0)&&decide (a.at_=0)))
 else false
def acsB (c:Ck):Nat->List Ac->Bool
 | 0,_=>false
 | k + 1,l=>decide (l.length<=10)&&l.all fun a=>actA c a&&(ndsB c 6 a.args &&
     (if a.op=4 then acsB c k a.body&&acsB c k a.other else if a.op=5 then acsB c k a.body&&decide (a.other.length=0) else decide (a.body.length=0)&&decide (a.other.length=0)))
def ptB (p:Pt):Bool:=decide (0<=p.params/\p.params<=3)&&decide (0<=p.locals/\p.locals<=4)
def headB (u:Un):Bool:=decide (chkM ⟨u.name,u.uses,[],[],[]⟩=0)&&(u.parts.all ptB&&(decide (0<=u.data/\u.data<=512)&&decide (u.parts.length<=6)))
def ckOf (u:Un) (num prt:Int->Int->Int->Bool) (locals:Int):Ck:=⟨u.data,u.uses.length,u.parts,num,prt,locals⟩
def holdB (u:Un) (num prt:Int->Int->Int->Bool):Bool:=
 headB u&&(u.parts.all (fun p=>acsB (ckOf u num prt (p.params+p.locals)) 6 p.body)&&acsB (ckOf u num prt 0) 6 u.main)
end Go.Proofs.YtndkhgakfodldaaGreatDoor

namespace Go.Proofs.YtndkhgakfodldaaGreatDoor
set_option maxRecDepth 100000
open Go.RowKit Go.Maps Go.WideMaps
set_option linter.unusedSimpArgs false
set_option linter.unusedVariables false
theorem wf_of {n:Int} (h:(Lit.int .i64 n).wf=true) : -9223372036854775808<=n/\n<=9223372036854775807:=by
 simp only [Lit.wf,Bool.and_eq_true,decide_eq_true_eq] at h;exact h
theorem lieIn_any (size at_ n:Int) (w:World) (h1:0<=size) (h2:size<=512) (h3:1<=n) (h4:n<=32) (hw:(Lit.int .i64 at_).wf=true) :
 Calls Tryz.prog 267 #[.int .i64 size,.int .i64 at_,.int .i64 n] w fun e w'=>e = .returned (.bool (lieB size at_ n))/\w'=w:=by
 obtain ⟨g1,g2⟩:=wf_of hw;clear hw
 by_cases ha:0<=at_
 . by_cases hb:at_<=size - n
   . have HR:Hid (lieB size at_ n=true):=decide_eq_true ⟨ha,by omega⟩
     go_enter Tryz.func267,Tryz.ntmps267;go_wp2_with fail;go_ret;exact ⟨ret_bool (by first | exact HR.out.symm | (rw [HR.out];first | (simp;omega) | (simp [*];done))),rfl⟩
   . have HR:Hid (lieB size at_ n=false):=decide_eq_false (by omega)
     have hb':size - n<at_:=by omega
     clear hb;go_enter Tryz.func267,Tryz.ntmps267;go_wp2_with fail;go_ret;exact ⟨ret_bool (by first | exact HR.out.symm | (rw [HR.out];first | (simp;omega) | (simp [*];done))),rfl⟩
 . have HR:Hid (lieB size at_ n=false):=decide_eq_false (by omega)
   have ha':at_<0:=by omega
   clear ha;go_enter Tryz.func267,Tryz.ntmps267;go_wp2_with fail;go_ret;exact ⟨ret_bool (by first | exact HR.out.symm | (rw [HR.out];first | (simp;omega) | (simp [*];done))),rfl⟩
theorem argsOf_any (op:Int) (w:World) :
 Calls Tryz.prog 269 #[.int .i64 op] w fun e w'=>e = .returned (.int .i64 (argsOf op))/\w'=w:=by
 by_cases h2:op=2
 . subst h2
   go_enter Tryz.func269,Tryz.ntmps269;go_wp2_with fail;go_ret;exact ⟨rfl,rfl⟩
 by_cases h6:op=6
 . subst h6
   go_enter Tryz.func269,Tryz.ntmps269;go_wp2_with fail;go_ret;exact ⟨rfl,rfl⟩
 by_cases h7:7<=op
 . by_cases h15:op<=15
   . have HR:Hid (argsOf op=2):=by show _=_;unfold argsOf;rw [if_neg h2,if_neg h6,if_pos ⟨h7,h15⟩]
     go_enter Tryz.func269,Tryz.ntmps269;go_wp2_with fail;go_ret;exact ⟨ret_int HR.out.symm,rfl⟩
   . have HR:Hid (argsOf op = -1):=by show _=_;unfold argsOf;rw [if_neg h2,if_neg h6,if_neg (by omega)]
     have h15':15<op:=by omega
     clear h15;go_enter Tryz.func269,Tryz.ntmps269;go_wp2_with fail;go_ret;exact ⟨ret_int HR.out.symm,rfl⟩
 . have HR:Hid (argsOf op = -1):=by show _=_;unfold argsOf;rw [if_neg h2,if_neg h6,if_neg (by omega)]
   have h7':op<7:=by omega
   clear h7;go_enter Tryz.func269,Tryz.ntmps269;go_wp2_with fail;go_ret;exact ⟨ret_int HR.out.symm,rfl⟩
theorem localHolds_any (c:Ck) (s:ByteArray) (x1:Option Addr) (y1:Nat) (x2:Option Addr) (y2:Nat) (x3:Option Addr) (n3 y3:Nat) (iv:Value) (m:Int) (w:World) :
 Calls Tryz.prog 209 #[.agg #[.string s,.slice x1 c.uses y1,.int .i64 c.data,.slice x2 c.parts.length y2,.slice x3 n3 y3,iv,.int .i64 c.locals],.int .i64 m] w fun e w'=>e = .returned (.bool (locB c m))/\Below w.heap.size w w':=by
 by_cases ha:0<=m
 . by_cases hb:m<c.locals
   . have HR:Hid (locB c m=true):=decide_eq_true ⟨ha,hb⟩
     go_enter Tryz.func209,Tryz.ntmps209;go_wp2_with fail;go_ret;exact ⟨ret_bool (by first | exact HR.out.symm | (rw [HR.out];first | (simp;omega) | (simp [*];done))),al1 _ _⟩
   . have HR:Hid (locB c m=false):=decide_eq_false (by omega)
     have hb':c.locals<=m:=by omega
     clear hb;go_enter Tryz.func209,Tryz.ntmps209;go_wp2_with fail;go_ret;exact ⟨ret_bool (by first | exact HR.out.symm | (rw [HR.out];first | (simp;omega) | (simp [*];done))),al1 _ _⟩
 . have HR:Hid (locB c m=false):=decide_eq_false (by omega)
   have ha':m<0:=by omega
   clear ha;go_enter Tryz.func209,Tryz.ntmps209;go_wp2_with fail;go_ret;exact ⟨ret_bool (by first | exact HR.out.symm | (rw [HR.out];first | (simp;omega) | (simp [*];done))),al1 _ _⟩
theorem isUse_any (c:Ck) (s:ByteArray) (x1:Option Addr) (y1:Nat) (x2:Option Addr) (y2:Nat) (x3:Option Addr) (n3 y3:Nat) (iv:Value) (m:Int) (w:World) :
 Calls Tryz.prog 268 #[.agg #[.string s,.slice x1 c.uses y1,.int .i64 c.data,.slice x2 c.parts.length y2,.slice x3 n3 y3,iv,.int .i64 c.locals],.int .i64 m] w fun e w'=>e = .returned (.bool (useB c m))/\Below w.heap.size w w':=by
 by_cases ha:1<=m
 . by_cases hb:m<=c.uses
   . have HR:Hid (useB c m=true):=decide_eq_true ⟨ha,hb⟩
     go_enter Tryz.func268,Tryz.ntmps268;go_wp2_with fail;go_ret;exact ⟨ret_bool (by first | exact HR.out.symm | (rw [HR.out];first | (simp;omega) | (simp [*];done))),al1 _ _⟩
   . have HR:Hid (useB c m=false):=decide_eq_false (by omega)
     have hb':(c.uses:Int)<m:=by omega
     clear hb;go_enter Tryz.func268,Tryz.ntmps268;go_wp2_with fail;go_ret;exact ⟨ret_bool (by first | exact HR.out.symm | (rw [HR.out];first | (simp;omega) | (simp [*];done))),al1 _ _⟩
 . have HR:Hid (useB c m=false):=decide_eq_false (by omega)
   have ha':m<1:=by omega
   clear ha;go_enter Tryz.func268,Tryz.ntmps268;go_wp2_with fail;go_ret;exact ⟨ret_bool (by first | exact HR.out.symm | (rw [HR.out];first | (simp;omega) | (simp [*];done))),al1 _ _⟩
structure UsAt (w:World) (c:Ck) (nf pf:FuncId) (v:Value):Prop where
 num:∀ W,Below w.heap.size w W->∀ m at_ n:Int,useB c m=true->(Lit.int .i64 at_).wf=true->1<=n->n<=32->Calls Tryz.prog nf #[v,.int .i64 m,.int .i64 at_,.int .i64 n] W fun e W'=>e = .returned (.bool (c.num m at_ n))/\Below W.heap.size W W'
 prt:∀ W,Below w.heap.size w W->∀ (m at_:Int) (k:Nat),useB c m=true->(Lit.int .i64 at_).wf=true->k<=17592186044416->Calls Tryz.prog pf #[v,.int .i64 m,.int .i64 at_,.int .i64 k] W fun e W'=>e = .returned (.bool (c.prt m at_ k))/\Below W.heap.size W W'
structure CkAt (w:World) (c:Ck) (cv:Value):Prop where
 num:∀ W,Below w.heap.size w W->∀ m at_ n:Int,(Lit.int .i64 m).wf=true->(Lit.int .i64 at_).wf=true->1<=n->n<=32->Calls Tryz.prog 210 #[cv,.int .i64 m,.int .i64 at_,.int .i64 n] W fun e W'=>e = .returned (.bool (numB c m at_ n))/\Below W.heap.size W W'
 prt:∀ W,Below w.heap.size w W->∀ (m at_:Int) (k:Nat),(Lit.int .i64 m).wf=true->(Lit.int .i64 at_).wf=true->k<=17592186044416->Calls Tryz.prog 212 #[cv,.int .i64 m,.int .i64 at_,.int .i64 k] W fun e W'=>e = .returned (.bool (prtB c m at_ k))/\Below W.heap.size W W'
theorem CkAt.later {w w':World} {c:Ck} {cv:Value} (h:CkAt w c cv) (hb:Below w.heap.size w w'):CkAt w' c cv:=⟨fun W hW=>h.num W (thenB hb hW),fun W hW=>h.prt W (thenB hb hW)⟩
theorem UsAt.later {w w':World} {c:Ck} {nf pf:FuncId} {v:Value} (h:UsAt w c nf pf v) (hb:Below w.heap.size w w'):UsAt w' c nf pf v:=⟨fun W hW=>h.num W (thenB hb hW),fun W hW=>h.prt W (thenB hb hW)⟩
end Go.Proofs.YtndkhgakfodldaaGreatDoor

namespace Go.Proofs.YtndkhgakfodldaaGreatDoor
set_option maxRecDepth 100000
set_option maxHeartbeats 1600000
open Go.RowKit Go.Maps Go.WideMaps
set_option linter.unusedSimpArgs false
set_option linter.unusedVariables false
theorem cells7 {w:World} {b:Nat} {x0 x1 x2 x3 x4 x5 x6:Value} {t:TypeId} (h:w.heap[b]? = some (.cells #[x0,x1,x2,x3,x4,x5,x6] t (0,0))) :
 w.cell? ⟨b,0,none⟩=some x0/\w.cell? ⟨b,1,none⟩=some x1/\w.cell? ⟨b,2,none⟩=some x2/\w.cell? ⟨b,3,none⟩=some x3/\w.cell? ⟨b,4,none⟩=some x4/\w.cell? ⟨b,5,none⟩=some x5/\w.cell? ⟨b,6,none⟩=some x6/\b<w.heap.size:=by
 refine ⟨?_,?_,?_,?_,?_,?_,?_,lt_of_heap h⟩<;>(rw [Lib.cell_of_heap h];rfl)
theorem newP1 (w:World) (o p:Obj):((w.alloc o).alloc p).heap[w.heap.size+1]? = some p:=by simpa using heap_newP (w.alloc o) p
theorem nilPK (av:Option Addr) (nv cv:Nat) (w:World):(nilAhead 337 199 (.slice av nv cv) "HasPart").run Tryz.prog w = .ok (some false) w:=by kernel_rfl
theorem metPK (av:Option Addr) (nv cv:Nat) (w:World):(method 337 199 (.slice av nv cv) "HasPart").run Tryz.prog w = .ok (330,.slice av nv cv) w:=by kernel_rfl
theorem partK (c:Ck) (s:ByteArray) (x1:Option Addr) (y1:Nat) (x2:Option Addr) (y2:Nat) (x3:Option Addr) (n3 y3:Nat) (av:Option Addr) (nv cv:Nat) (m at_:Int) (k:Nat) (w:World) (hP:DAt w Tt x2 c.parts.length (ptsD c.parts)) (hu:c.uses<=17592186044416) (hU:UsAt w c 329 330 (.slice av nv cv)) (hm:(Lit.int .i64 m).wf=true) (ha:(Lit.int .i64 at_).wf=true) (hk:k<=17592186044416) :
 Calls Tryz.prog 212 #[.agg #[.string s,.slice x1 c.uses y1,.int .i64 c.data,.slice x2 c.parts.length y2,.slice x3 n3 y3,.iface 199 (.slice av nv cv),.int .i64 c.locals],.int .i64 m,.int .i64 at_,.int .i64 k] w fun e w'=>e = .returned (.bool (prtB c m at_ k))/\Below w.heap.size w w':=by
 have HU:=hid hU;have HA:=hid ha;have HP:=hid hP;have hpb:=hP.bound;clear hU ha hm hP;have n1:=nilPK av nv cv;have n2:=metPK av nv cv
 by_cases h0:m=0
 . subst h0
   have HR:Hid (prtB c 0 at_ k=hasP c.parts at_ k):=if_pos rfl
   by_cases t1:0<=at_
   . obtain ⟨i,rfl⟩:∃ i:Nat,at_=i:=⟨at_.toNat,by omega⟩
     by_cases t2:i<c.parts.length
     . obtain ⟨b,off,ab,cb,rfl,hx⟩:=(HP.out.later (al1 w (.cells #[.string s,.slice x1 c.uses y1,.int .i64 c.data,.slice x2 c.parts.length y2,.slice x3 n3 y3,.iface 199 (.slice av nv cv),.int .i64 c.locals] 206))).pt i t2
       have HQ:Hid (hasP c.parts i k=decide (c.parts[i].params=k)):=by show _=_;unfold hasP;rw [decide_eq_true t1,Int.toNat_natCast,List.getElem?_eq_getElem t2];rfl
       obtain ⟨hbl,p0,_,_,_,_,_⟩:=hx
       have t2':(i:Int)<c.parts.length:=by omega
       have pz:b<w.heap.size+1:=by simpa using hbl
       generalize c.parts[i].params=pp at *
       by_cases t3:pp=k
       . have HR':Hid (prtB c 0 i k=true):=by show _=_;rw [HR.out,HQ.out,decide_eq_true t3]
         subst t3;go_enter Tryz.func212,Tryz.ntmps212;go_wp2_with fail;go_ret;exact ⟨ret_bool (by first | exact HR'.out.symm | (rw [HR'.out];first | (simp;omega) | (simp [*];done))),al1 _ _⟩
       . have HR':Hid (prtB c 0 i k=false):=by show _=_;rw [HR.out,HQ.out,decide_eq_false t3]
         go_enter Tryz.func212,Tryz.ntmps212;go_wp2_with fail;go_ret;exact ⟨ret_bool (by first | exact HR'.out.symm | (rw [HR'.out];first | (simp;omega) | (simp [*];done))),al1 _ _⟩
     . have HR':Hid (prtB c 0 i k=false):=by show _=_;rw [HR.out];unfold hasP;rw [Int.toNat_natCast,List.getElem?_eq_none (by omega)];simp
       have t2':c.parts.length<=i:=by omega
       clear t2;go_enter Tryz.func212,Tryz.ntmps212;go_wp2_with fail;go_ret;exact ⟨ret_bool (by first | exact HR'.out.symm | (rw [HR'.out];first | (simp;omega) | (simp [*];done))),al1 _ _⟩
   . have HR':Hid (prtB c 0 at_ k=false):=by show _=_;rw [HR.out];unfold hasP;rw [decide_eq_false t1];rfl
     have t1':at_<0:=by omega
     clear t1;go_enter Tryz.func212,Tryz.ntmps212;go_wp2_with fail;go_ret;exact ⟨ret_bool (by first | exact HR'.out.symm | (rw [HR'.out];first | (simp;omega) | (simp [*];done))),al1 _ _⟩
 . have HR:Hid (prtB c m at_ k=(useB c m&&c.prt m at_ k)):=if_neg h0
   have HI:=hid (isUse_any c s x1 y1 x2 y2 x3 n3 y3 (.iface 199 (.slice av nv cv)) m (w.alloc (.cells #[.string s,.slice x1 c.uses y1,.int .i64 c.data,.slice x2 c.parts.length y2,.slice x3 n3 y3,.iface 199 (.slice av nv cv),.int .i64 c.locals] 206)))
   cases hb:useB c m with
   | false=>
     rw [hb] at HI HR;go_enter Tryz.func212,Tryz.ntmps212;go_wp2_with fail;refine HI.out.mono ?_;rintro e w1 ⟨rfl,hb1⟩;have HB1:=hid (thenB (al1 w _) hb1);clear hb1;go_wp2_with fail;go_ret;exact ⟨ret_bool (by first | exact HR.out.symm | (rw [HR.out];first | (simp;omega) | (simp [*];done))),HB1.out⟩
   | true=>
     rw [hb] at HI HR;have HUb:=hid hb;clear hb;go_enter Tryz.func212,Tryz.ntmps212;go_wp2_with fail;refine HI.out.mono ?_;rintro e w1 ⟨rfl,hb1⟩;have HB1:=hid (thenB (al1 w _) hb1);have q1:=(hb1.block _ (by simp)).trans (heap_newP w (.cells #[.string s,.slice x1 c.uses y1,.int .i64 c.data,.slice x2 c.parts.length y2,.slice x3 n3 y3,.iface 199 (.slice av nv cv),.int .i64 c.locals] 206));obtain ⟨c0,c1,c2,c3,c4,c5,c6,cz⟩:=cells7 q1;clear hb1 q1 c0 c1 c2 c3 c4 c6 HI
     go_wp2_with (go_at_call 330;refine (HU.out.prt _ HB1.out m at_ k HUb.out HA.out hk).mono ?_;rintro e w2 ⟨rfl,hb2⟩;have HB2:=hid (thenB HB1.out hb2);clear hb2)
     go_ret;exact ⟨ret_bool (by rw [HR.out];rfl),HB2.out⟩
theorem nilNS (w:World):(nilAhead 337 133 (.agg #[]) "HasNumbers").run Tryz.prog w = .ok (some false) w:=by kernel_rfl
theorem nilPS (w:World):(nilAhead 337 133 (.agg #[]) "HasPart").run Tryz.prog w = .ok (some false) w:=by kernel_rfl
theorem metNS (w:World):(method 337 133 (.agg #[]) "HasNumbers").run Tryz.prog w = .ok (327,.agg #[]) w:=by kernel_rfl
theorem metPS (w:World):(method 337 133 (.agg #[]) "HasPart").run Tryz.prog w = .ok (328,.agg #[]) w:=by kernel_rfl
theorem numbersS (c:Ck) (s:ByteArray) (x1:Option Addr) (y1:Nat) (x2:Option Addr) (y2:Nat) (x3:Option Addr) (n3 y3:Nat) (m at_ n:Int) (w:World) (hd0:0<=c.data) (hd1:c.data<=512) (hu:c.uses<=17592186044416) (hU:UsAt w c 327 328 (.agg #[])) (hm:(Lit.int .i64 m).wf=true) (ha:(Lit.int .i64 at_).wf=true) (h1:1<=n) (h2:n<=32) :
 Calls Tryz.prog 210 #[.agg #[.string s,.slice x1 c.uses y1,.int .i64 c.data,.slice x2 c.parts.length y2,.slice x3 n3 y3,.iface 133 (.agg #[]),.int .i64 c.locals],.int .i64 m,.int .i64 at_,.int .i64 n] w fun e w'=>e = .returned (.bool (numB c m at_ n))/\Below w.heap.size w w':=by
 have HU:=hid hU;have HA:=hid ha;clear hU ha hm;have n1:=nilNS;have n2:=metNS
 by_cases h0:m=0
 . subst h0
   have HR:Hid (numB c 0 at_ n=lieB c.data at_ n):=if_pos rfl;go_enter Tryz.func210,Tryz.ntmps210;go_wp2_with fail;refine (lieIn_any c.data at_ n _ hd0 hd1 h1 h2 HA.out).mono ?_;rintro e w1 ⟨rfl,rfl⟩;go_wp2_with fail;go_ret;exact ⟨ret_bool (by first | exact HR.out.symm | (rw [HR.out];first | (simp;omega) | (simp [*];done))),al1 _ _⟩
 . have HR:Hid (numB c m at_ n=(useB c m&&c.num m at_ n)):=if_neg h0
   have HI:=hid (isUse_any c s x1 y1 x2 y2 x3 n3 y3 (.iface 133 (.agg #[])) m (w.alloc (.cells #[.string s,.slice x1 c.uses y1,.int .i64 c.data,.slice x2 c.parts.length y2,.slice x3 n3 y3,.iface 133 (.agg #[]),.int .i64 c.locals] 206)))
   cases hb:useB c m with
   | false=>
     rw [hb] at HI HR;go_enter Tryz.func210,Tryz.ntmps210;go_wp2_with fail;refine HI.out.mono ?_;rintro e w1 ⟨rfl,hb1⟩;have HB1:=hid (thenB (al1 w _) hb1);clear hb1;go_wp2_with fail;go_ret;exact ⟨ret_bool (by first | exact HR.out.symm | (rw [HR.out];first | (simp;omega) | (simp [*];done))),HB1.out⟩
   | true=>
     rw [hb] at HI HR;have HUb:=hid hb;clear hb;go_enter Tryz.func210,Tryz.ntmps210;go_wp2_with fail;refine HI.out.mono ?_;rintro e w1 ⟨rfl,hb1⟩;have HB1:=hid (thenB (al1 w _) hb1);have q1:=(hb1.block _ (by simp)).trans (heap_newP w (.cells #[.string s,.slice x1 c.uses y1,.int .i64 c.data,.slice x2 c.parts.length y2,.slice x3 n3 y3,.iface 133 (.agg #[]),.int .i64 c.locals] 206));obtain ⟨c0,c1,c2,c3,c4,c5,c6,cz⟩:=cells7 q1;clear hb1 q1 c0 c1 c2 c3 c4 c6 HI
     go_wp2_with (go_at_call 327;refine (HU.out.num _ HB1.out m at_ n HUb.out HA.out h1 h2).mono ?_;rintro e w2 ⟨rfl,hb2⟩;have HB2:=hid (thenB HB1.out hb2);clear hb2)
     go_ret;exact ⟨ret_bool (by rw [HR.out];rfl),HB2.out⟩
theorem partS (c:Ck) (s:ByteArray) (x1:Option Addr) (y1:Nat) (x2:Option Addr) (y2:Nat) (x3:Option Addr) (n3 y3:Nat) (m at_:Int) (k:Nat) (w:World) (hP:DAt w Tt x2 c.parts.length (ptsD c.parts)) (hu:c.uses<=17592186044416) (hU:UsAt w c 327 328 (.agg #[])) (hm:(Lit.int .i64 m).wf=true) (ha:(Lit.int .i64 at_).wf=true) (hk:k<=17592186044416) :
 Calls Tryz.prog 212 #[.agg #[.string s,.slice x1 c.uses y1,.int .i64 c.data,.slice x2 c.parts.length y2,.slice x3 n3 y3,.iface 133 (.agg #[]),.int .i64 c.locals],.int .i64 m,.int .i64 at_,.int .i64 k] w fun e w'=>e = .returned (.bool (prtB c m at_ k))/\Below w.heap.size w w':=by
 have HU:=hid hU;have HA:=hid ha;have HP:=hid hP;have hpb:=hP.bound;clear hU ha hm hP;have n1:=nilPS;have n2:=metPS
 by_cases h0:m=0
 . subst h0
   have HR:Hid (prtB c 0 at_ k=hasP c.parts at_ k):=if_pos rfl
   by_cases t1:0<=at_
   . obtain ⟨i,rfl⟩:∃ i:Nat,at_=i:=⟨at_.toNat,by omega⟩
     by_cases t2:i<c.parts.length
     . obtain ⟨b,off,ab,cb,rfl,hx⟩:=(HP.out.later (al1 w (.cells #[.string s,.slice x1 c.uses y1,.int .i64 c.data,.slice x2 c.parts.length y2,.slice x3 n3 y3,.iface 133 (.agg #[]),.int .i64 c.locals] 206))).pt i t2
       have HQ:Hid (hasP c.parts i k=decide (c.parts[i].params=k)):=by show _=_;unfold hasP;rw [decide_eq_true t1,Int.toNat_natCast,List.getElem?_eq_getElem t2];rfl
       obtain ⟨hbl,p0,_,_,_,_,_⟩:=hx
       have t2':(i:Int)<c.parts.length:=by omega
       have pz:b<w.heap.size+1:=by simpa using hbl
       generalize c.parts[i].params=pp at *
       by_cases t3:pp=k
       . have HR':Hid (prtB c 0 i k=true):=by show _=_;rw [HR.out,HQ.out,decide_eq_true t3]
         subst t3;go_enter Tryz.func212,Tryz.ntmps212;go_wp2_with fail;go_ret;exact ⟨ret_bool (by first | exact HR'.out.symm | (rw [HR'.out];first | (simp;omega) | (simp [*];done))),al1 _ _⟩
       . have HR':Hid (prtB c 0 i k=false):=by show _=_;rw [HR.out,HQ.out,decide_eq_false t3]
         go_enter Tryz.func212,Tryz.ntmps212;go_wp2_with fail;go_ret;exact ⟨ret_bool (by first | exact HR'.out.symm | (rw [HR'.out];first | (simp;omega) | (simp [*];done))),al1 _ _⟩
     . have HR':Hid (prtB c 0 i k=false):=by show _=_;rw [HR.out];unfold hasP;rw [Int.toNat_natCast,List.getElem?_eq_none (by omega)];simp
       have t2':c.parts.length<=i:=by omega
       clear t2;go_enter Tryz.func212,Tryz.ntmps212;go_wp2_with fail;go_ret;exact ⟨ret_bool (by first | exact HR'.out.symm | (rw [HR'.out];first | (simp;omega) | (simp [*];done))),al1 _ _⟩
   . have HR':Hid (prtB c 0 at_ k=false):=by show _=_;rw [HR.out];unfold hasP;rw [decide_eq_false t1];rfl
     have t1':at_<0:=by omega
     clear t1;go_enter Tryz.func212,Tryz.ntmps212;go_wp2_with fail;go_ret;exact ⟨ret_bool (by first | exact HR'.out.symm | (rw [HR'.out];first | (simp;omega) | (simp [*];done))),al1 _ _⟩
 . have HR:Hid (prtB c m at_ k=(useB c m&&c.prt m at_ k)):=if_neg h0
   have HI:=hid (isUse_any c s x1 y1 x2 y2 x3 n3 y3 (.iface 133 (.agg #[])) m (w.alloc (.cells #[.string s,.slice x1 c.uses y1,.int .i64 c.data,.slice x2 c.parts.length y2,.slice x3 n3 y3,.iface 133 (.agg #[]),.int .i64 c.locals] 206)))
   cases hb:useB c m with
   | false=>
     rw [hb] at HI HR;go_enter Tryz.func212,Tryz.ntmps212;go_wp2_with fail;refine HI.out.mono ?_;rintro e w1 ⟨rfl,hb1⟩;have HB1:=hid (thenB (al1 w _) hb1);clear hb1;go_wp2_with fail;go_ret;exact ⟨ret_bool (by first | exact HR.out.symm | (rw [HR.out];first | (simp;omega) | (simp [*];done))),HB1.out⟩
   | true=>
     rw [hb] at HI HR;have HUb:=hid hb;clear hb;go_enter Tryz.func212,Tryz.ntmps212;go_wp2_with fail;refine HI.out.mono ?_;rintro e w1 ⟨rfl,hb1⟩;have HB1:=hid (thenB (al1 w _) hb1);have q1:=(hb1.block _ (by simp)).trans (heap_newP w (.cells #[.string s,.slice x1 c.uses y1,.int .i64 c.data,.slice x2 c.parts.length y2,.slice x3 n3 y3,.iface 133 (.agg #[]),.int .i64 c.locals] 206));obtain ⟨c0,c1,c2,c3,c4,c5,c6,cz⟩:=cells7 q1;clear hb1 q1 c0 c1 c2 c3 c4 c6 HI
     go_wp2_with (go_at_call 328;refine (HU.out.prt _ HB1.out m at_ k HUb.out HA.out hk).mono ?_;rintro e w2 ⟨rfl,hb2⟩;have HB2:=hid (thenB HB1.out hb2);clear hb2)
     go_ret;exact ⟨ret_bool (by rw [HR.out];rfl),HB2.out⟩
theorem ckS (c:Ck) (s:ByteArray) (x1:Option Addr) (y1:Nat) (x2:Option Addr) (y2:Nat) (x3:Option Addr) (n3 y3:Nat) (w:World) (hd0:0<=c.data) (hd1:c.data<=512) (hu:c.uses<=17592186044416) (hP:DAt w Tt x2 c.parts.length (ptsD c.parts)) (hU:UsAt w c 327 328 (.agg #[])):CkAt w c (.agg #[.string s,.slice x1 c.uses y1,.int .i64 c.data,.slice x2 c.parts.length y2,.slice x3 n3 y3,.iface 133 (.agg #[]),.int .i64 c.locals]):=
 ⟨fun W hW m at_ n h1 h2 h3 h4=>numbersS c s x1 y1 x2 y2 x3 n3 y3 m at_ n W hd0 hd1 hu (hU.later hW) h1 h2 h3 h4,fun W hW m at_ k h1 h2 h3=>partS c s x1 y1 x2 y2 x3 n3 y3 m at_ k W (hP.later hW) hu (hU.later hW) h1 h2 h3⟩
end Go.Proofs.YtndkhgakfodldaaGreatDoor

namespace Go.Proofs.YtndkhgakfodldaaGreatDoor
set_option maxRecDepth 100000
set_option maxHeartbeats 3200000
open Go.RowKit Go.Maps Go.WideMaps
set_option linter.unusedSimpArgs false
set_option linter.unusedVariables false
theorem arrayHolds_any (c:Ck) (s:ByteArray) (x1:Option Addr) (y1:Nat) (x2:Option Addr) (y2:Nat) (x3:Option Addr) (n3 y3:Nat) (iv:Value) (n m at_:Int) (w:World) (hC:CkAt w c (.agg #[.string s,.slice x1 c.uses y1,.int .i64 c.data,.slice x2 c.parts.length y2,.slice x3 n3 y3,iv,.int .i64 c.locals])) (hm:(Lit.int .i64 m).wf=true) (ha:(Lit.int .i64 at_).wf=true) :
 Calls Tryz.prog 211 #[.agg #[.string s,.slice x1 c.uses y1,.int .i64 c.data,.slice x2 c.parts.length y2,.slice x3 n3 y3,iv,.int .i64 c.locals],.int .i64 n,.int .i64 m,.int .i64 at_] w fun e w'=>e = .returned (.bool (arrB c n m at_))/\Below w.heap.size w w':=by
 have HN:=hid (fun h1 h2=>hC.num (w.alloc (.cells #[.string s,.slice x1 c.uses y1,.int .i64 c.data,.slice x2 c.parts.length y2,.slice x3 n3 y3,iv,.int .i64 c.locals] 206)) (al1 _ _) m at_ n hm ha h1 h2);clear hC hm ha
 by_cases h1:1<=n
 . by_cases h2:n<=32
   . have HR:Hid (arrB c n m at_=numB c m at_ n):=by show _=_;unfold arrB;rw [decide_eq_true ⟨h1,h2⟩];rfl
     go_enter Tryz.func211,Tryz.ntmps211;go_wp2_with fail;refine (HN.out h1 h2).mono ?_;rintro e w1 ⟨rfl,hb1⟩;have HB1:=hid (thenB (al1 w _) hb1);clear hb1;go_wp2_with fail;go_ret;exact ⟨ret_bool (by first | exact HR.out.symm | (rw [HR.out];first | (simp;omega) | (simp [*];done))),HB1.out⟩
   . have HR:Hid (arrB c n m at_=false):=by show _=_;unfold arrB;rw [decide_eq_false (by omega)];rfl
     have h2':32<n:=by omega
     clear h2 HN;go_enter Tryz.func211,Tryz.ntmps211;go_wp2_with fail;go_ret;exact ⟨ret_bool (by first | exact HR.out.symm | (rw [HR.out];first | (simp;omega) | (simp [*];done))),al1 _ _⟩
 . have HR:Hid (arrB c n m at_=false):=by show _=_;unfold arrB;rw [decide_eq_false (by omega)];rfl
   have h1':n<1:=by omega
   clear h1 HN;go_enter Tryz.func211,Tryz.ntmps211;go_wp2_with fail;go_ret;exact ⟨ret_bool (by first | exact HR.out.symm | (rw [HR.out];first | (simp;omega) | (simp [*];done))),al1 _ _⟩
theorem nodeHolds_any (c:Ck) (s:ByteArray) (x1:Option Addr) (y1:Nat) (x2:Option Addr) (y2:Nat) (x3:Option Addr) (n3 y3:Nat) (iv:Value) (x:Nd) (aa:Option Addr) (cp:Nat) (w:World) (hC:CkAt w c (.agg #[.string s,.slice x1 c.uses y1,.int .i64 c.data,.slice x2 c.parts.length y2,.slice x3 n3 y3,iv,.int .i64 c.locals])) (hm:(Lit.int .i64 x.m).wf=true) (ha:(Lit.int .i64 x.at_).wf=true) (hl:x.args.length<=17592186044416) :
 Calls Tryz.prog 213 #[.agg #[.string s,.slice x1 c.uses y1,.int .i64 c.data,.slice x2 c.parts.length y2,.slice x3 n3 y3,iv,.int .i64 c.locals],.agg #[.int .i64 x.op,.int .i64 x.n,.int .i64 x.m,.int .i64 x.at_,.slice aa x.args.length cp]] w fun e w'=>e = .returned (.bool (nodeA c x))/\Below w.heap.size w w':=by
 obtain ⟨op,n,m,at_,args⟩:=x;simp only [Nd.op,Nd.n,Nd.m,Nd.at_,Nd.args] at *;have HC:=hid hC;have HM:=hid hm;have HA:=hid ha;clear hC hm ha
 by_cases o3:op=3
 . subst o3
   by_cases t2:args.length=0
   . by_cases t1:n=0
     . have HR:Hid (nodeA c (.mk 3 n m at_ args)=numB c m at_ 1):=by show _=_;unfold nodeA;simp only [Nd.op,Nd.n,Nd.m,Nd.at_,Nd.args];simp [*]
       go_enter Tryz.func213,Tryz.ntmps213;go_wp2_with fail;refine (HC.out.num _ (al2 _ _ _) m at_ 1 HM.out HA.out (by decide) (by decide)).mono ?_;rintro e w1 ⟨rfl,hb1⟩;have HB1:=hid (thenB (al2 w _ _) hb1);clear hb1;go_wp2_with fail;go_ret;exact ⟨ret_bool (by first | exact HR.out.symm | (rw [HR.out];first | (simp;omega) | (simp [*];done))),HB1.out⟩
     . have HR:Hid (nodeA c (.mk 3 n m at_ args)=false):=by show _=_;unfold nodeA;simp only [Nd.op,Nd.n,Nd.m,Nd.at_,Nd.args];simp [*]
       have t':n≠0:=by omega
       clear t1;go_enter Tryz.func213,Tryz.ntmps213;go_wp2_with fail;go_ret;exact ⟨ret_bool (by first | exact HR.out.symm | (rw [HR.out];first | (simp;omega) | (simp [*];done))),al2 _ _ _⟩
   . have HR:Hid (nodeA c (.mk 3 n m at_ args)=false):=by show _=_;unfold nodeA;simp only [Nd.op,Nd.n,Nd.m,Nd.at_,Nd.args];simp [*]
     have t':args.length≠0:=by omega
     clear t2;go_enter Tryz.func213,Tryz.ntmps213;go_wp2_with fail;go_ret;exact ⟨ret_bool (by first | exact HR.out.symm | (rw [HR.out];first | (simp;omega) | (simp [*];done))),al2 _ _ _⟩
 by_cases o4:op=4
 . subst o4
   by_cases t1:args.length=1
   . have HR:Hid (nodeA c (.mk 4 n m at_ args)=arrB c n m at_):=by show _=_;unfold nodeA;simp only [Nd.op,Nd.n,Nd.m,Nd.at_,Nd.args];simp [*]
     go_enter Tryz.func213,Tryz.ntmps213;go_wp2_with fail;refine (arrayHolds_any c s x1 y1 x2 y2 x3 n3 y3 iv n m at_ _ (HC.out.later (al2 _ _ _)) HM.out HA.out).mono ?_;rintro e w1 ⟨rfl,hb1⟩;have HB1:=hid (thenB (al2 w _ _) hb1);clear hb1;go_wp2_with fail;go_ret;exact ⟨ret_bool (by first | exact HR.out.symm | (rw [HR.out];first | (simp;omega) | (simp [*];done))),HB1.out⟩
   . have HR:Hid (nodeA c (.mk 4 n m at_ args)=false):=by show _=_;unfold nodeA;simp only [Nd.op,Nd.n,Nd.m,Nd.at_,Nd.args];simp [*]
     have t':args.length≠1:=by omega
     clear t1;go_enter Tryz.func213,Tryz.ntmps213;go_wp2_with fail;go_ret;exact ⟨ret_bool (by first | exact HR.out.symm | (rw [HR.out];first | (simp;omega) | (simp [*];done))),al2 _ _ _⟩
 by_cases o5:op=5
 . subst o5
   by_cases t1:n=0
   . have HR:Hid (nodeA c (.mk 5 n m at_ args)=prtB c m at_ args.length):=by show _=_;unfold nodeA;simp only [Nd.op,Nd.n,Nd.m,Nd.at_,Nd.args];simp [*]
     go_enter Tryz.func213,Tryz.ntmps213;go_wp2_with fail;refine (HC.out.prt _ (al2 _ _ _) m at_ args.length HM.out HA.out hl).mono ?_;rintro e w1 ⟨rfl,hb1⟩;have HB1:=hid (thenB (al2 w _ _) hb1);clear hb1;go_wp2_with fail;go_ret;exact ⟨ret_bool (by first | exact HR.out.symm | (rw [HR.out];first | (simp;omega) | (simp [*];done))),HB1.out⟩
   . have HR:Hid (nodeA c (.mk 5 n m at_ args)=false):=by show _=_;unfold nodeA;simp only [Nd.op,Nd.n,Nd.m,Nd.at_,Nd.args];simp [*]
     have t':n≠0:=by omega
     clear t1;go_enter Tryz.func213,Tryz.ntmps213;go_wp2_with fail;go_ret;exact ⟨ret_bool (by first | exact HR.out.symm | (rw [HR.out];first | (simp;omega) | (simp [*];done))),al2 _ _ _⟩
 by_cases o16:op=16
 . subst o16
   by_cases t3:args.length=0
   . by_cases t2:n=0
     . by_cases t1:m=0
       . have HR:Hid (nodeA c (.mk 16 n m at_ args)=locB c at_):=by show _=_;unfold nodeA;simp only [Nd.op,Nd.n,Nd.m,Nd.at_,Nd.args];simp [*]
         go_enter Tryz.func213,Tryz.ntmps213;go_wp2_with fail;refine (localHolds_any c s x1 y1 x2 y2 x3 n3 y3 iv at_ _).mono ?_;rintro e w1 ⟨rfl,hb1⟩;have HB1:=hid (thenB (al2 w _ _) hb1);clear hb1;go_wp2_with fail;go_ret;exact ⟨ret_bool (by first | exact HR.out.symm | (rw [HR.out];first | (simp;omega) | (simp [*];done))),HB1.out⟩
       . have HR:Hid (nodeA c (.mk 16 n m at_ args)=false):=by show _=_;unfold nodeA;simp only [Nd.op,Nd.n,Nd.m,Nd.at_,Nd.args];simp [*]
         have t':m≠0:=by omega
         clear t1;go_enter Tryz.func213,Tryz.ntmps213;go_wp2_with fail;go_ret;exact ⟨ret_bool (by first | exact HR.out.symm | (rw [HR.out];first | (simp;omega) | (simp [*];done))),al2 _ _ _⟩
     . have HR:Hid (nodeA c (.mk 16 n m at_ args)=false):=by show _=_;unfold nodeA;simp only [Nd.op,Nd.n,Nd.m,Nd.at_,Nd.args];simp [*]
       have t':n≠0:=by omega
       clear t2;go_enter Tryz.func213,Tryz.ntmps213;go_wp2_with fail;go_ret;exact ⟨ret_bool (by first | exact HR.out.symm | (rw [HR.out];first | (simp;omega) | (simp [*];done))),al2 _ _ _⟩
   . have HR:Hid (nodeA c (.mk 16 n m at_ args)=false):=by show _=_;unfold nodeA;simp only [Nd.op,Nd.n,Nd.m,Nd.at_,Nd.args];simp [*]
     have t':args.length≠0:=by omega
     clear t3;go_enter Tryz.func213,Tryz.ntmps213;go_wp2_with fail;go_ret;exact ⟨ret_bool (by first | exact HR.out.symm | (rw [HR.out];first | (simp;omega) | (simp [*];done))),al2 _ _ _⟩
 by_cases o1:op=1
 . subst o1
   by_cases t5:args.length=0
   . by_cases t4:0<=n
     . by_cases t3:n<=1099511627775
       . by_cases t2:m=0
         . by_cases t1:at_=0
           . have HR:Hid (nodeA c (.mk 1 n m at_ args)=true):=by show _=_;unfold nodeA;simp only [Nd.op,Nd.n,Nd.m,Nd.at_,Nd.args];simp [*]
             go_enter Tryz.func213,Tryz.ntmps213;go_wp2_with fail;go_ret;exact ⟨ret_bool (by first | exact HR.out.symm | (rw [HR.out];first | (simp;omega) | (simp [*];done))),al2 _ _ _⟩
           . have HR:Hid (nodeA c (.mk 1 n m at_ args)=false):=by show _=_;unfold nodeA;simp only [Nd.op,Nd.n,Nd.m,Nd.at_,Nd.args];simp [*]
             have t':at_≠0:=by omega
             clear t1;go_enter Tryz.func213,Tryz.ntmps213;go_wp2_with fail;go_ret;exact ⟨ret_bool (by first | exact HR.out.symm | (rw [HR.out];first | (simp;omega) | (simp [*];done))),al2 _ _ _⟩
         . have HR:Hid (nodeA c (.mk 1 n m at_ args)=false):=by show _=_;unfold nodeA;simp only [Nd.op,Nd.n,Nd.m,Nd.at_,Nd.args];simp [*]
           have t':m≠0:=by omega
           clear t2;go_enter Tryz.func213,Tryz.ntmps213;go_wp2_with fail;go_ret;exact ⟨ret_bool (by first | exact HR.out.symm | (rw [HR.out];first | (simp;omega) | (simp [*];done))),al2 _ _ _⟩
       . have HR:Hid (nodeA c (.mk 1 n m at_ args)=false):=by show _=_;unfold nodeA;simp only [Nd.op,Nd.n,Nd.m,Nd.at_,Nd.args];simp [*]
         have t':1099511627775<n:=by omega
         clear t3;go_enter Tryz.func213,Tryz.ntmps213;go_wp2_with fail;go_ret;exact ⟨ret_bool (by first | exact HR.out.symm | (rw [HR.out];first | (simp;omega) | (simp [*];done))),al2 _ _ _⟩
     . have HR:Hid (nodeA c (.mk 1 n m at_ args)=false):=by show _=_;unfold nodeA;simp only [Nd.op,Nd.n,Nd.m,Nd.at_,Nd.args];simp [*]
       have t':n<0:=by omega
       clear t4;go_enter Tryz.func213,Tryz.ntmps213;go_wp2_with fail;go_ret;exact ⟨ret_bool (by first | exact HR.out.symm | (rw [HR.out];first | (simp;omega) | (simp [*];done))),al2 _ _ _⟩
   . have HR:Hid (nodeA c (.mk 1 n m at_ args)=false):=by show _=_;unfold nodeA;simp only [Nd.op,Nd.n,Nd.m,Nd.at_,Nd.args];simp [*]
     have t':args.length≠0:=by omega
     clear t5;go_enter Tryz.func213,Tryz.ntmps213;go_wp2_with fail;go_ret;exact ⟨ret_bool (by first | exact HR.out.symm | (rw [HR.out];first | (simp;omega) | (simp [*];done))),al2 _ _ _⟩
 have HQ:Hid (nodeA c (.mk op n m at_ args)=(decide ((args.length:Int)=argsOf op)&&(decide (n=0)&&(decide (m=0)&&decide (at_=0))))):=by
  show _=_;unfold nodeA;exact (if_neg o3).trans ((if_neg o4).trans ((if_neg o5).trans ((if_neg o16).trans (if_neg o1))))
 have HG:=hid (argsOf_any op);generalize argsOf op=g at *
 by_cases t4:(args.length:Int)=g
 . by_cases t3:n=0
   . by_cases t2:m=0
     . by_cases t1:at_=0
       . have HR:Hid (nodeA c (.mk op n m at_ args)=true):=by show _=_;rw [HQ.out];simp [*]
         go_enter Tryz.func213,Tryz.ntmps213;go_wp2_with fail;refine (HG.out _).mono ?_;rintro e w1 ⟨rfl,rfl⟩;go_wp2_with fail;go_ret;exact ⟨ret_bool (by first | exact HR.out.symm | (rw [HR.out];first | (simp;omega) | (simp [*];done))),al2 _ _ _⟩
       . have HR:Hid (nodeA c (.mk op n m at_ args)=false):=by show _=_;rw [HQ.out];simp [*]
         have t':at_≠0:=by omega
         clear t1;go_enter Tryz.func213,Tryz.ntmps213;go_wp2_with fail;refine (HG.out _).mono ?_;rintro e w1 ⟨rfl,rfl⟩;go_wp2_with fail;go_ret;exact ⟨ret_bool (by first | exact HR.out.symm | (rw [HR.out];first | (simp;omega) | (simp [*];done))),al2 _ _ _⟩
     . have HR:Hid (nodeA c (.mk op n m at_ args)=false):=by show _=_;rw [HQ.out];simp [*]
       have t':m≠0:=by omega
       clear t2;go_enter Tryz.func213,Tryz.ntmps213;go_wp2_with fail;refine (HG.out _).mono ?_;rintro e w1 ⟨rfl,rfl⟩;go_wp2_with fail;go_ret;exact ⟨ret_bool (by first | exact HR.out.symm | (rw [HR.out];first | (simp;omega) | (simp [*];done))),al2 _ _ _⟩
   . have HR:Hid (nodeA c (.mk op n m at_ args)=false):=by show _=_;rw [HQ.out];simp [*]
     have t':n≠0:=by omega
     clear t3;go_enter Tryz.func213,Tryz.ntmps213;go_wp2_with fail;refine (HG.out _).mono ?_;rintro e w1 ⟨rfl,rfl⟩;go_wp2_with fail;go_ret;exact ⟨ret_bool (by first | exact HR.out.symm | (rw [HR.out];first | (simp;omega) | (simp [*];done))),al2 _ _ _⟩
 . have HR:Hid (nodeA c (.mk op n m at_ args)=false):=by show _=_;rw [HQ.out];simp [*]
   have t':(args.length:Int)≠g:=by omega
   clear t4;go_enter Tryz.func213,Tryz.ntmps213;go_wp2_with fail;refine (HG.out _).mono ?_;rintro e w1 ⟨rfl,rfl⟩;go_wp2_with fail;go_ret;exact ⟨ret_bool (by first | exact HR.out.symm | (rw [HR.out];first | (simp;omega) | (simp [*];done))),al2 _ _ _⟩
end Go.Proofs.YtndkhgakfodldaaGreatDoor
