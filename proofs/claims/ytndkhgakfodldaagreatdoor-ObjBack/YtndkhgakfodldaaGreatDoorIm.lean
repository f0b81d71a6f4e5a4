/-
  Objects as bytes, there and back, without the program.
-/
import Derived.Test.YtndkhgakfodldaaGreatDoorIf
import Derived.Test.YtndkhgakfodldaaGreatDoorUt
import Derived.Test.YtndkhgakfodldaaGreatDoorNm
import Derived.Deep.RegionHeld
namespace Go.Proofs.YtndkhgakfodldaaGreatDoor
set_option linter.unusedSimpArgs false
set_option linter.unusedVariables false
theorem tx_there (s:ByteArray) (r:List UInt8) (h:s.size<=255):pTx (Fx.textB s++r)=some (s,r):=by
 unfold pTx;rw [Fx.pText_there s r h];simp [Fx.strOf_back]
theorem tx_back {l r:List UInt8} {s:ByteArray} (h:pTx l=some (s,r)):l=Fx.textB s++r:=by
 unfold pTx at h
 cases hq:Fx.pText l with
 | none=>rw [hq] at h;cases h
 | some q=>
   rw [hq] at h;cases h;exact Fx.pText_back (x:=q.1) (r:=q.2) hq
theorem num_there {n:Int} (h:W64 n) (r:List UInt8):Fx.pNum (Fx.numB n++r)=some (n,r):=by
 have:=wf_range h;exact Fx.pNum_there n r this.1 this.2
theorem byte_there {n:Int} (h0:0<=n) (h1:n<=255) (r:List UInt8):Fx.pByte (Fx.byteOf n :: r)=some (n,r):=by
 rw [Fx.pByte_cons,Fx.byteOf_nat,Int.emod_eq_of_lt h0 (by omega)]
theorem cnt_there {n:Nat} (h:n<=1000000) (r:List UInt8):pCnt (Fx.numB n++r)=some (n,r):=by
 unfold pCnt;rw [num_there (wf64_of (by omega)) r];simp
theorem many_there {α:Type} {p:List UInt8->Option (α × List UInt8)} {g:α->List UInt8}:∀ (xs:List α),(∀ x ∈ xs,∀ r,p (g x++r)=some (x,r))->∀ r,pMany p xs.length (xs.flatMap g++r)=some (xs,r)
 | [],_,r=>rfl
 | x :: t,h,r=>by
   rw [List.flatMap_cons,List.append_assoc,List.length_cons];unfold pMany;rw [h x (List.mem_cons_self ..)];simp only [Option.bind_some];rw [many_there t (fun y hy=>h y (List.mem_cons_of_mem _ hy)) r]
   rfl
theorem lst_there {α:Type} {p:List UInt8->Option (α × List UInt8)} {g:α->List UInt8} (xs:List α) (h:∀ x ∈ xs,∀ r,p (g x++r)=some (x,r)) (hl:xs.length<=1000000) (r:List UInt8):pLst p (listB g xs++r)=some (xs,r):=by
 unfold pLst listB;rw [List.append_assoc,cnt_there hl];exact many_there xs h r
theorem many_back {α:Type} {p:List UInt8->Option (α × List UInt8)} {g:α->List UInt8} (h:∀ l x r,p l=some (x,r)->l=g x++r):∀ (n:Nat) (l:List UInt8) (xs:List α) (r:List UInt8),pMany p n l=some (xs,r)->xs.length=n/\l=xs.flatMap g++r
 | 0,l,xs,r,e=>by cases e;exact ⟨rfl,rfl⟩
 | n + 1,l,xs,r,e=>by
   unfold pMany at e
   cases h1:p l with
   | none=>rw [h1] at e;cases e
   | some a=>
     rw [h1] at e
     cases h2:pMany p n a.2 with
     | none=>simp [h2] at e
     | some b=>
       simp [h2] at e;obtain ⟨q1,q2⟩:=many_back h n a.2 b.1 b.2 h2;rw [← e.1,← e.2,h l a.1 a.2 h1,q2];exact ⟨by rw [List.length_cons,q1],by rw [List.flatMap_cons,List.append_assoc]⟩
theorem cnt_back {l r:List UInt8} {n:Nat} (h:pCnt l=some (n,r)):l=Fx.numB n++r:=by
 unfold pCnt at h
 cases hq:Fx.pNum l with
 | none=>rw [hq] at h;cases h
 | some q=>
   rw [hq] at h;simp only [Option.bind_some] at h
   split at h
   . cases h
   . rename_i h0
     cases h;have:=Fx.pNum_back (n:=q.1) (r:=q.2) hq;rw [Int.toNat_of_nonneg (by omega)];exact this
theorem lst_back {α:Type} {p:List UInt8->Option (α × List UInt8)} {g:α->List UInt8} (h:∀ l x r,p l=some (x,r)->l=g x++r) {l r:List UInt8} {xs:List α} (e:pLst p l=some (xs,r)):l=listB g xs++r:=by
 unfold pLst at e
 cases h1:pCnt l with
 | none=>rw [h1] at e;cases e
 | some q=>
   rw [h1] at e;obtain ⟨q1,q2⟩:=many_back h q.1 q.2 xs r e;rw [cnt_back (n:=q.1) (r:=q.2) h1,q2];unfold listB;rw [q1,List.append_assoc]
theorem instr_there {i:Gi} (h0:0<=i.op/\i.op<=255) (h1:W64 i.a) (h2:W64 i.b) (r:List UInt8):pInstr (instrB i++r)=some (i,r):=by
 unfold pInstr instrB;rw [List.cons_append,byte_there h0.1 h0.2,List.append_assoc];simp only [Option.bind_some];rw [num_there h1];simp only [Option.bind_some];rw [num_there h2]
 rfl
theorem fix_there {i:Gf} (h0:0<=i.kind/\i.kind<=255) (h1:W64 i.at_) (h2:W64 i.m) (r:List UInt8):pFixy (fixBy i++r)=some (i,r):=by
 unfold pFixy fixBy;rw [List.append_assoc,num_there h1];simp only [Option.bind_some];rw [List.cons_append,byte_there h0.1 h0.2];simp only [Option.bind_some];rw [num_there h2]
 rfl
theorem instr_back (l:List UInt8) (x:Gi) (r:List UInt8) (h:pInstr l=some (x,r)):l=instrB x++r:=by
 unfold pInstr at h
 cases h1:Fx.pByte l with
 | none=>rw [h1] at h;cases h
 | some a=>
   rw [h1] at h
   cases h2:Fx.pNum a.2 with
   | none=>simp [h2] at h
   | some b=>
     cases h3:Fx.pNum b.2 with
     | none=>simp [h2,h3] at h
     | some c=>
       simp [h2,h3] at h;rw [← h.1,← h.2,Fx.pByte_back (n:=a.1) (r:=a.2) h1,Fx.pNum_back (n:=b.1) (r:=b.2) h2,Fx.pNum_back (n:=c.1) (r:=c.2) h3];unfold instrB;rw [List.cons_append,List.append_assoc]
theorem fix_back (l:List UInt8) (x:Gf) (r:List UInt8) (h:pFixy l=some (x,r)):l=fixBy x++r:=by
 unfold pFixy at h
 cases h1:Fx.pNum l with
 | none=>rw [h1] at h;cases h
 | some a=>
   rw [h1] at h
   cases h2:Fx.pByte a.2 with
   | none=>simp [h2] at h
   | some b=>
     cases h3:Fx.pNum b.2 with
     | none=>simp [h2,h3] at h
     | some c=>
       simp [h2,h3] at h;rw [← h.1,← h.2,Fx.pNum_back (n:=a.1) (r:=a.2) h1,Fx.pByte_back (n:=b.1) (r:=b.2) h2,Fx.pNum_back (n:=c.1) (r:=c.2) h3];unfold fixBy;rw [List.append_assoc,List.cons_append]
structure Fits (o:Ob):Prop where
 data:W64 o.data
 code:∀ i ∈ o.code,W64 i.op/\W64 i.a/\W64 i.b
 fixes:∀ f ∈ o.fixes,W64 f.at_/\W64 f.kind/\W64 f.m
 entries:∀ x ∈ o.entries,W64 x
 main:W64 o.main
theorem OvAt.fits {w:World} {o:Ob} {x1 x3 x4 x5:Option Addr} (h:OvAt w o x1 x3 x4 x5):Fits o:=by
 refine ⟨h.wd,fun i hi=>?_,fun f hf=>?_,fun x hx=>?_,h.wm⟩
 . obtain ⟨k,hk,rfl⟩:=List.getElem_of_mem hi
   obtain ⟨_,_,_,hx⟩:=h.code.gi k hk;exact ⟨hx.w0,hx.w1,hx.w2⟩
 . obtain ⟨k,hk,rfl⟩:=List.getElem_of_mem hf
   obtain ⟨_,_,_,hx⟩:=h.fixes.gf k hk;exact ⟨hx.w0,hx.w1,hx.w2⟩
 . obtain ⟨k,hk,rfl⟩:=List.getElem_of_mem hx
   obtain ⟨_,_,_,_,_,hx⟩:=h.entries.num k hk;exact hx
theorem objB_app (o:Ob) (r:List UInt8):objB o++r=Fx.textB o.name++(listB Fx.textB o.uses++(Fx.numB o.data++(listB instrB o.code++(listB fixBy o.fixes++(listB Fx.numB o.entries++(Fx.numB o.main++r)))))):=by
 unfold objB;generalize Fx.textB o.name=a1;generalize listB Fx.textB o.uses=a2;generalize Fx.numB o.data=a3;generalize listB instrB o.code=a4;generalize listB fixBy o.fixes=a5;generalize listB Fx.numB o.entries=a6;generalize Fx.numB o.main=a7;simp only [List.append_assoc]
theorem obj_steps {l0 l1 l2 l3 l4 l5 l6 l7:List UInt8} {a:ByteArray} {b:List ByteArray} {c:Int} {d:List Gi} {e:List Gf} {f:List Int} {g:Int} (h1:pTx l0=some (a,l1)) (h2:pLst pTx l1=some (b,l2)) (h3:Fx.pNum l2=some (c,l3)) (h4:pLst pInstr l3=some (d,l4)) (h5:pLst pFixy l4=some (e,l5)) (h6:pLst Fx.pNum l5=some (f,l6)) (h7:Fx.pNum l6=some (g,l7)):pObj l0=some (⟨a,b,c,d,e,f,g⟩,l7):=by
 unfold pObj;rw [h1];simp only [Option.bind_some];rw [h2];simp only [Option.bind_some];rw [h3];simp only [Option.bind_some];rw [h4];simp only [Option.bind_some];rw [h5];simp only [Option.bind_some];rw [h6];simp only [Option.bind_some];rw [h7]
 rfl
theorem obj_there {o:Ob} (h:oChk o=0) (hf:Fits o) (r:List UInt8):pObj (objB o++r)=some (o,r):=by
 obtain ⟨k1,k2,k3,k4,k5,k6⟩:=right_small h;obtain ⟨_,_,hc,hx⟩:=oChk_parts h
 have hops:∀ i ∈ o.code,0<=i.op/\i.op<=255:=fun i hi=>by
  obtain ⟨k,hk,rfl⟩:=List.getElem_of_mem hi;unfold codeB at hc;rw [Bool.and_eq_true] at hc;have:=allTo_true.1 hc.1 k hk;unfold opAt opB at this;rw [List.getElem?_eq_getElem hk] at this;have:=of_decide_eq_true this;omega
 have hks:∀ f ∈ o.fixes,0<=f.kind/\f.kind<=255:=fun f hf=>by
  obtain ⟨k,hk,rfl⟩:=List.getElem_of_mem hf;have:=allTo_true.1 hx k hk;unfold fixAt at this;rw [List.getElem?_eq_getElem hk] at this;simp only [Bool.and_eq_true] at this;have h3:=this.2.2;unfold fixB at h3
  split at h3
  . omega
  . split at h3
    . omega
    . cases h3
 rw [objB_app];exact obj_steps (tx_there _ _ (by omega)) (lst_there o.uses (fun s hs r=>tx_there s r (by have:=k2 s hs;omega)) (by omega) _) (num_there hf.data _) (lst_there o.code (fun i hi r=>instr_there (hops i hi) (hf.code i hi).2.1 (hf.code i hi).2.2 r) (by omega) _) (lst_there o.fixes (fun i hi r=>fix_there (hks i hi) (hf.fixes i hi).1 (hf.fixes i hi).2.2 r) (by omega) _) (lst_there o.entries (fun i hi r=>num_there (hf.entries i hi) r) (by omega) _) (num_there hf.main r)
theorem obj_back {l r:List UInt8} {o:Ob} (h:pObj l=some (o,r)):l=objB o++r:=by
 unfold pObj at h
 cases h1:pTx l with
 | none=>rw [h1] at h;cases h
 | some a=>
 rw [h1] at h;simp only [Option.bind_some] at h
 cases h2:pLst pTx a.2 with
 | none=>rw [h2] at h;cases h
 | some b=>
 rw [h2] at h;simp only [Option.bind_some] at h
 cases h3:Fx.pNum b.2 with
 | none=>rw [h3] at h;cases h
 | some c=>
 rw [h3] at h;simp only [Option.bind_some] at h
 cases h4:pLst pInstr c.2 with
 | none=>rw [h4] at h;cases h
 | some d=>
 rw [h4] at h;simp only [Option.bind_some] at h
 cases h5:pLst pFixy d.2 with
 | none=>rw [h5] at h;cases h
 | some e=>
 rw [h5] at h;simp only [Option.bind_some] at h
 cases h6:pLst Fx.pNum e.2 with
 | none=>rw [h6] at h;cases h
 | some f=>
 rw [h6] at h;simp only [Option.bind_some] at h
 cases h7:Fx.pNum f.2 with
 | none=>rw [h7] at h;cases h
 | some g=>
 rw [h7] at h;cases h;rw [tx_back (s:=a.1) (r:=a.2) h1,lst_back (g:=Fx.textB) (fun _ _ _=>tx_back) (xs:=b.1) (r:=b.2) h2,Fx.pNum_back (n:=c.1) (r:=c.2) h3,lst_back instr_back (xs:=d.1) (r:=d.2) h4,lst_back fix_back (xs:=e.1) (r:=e.2) h5,lst_back (g:=Fx.numB) (fun _ _ _=>Fx.pNum_back) (xs:=f.1) (r:=f.2) h6,Fx.pNum_back (n:=g.1) (r:=g.2) h7];have:=objB_app ⟨a.1,b.1,c.1,d.1,e.1,f.1,g.1⟩ g.2;exact this.symm
theorem rd_there {o:Ob} (hf:Fits o) (h:(wrO o).2=0):rdO (wrO o).1=some o/\(wrO o).1.length<=32768:=by
 unfold wrO at h ⊢
 by_cases h0:oChk o=0
 . rw [if_pos h0] at h ⊢
   split at h
   . cases h
   . rename_i h1
     rw [if_neg h1];refine ⟨?_,by show (objB o).length<=32768;omega⟩;have:=obj_there h0 hf [];rw [List.append_nil] at this;unfold rdO wOk;simp only [this,h0,if_true]
 . rw [if_neg h0] at h
   exact absurd h h0
theorem rd_back {l:List UInt8} {o:Ob} (h:rdO l=some o) (hl:l.length<=32768):wrO o=(l,0):=by
 unfold rdO wOk at h
 cases hp:pObj l with
 | none=>rw [hp] at h;cases h
 | some q=>
   obtain ⟨p,r⟩:=q;rw [hp] at h
   cases r with
   | cons c r=>cases h
   | nil=>
     simp only at h
     split at h
     . rename_i h0
       cases h;have:=obj_back hp;rw [List.append_nil] at this;unfold wrO;rw [if_pos h0,← this,if_neg (by omega)]
     . cases h
end Go.Proofs.YtndkhgakfodldaaGreatDoor

namespace Go.Proofs.YtndkhgakfodldaaGreatDoor
set_option maxRecDepth 100000
set_option maxHeartbeats 6400000
open Go.RowKit Go.Maps Go.WideMaps
set_option linter.unusedSimpArgs false
set_option linter.unusedVariables false
def obsD (l:List Ob):List D:=l.flatMap Ob.ds
structure ObAt (w:World) (b off:Nat) (o:Ob) (x1:Option Addr) (y1:Nat) (x3:Option Addr) (y3:Nat) (x4:Option Addr) (y4:Nat) (x5:Option Addr) (y5:Nat):Prop where
 lt:b<w.heap.size
 c0:w.cell? ⟨b,off,none⟩=some (.string o.name)
 c1:w.cell? ⟨b,off+1,none⟩=some (.slice x1 o.uses.length y1)
 c2:w.cell? ⟨b,off+2,none⟩=some (.int .i64 o.data)
 c3:w.cell? ⟨b,off+3,none⟩=some (.slice x3 o.code.length y3)
 c4:w.cell? ⟨b,off+4,none⟩=some (.slice x4 o.fixes.length y4)
 c5:w.cell? ⟨b,off+5,none⟩=some (.slice x5 o.entries.length y5)
 c6:w.cell? ⟨b,off+6,none⟩=some (.int .i64 o.main)
 ov:OvAt w o x1 x3 x4 x5
theorem DAt.ob {w:World} {a:Option Addr} {l:List Ob} (h:DAt w Tt a l.length (obsD l)) (i:Nat) (hi:i<l.length):∃ b off x1 y1 x3 y3 x4 y4 x5 y5,a=some ⟨b,off,none⟩/\ObAt w b (off+i*7) l[i] x1 y1 x3 y3 x4 y4 x5 y5:=by
 obtain ⟨b,off,ha,hb,hc⟩:=h.cell (by omega);generalize hx:l[i]=x;obtain ⟨name,uses,data,code,fixes,entries,main⟩:=x
 have g:∀ j d,j<7->(Ob.mk name uses data code fixes entries main).ds[j]? = some d->∃ v,w.cell? ⟨b,off+i*7+j,none⟩=some v/\DVal w Tt d v:=fun j d hj hd=>by
  rw [Nat.add_assoc];exact hc (i*7+j) d ((flat_get Ob.ds 7 (fun _=>rfl) l i hi j hj).trans (by rw [hx];exact hd))
 obtain ⟨v0,q0,d0⟩:=g 0 (.str name) (by omega) rfl;obtain ⟨v1,q1,d1⟩:=g 1 (.list uses.length (strsD uses)) (by omega) rfl;obtain ⟨v2,q2,d2⟩:=g 2 (.int data) (by omega) rfl;obtain ⟨v3,q3,d3⟩:=g 3 (.list code.length (gisD code)) (by omega) rfl;obtain ⟨v4,q4,d4⟩:=g 4 (.list fixes.length (gfsD fixes)) (by omega) rfl;obtain ⟨v5,q5,d5⟩:=g 5 (.list entries.length (intD entries)) (by omega) rfl;obtain ⟨v6,q6,d6⟩:=g 6 (.int main) (by omega) rfl;obtain ⟨rfl,w0⟩:=dstr_of d0;obtain ⟨x1,y1,rfl,h1⟩:=dlist_of d1;obtain ⟨rfl,w2⟩:=dnum_of d2;obtain ⟨x3,y3,rfl,h3⟩:=dlist_of d3;obtain ⟨x4,y4,rfl,h4⟩:=dlist_of d4;obtain ⟨x5,y5,rfl,h5⟩:=dlist_of d5;obtain ⟨rfl,w6⟩:=dnum_of d6;exact ⟨b,off,x1,y1,x3,y3,x4,y4,x5,y5,ha,hb,q0,q1,q2,q3,q4,q5,q6,w0,h1,w2,h3,h4,h5,w6⟩
def Caps (w:World) (a:Option Addr) (n:Nat):Prop:=∀ b off,a=some ⟨b,off,none⟩->∀ i,i<n->∃ x k y,w.cell? ⟨b,off+i*7+1,none⟩=some (.slice x k y)/\k<=y
def ObsAt (w:World) (a:Option Addr) (l:List Ob):Prop:=DAt w Tt a l.length (obsD l)/\Caps w a l.length
theorem ObsAt.later {w w':World} {a:Option Addr} {l:List Ob} (h:ObsAt w a l) (hb:Below w.heap.size w w'):ObsAt w' a l:=by
 refine ⟨h.1.later hb,fun b off ha i hi=>?_⟩;obtain ⟨x,k,y,hc,hk⟩:=h.2 b off ha i hi;obtain ⟨b',off',_,_,_,_,_,_,_,_,ha',hO⟩:=DAt.ob (l:=l) h.1 i hi;rw [ha] at ha'
 cases ha'
 exact ⟨x,k,y,(hb.cell (p:=⟨b,off+i*7+1,none⟩) hO.lt).trans hc,hk⟩
theorem ObsAt.ob {w:World} {a:Option Addr} {l:List Ob} (h:ObsAt w a l) (i:Nat) (hi:i<l.length):∃ b off x1 y1 x3 y3 x4 y4 x5 y5,a=some ⟨b,off,none⟩/\ObAt w b (off+i*7) l[i] x1 y1 x3 y3 x4 y4 x5 y5/\l[i].uses.length<=y1:=by
 obtain ⟨b,off,x1,y1,x3,y3,x4,y4,x5,y5,ha,hO⟩:=DAt.ob h.1 i hi;obtain ⟨x,k,y,hc,hk⟩:=h.2 b off ha i hi;have h1:=hO.c1;rw [hc] at h1;cases h1;exact ⟨b,off,x1,y1,x3,y3,x4,y4,x5,y5,ha,hO,hk⟩
theorem ob_vals {w:World} {o:Ob} {x1 x3 x4 x5:Option Addr} (y1 y3 y4 y5:Nat) (h:OvAt w o x1 x3 x4 x5):DVals w Tt o.ds [.string o.name,.slice x1 o.uses.length y1,.int .i64 o.data,.slice x3 o.code.length y3,.slice x4 o.fixes.length y4,.slice x5 o.entries.length y5,.int .i64 o.main]:=by
 unfold Ob.ds;exact .cons (dstr h.wn) (.cons h.uses.val (.cons (dint h.wd) (.cons h.code.val (.cons h.fixes.val (.cons h.entries.val (.cons (dint h.wm) .nil))))))
theorem two_obs {w:World} {o p:Ob} {x1 x3 x4 x5 u1 u3 u4 u5:Option Addr} (y1 y3 y4 y5 v1 v3 v4 v5:Nat) (h:OvAt w o x1 x3 x4 x5) (k:OvAt w p u1 u3 u4 u5) (h1:o.uses.length<=y1) (k1:p.uses.length<=v1) (t:TypeId) :
 ObsAt (w.alloc (.cells #[.string o.name,.slice x1 o.uses.length y1,.int .i64 o.data,.slice x3 o.code.length y3,.slice x4 o.fixes.length y4,.slice x5 o.entries.length y5,.int .i64 o.main,.string p.name,.slice u1 p.uses.length v1,.int .i64 p.data,.slice u3 p.code.length v3,.slice u4 p.fixes.length v4,.slice u5 p.entries.length v5,.int .i64 p.main] t)) (some ⟨w.heap.size,0,none⟩) [o,p]:=by
 have hb:=Blk.new w #[.string o.name,.slice x1 o.uses.length y1,.int .i64 o.data,.slice x3 o.code.length y3,.slice x4 o.fixes.length y4,.slice x5 o.entries.length y5,.int .i64 o.main,.string p.name,.slice u1 p.uses.length v1,.int .i64 p.data,.slice u3 p.code.length v3,.slice u4 p.fixes.length v4,.slice u5 p.entries.length v5,.int .i64 p.main] t
 have e:obsD [o,p]=o.ds++p.ds:=by simp [obsD]
 refine ⟨dat_blk hb ?_ (by rw [e];simp [Ob.ds]) (by rw [e];simp [Ob.ds]),fun b off ha i hi=>?_⟩
 . rw [e]
   have m:Moves w Tt (w.alloc (.cells #[.string o.name,.slice x1 o.uses.length y1,.int .i64 o.data,.slice x3 o.code.length y3,.slice x4 o.fixes.length y4,.slice x5 o.entries.length y5,.int .i64 o.main,.string p.name,.slice u1 p.uses.length v1,.int .i64 p.data,.slice u3 p.code.length v3,.slice u4 p.fixes.length v4,.slice u5 p.entries.length v5,.int .i64 p.main] t)) Tt:=⟨by simp,fun b hb _=>⟨trivial,(al1 _ _).block b hb⟩⟩
   exact (ob_vals y1 y3 y4 y5 (h.later (al1 _ _))).append (ob_vals v1 v3 v4 v5 (k.later (al1 _ _)))
 . cases ha
   have hi':i=0\/i=1:=by simp at hi;omega
   rcases hi' with rfl | rfl
   . exact ⟨x1,_,y1,hb.cell 1 _ rfl,h1⟩
   . exact ⟨u1,_,v1,hb.cell 8 _ rfl,k1⟩
def topOb:Ob:=genOb topUn
theorem top_gen:genM topUn = .ok topOb:=by kernel_rfl
theorem objects_gen (p q:Un) (o r:Ob) (ho:genM p = .ok o) (hr:genM q = .ok r) (hP:∀ w:World,Calls Tryz.prog 75 #[] w fun e w'=>∃ a,e = .returned (.slice (some a) 2 2)/\DAt w' Tt (some a) 2 (unsD [p,q])/\Below w.heap.size w w') (w:World) :
 Calls Tryz.prog 85 #[] w fun e w'=>∃ a,e = .returned (.slice (some a) 2 2)/\ObsAt w' (some a) [o,r]/\Below w.heap.size w w':=by
 have HP:=hid hP;have HG1:=hid (fun (W:World) (x1:Option Addr) (y1:Nat) (x2:Option Addr) (y2:Nat) (x3:Option Addr) (y3:Nat) (hU:UvAt W p x1 y1 x2 y2 x3 y3)=>gen_at ho hU);have HG2:=hid (fun (W:World) (x1:Option Addr) (y1:Nat) (x2:Option Addr) (y2:Nat) (x3:Option Addr) (y3:Nat) (hU:UvAt W q x1 y1 x2 y2 x3 y3)=>gen_at hr hU);clear hP ho hr;go_enter Tryz.func85,Tryz.ntmps85;go_wp2_with fail;refine (HP.out _).mono ?_;rintro e w1 ⟨a,rfl,hD,hb1⟩;have HB1:=hid hb1;obtain ⟨b,off,a1,k1,a2,k2,a3,k3,ha,hx⟩:=(DAt.un (l:=[p,q]) hD) 0 (by simp);obtain rfl:=Option.some.inj ha;have HU:=hid hx.uv;simp only [List.getElem_cons_zero,Nat.zero_mul,Nat.add_zero] at hx HU;obtain ⟨hbl,z0,z1,z2,z3,z4,_,_,_,_,_⟩:=hx;clear hD hb1 ha;go_wp2_with fail;refine (HG1.out _ _ _ _ _ _ _ HU.out).mono ?_;rintro e w2 ⟨x1,y1,x3,y3,x4,y4,x5,y5,rfl,hO,hcp,hb2⟩
 have hBa:=al1 w2 (.cells #[.string o.name,.slice x1 o.uses.length y1,.int .i64 o.data,.slice x3 o.code.length y3,.slice x4 o.fixes.length y4,.slice x5 o.entries.length y5,.int .i64 o.main] 62);have HB2:=hid (thenB HB1.out (thenB hb2 hBa));have HO:=hid (hO.later hBa);have HC:=hid hcp;have HX2:=hid (heap_newP w2 (.cells #[.string o.name,.slice x1 o.uses.length y1,.int .i64 o.data,.slice x3 o.code.length y3,.slice x4 o.fixes.length y4,.slice x5 o.entries.length y5,.int .i64 o.main] 62));clear hO hcp hb2 hBa hbl z0 z1 z2 z3 z4 HU HB1;go_wp2_with fail
 obtain ⟨W2,hW2⟩:∃ W2,W2=w2.alloc (.cells #[.string o.name,.slice x1 o.uses.length y1,.int .i64 o.data,.slice x3 o.code.length y3,.slice x4 o.fixes.length y4,.slice x5 o.entries.length y5,.int .i64 o.main] 62):=⟨_,rfl⟩
 rw [← hW2] at HB2 HO HX2 ⊢;clear hW2;refine (HP.out _).mono ?_;rintro e w3 ⟨a,rfl,hD,hb3⟩;have HB3:=hid (thenB HB2.out hb3);have HO3:=hid (HO.out.later hb3);have HX3:=hid (later_blk HX2.out hb3);obtain ⟨b,off,a1,k1,a2,k2,a3,k3,ha,hx⟩:=(DAt.un (l:=[p,q]) hD) 1 (by simp);obtain rfl:=Option.some.inj ha;have HU:=hid hx.uv;simp only [List.getElem_cons_succ,List.getElem_cons_zero,Nat.one_mul] at hx HU;obtain ⟨hbl,z0,z1,z2,z3,z4,_,_,_,_,_⟩:=hx;clear hD hb3 ha HB2 HO HX2;go_wp2_with fail;refine (HG2.out _ _ _ _ _ _ _ HU.out).mono ?_;rintro e w4 ⟨u1,v1,u3,v3,u4,v4,u5,v5,rfl,hR,hcr,hb4⟩;have HB4:=hid (thenB HB3.out hb4);have HO4:=hid (HO3.out.later hb4);have HR4:=hid hR;have HCr:=hid hcr;have HX4:=hid (later_blk HX3.out hb4);clear hR hcr hb4 hbl z0 z1 z2 z3 z4 HU HB3 HO3 HX3;obtain ⟨q0,q1,q2,q3,q4,q5,q6,qz⟩:=cells7 HX4.out
 go_wp2_with fail;go_ret;refine ⟨_,rfl,?_,thenB HB4.out (bl2 _ _ _)⟩;have:=two_obs y1 y3 y4 y5 v1 v3 v4 v5 (HO4.out.later (al1 w4 (.cells #[.string r.name,.slice u1 r.uses.length v1,.int .i64 r.data,.slice u3 r.code.length v3,.slice u4 r.fixes.length v4,.slice u5 r.entries.length v5,.int .i64 r.main] 62))) (HR4.out.later (al1 w4 (.cells #[.string r.name,.slice u1 r.uses.length v1,.int .i64 r.data,.slice u3 r.code.length v3,.slice u4 r.fixes.length v4,.slice u5 r.entries.length v5,.int .i64 r.main] 62))) HC.out HCr.out 62;simp only [World.size_alloc] at this;exact this
theorem objects_any (w:World) :
 Calls Tryz.prog 85 #[] w fun e w'=>∃ a,e = .returned (.slice (some a) 2 2)/\ObsAt w' (some a) [cntOb,topOb]/\Below w.heap.size w w':=
 objects_gen cntUn topUn cntOb topOb cnt_gen top_gen program_any w
end Go.Proofs.YtndkhgakfodldaaGreatDoor

namespace Go.Proofs.YtndkhgakfodldaaGreatDoor
set_option maxRecDepth 100000
set_option maxHeartbeats 12800000
open Go.RowKit Go.Maps Go.WideMaps
set_option linter.unusedSimpArgs false
set_option linter.unusedVariables false
theorem seven {W:World} {b:Nat} {v0 v1 v2 v3 v4 v5 v6:Value} {t:TypeId} (h:W.heap[b]? = some (.cells #[v0,v1,v2,v3,v4,v5,v6] t (0,0))):W.cell? ⟨b,0,none⟩=some v0/\W.cell? ⟨b,1,none⟩=some v1/\W.cell? ⟨b,2,none⟩=some v2/\W.cell? ⟨b,3,none⟩=some v3/\W.cell? ⟨b,4,none⟩=some v4/\W.cell? ⟨b,5,none⟩=some v5/\W.cell? ⟨b,6,none⟩=some v6:=
 have h:=cells7 h
 ⟨h.1,h.2.1,h.2.2.1,h.2.2.2.1,h.2.2.2.2.1,h.2.2.2.2.2.1,h.2.2.2.2.2.2.1⟩
def TwoObs (o p:Ob):Prop:=∀ w:World,Calls Tryz.prog 85 #[] w fun e w'=>∃ a,e = .returned (.slice (some a) 2 2)/\ObsAt w' (some a) [o,p]/\Below w.heap.size w w'
theorem obs_two {o p:Ob} (h:TwoObs o p) (w:World):Calls Tryz.prog 85 #[] w fun e w'=>∃ b off x1 y1 x3 y3 x4 y4 x5 y5 u1 v1 u3 v3 u4 v4 u5 v5,e = .returned (.slice (some ⟨b,off,none⟩) 2 2)/\(ObAt w' b off o x1 y1 x3 y3 x4 y4 x5 y5/\o.uses.length<=y1)/\(ObAt w' b (off+7) p u1 v1 u3 v3 u4 v4 u5 v5/\p.uses.length<=v1)/\Below w.heap.size w w':=
 (h w).mono fun e w' ⟨a,he,hO,hb⟩=>by
   obtain ⟨b,off,x1,y1,x3,y3,x4,y4,x5,y5,ha,h0,c0⟩:=hO.ob 0 (by simp);obtain ⟨b',off',u1,v1,u3,v3,u4,v4,u5,v5,ha',h1,c1⟩:=hO.ob 1 (by simp);obtain rfl:=Option.some.inj ha
   cases Option.some.inj ha'
   simp only [List.getElem_cons_zero,List.getElem_cons_succ,Nat.zero_mul,Nat.add_zero,Nat.one_mul] at h0 h1 c0 c1;exact ⟨b,off,x1,y1,x3,y3,x4,y4,x5,y5,u1,v1,u3,v3,u4,v4,u5,v5,he,⟨h0,c0⟩,⟨h1,c1⟩,hb⟩
theorem read_some {l:List UInt8} {o:Ob} (hr:rdO l=some o) (hl:l.length<=32768) (w:World):Calls Tryz.prog 37 #[.string (Fx.strOf l)] w fun e w'=>∃ x1 y1 x3 y3 x4 y4 x5 y5,e = .returned (.tuple #[.agg #[.string o.name,.slice x1 o.uses.length y1,.int .i64 o.data,.slice x3 o.code.length y3,.slice x4 o.fixes.length y4,.slice x5 o.entries.length y5,.int .i64 o.main],.int .i64 0])/\OvAt w' o x1 x3 x4 x5/\o.uses.length<=y1/\Below w.heap.size w w':=
 (objRead_any l w (by omega)).mono fun e w' ⟨hb,h⟩=>by
   rcases h with ⟨h,_⟩ | ⟨_,h,_⟩ | ⟨_,o',v,h,he,x1,y1,x3,y3,x4,y4,x5,y5,hv,hO,hc⟩
   . omega
   . rw [hr] at h;cases h
   . rw [hr] at h
     cases h;subst hv;exact ⟨x1,y1,x3,y3,x4,y4,x5,y5,he,hO.ov,hc,hb⟩
theorem read_none {l:List UInt8} (hr:rdO l=none) (hl:l.length<=32768) (w:World):Calls Tryz.prog 37 #[.string (Fx.strOf l)] w fun e w'=>e = .returned (.tuple #[.agg #[.string ⟨#[]⟩,.slice none 0 0,.int .i64 0,.slice none 0 0,.slice none 0 0,.slice none 0 0,.int .i64 0],.int .i64 1])/\Below w.heap.size w w':=
 (objRead_any l w (by omega)).mono fun e w' ⟨hb,h⟩=>by
   rcases h with ⟨h,_⟩ | ⟨_,h,he⟩ | ⟨_,o',v,h,_⟩
   . omega
   . exact ⟨he,hb⟩
   . rw [hr] at h;cases h
theorem objBegun_gen (o p:Ob) (l:List UInt8) (hT:TwoObs o p) (hp:oChk p=0) (hw:wrO o=(l,0)) (hr:rdO l=some o) (hx:rdO (l++[120])=none) (hl:l.length=519) (w:World) :
 Calls Tryz.prog 33 #[] w fun e w'=>e = .returned (.bool true)/\Below w.heap.size w w':=by
 have HT:=hid (fun W=>obs_two hT W);have HWr:=hid (fun (W:World) (x1:Option Addr) (y1:Nat) (x3:Option Addr) (y3:Nat) (x4:Option Addr) (y4:Nat) (x5:Option Addr) (y5:Nat) (h:OvAt W o x1 x3 x4 x5) (hc:o.uses.length<=y1)=>objWrite_any o x1 y1 x3 y3 x4 y4 x5 y5 W h hc);rw [hw] at HWr;have HCk:=hid (fun (W:World) (x1:Option Addr) (y1:Nat) (x3:Option Addr) (y3:Nat) (x4:Option Addr) (y4:Nat) (x5:Option Addr) (y5:Nat) (h:OvAt W p x1 x3 x4 x5) (hc:p.uses.length<=y1)=>objCheck_any p x1 y1 x3 y3 x4 y4 x5 y5 W h hc);rw [hp] at HCk;have HRd:=hid (fun (W:World)=>read_some hr (by omega) W);have HRx:=hid (fun (W:World)=>read_none hx (by rw [List.length_append];simp;omega) W);have e1:Fx.strOf (l++[120])=Fx.strOf l++⟨#[120]⟩:=(Fx.strOf_append l [120]).symm;rw [e1] at HRx
 have hz:(Fx.strOf l).size=519:=by rw [Fx.strOf_size,hl]
 have hln:¬ 9223372036854775807<(Fx.strOf l).size+(⟨#[120]⟩:ByteArray).size:=by rw [hz];decide
 simp only at HWr;clear hT hp hw hr hx hl e1;generalize Fx.strOf l=st at *;go_enter Tryz.func33,Tryz.ntmps33;go_wp2_with fail;refine (HT.out _).mono ?_;rintro e w1 ⟨b,off,g1,h1,g3,h3,g4,h4,g5,h5,_,_,_,_,_,_,_,_,rfl,⟨hO,hcp⟩,_,hb1⟩;have HB1:=hid hb1;have HW1:=hid (HWr.out w1 _ _ g3 h3 g4 h4 g5 h5 hO.ov hcp);obtain ⟨z,c0,c1,c2,c3,c4,c5,c6,_⟩:=hO;clear hb1 hcp;go_wp2_with fail;refine HW1.out.mono ?_;rintro e w2 ⟨rfl,hb2⟩;have HB2:=hid (thenB HB1.out hb2);clear hb2 HB1 HW1 z c0 c1 c2 c3 c4 c5 c6;go_wp2_with fail;refine (HRd.out _).mono ?_;rintro e w3 ⟨x1,y1,x3,y3,x4,y4,x5,y5,rfl,hO,hcp,hb3⟩;have hBa:=al1 w3 (.cells #[.string o.name,.slice x1 o.uses.length y1,.int .i64 o.data,.slice x3 o.code.length y3,.slice x4 o.fixes.length y4,.slice x5 o.entries.length y5,.int .i64 o.main] 62);have HB3:=hid (thenB HB2.out (thenB hb3 hBa))
 have HO3:=hid (hO.later hBa);have HX3:=hid (heap_newP w3 (.cells #[.string o.name,.slice x1 o.uses.length y1,.int .i64 o.data,.slice x3 o.code.length y3,.slice x4 o.fixes.length y4,.slice x5 o.entries.length y5,.int .i64 o.main] 62));clear hO hcp hb3 hBa HB2;go_wp2_with fail
 obtain ⟨W3,hW3⟩:∃ W3,W3=w3.alloc (.cells #[.string o.name,.slice x1 o.uses.length y1,.int .i64 o.data,.slice x3 o.code.length y3,.slice x4 o.fixes.length y4,.slice x5 o.entries.length y5,.int .i64 o.main] 62):=⟨_,rfl⟩
 rw [← hW3] at HB3 HO3 HX3 ⊢;clear hW3;refine (HRx.out _).mono ?_;rintro e w4 ⟨rfl,hb4⟩;have hBa:=thenB hb4 (al1 w4 (.cells #[.string ⟨#[]⟩,.slice none 0 0,.int .i64 0,.slice none 0 0,.slice none 0 0,.slice none 0 0,.int .i64 0] 62));have HB4:=hid (thenB HB3.out hBa);have HO4:=hid (HO3.out.later hBa);have HX4:=hid (later_blk HX3.out hBa);clear hb4 hBa HB3 HO3 HX3;go_upto_region 4 with fail
 obtain ⟨W4,hW4⟩:∃ W4,W4=w4.alloc (.cells #[.string ⟨#[]⟩,.slice none 0 0,.int .i64 0,.slice none 0 0,.slice none 0 0,.slice none 0 0,.int .i64 0] 62):=⟨_,rfl⟩
 rw [← hW4] at HB4 HO4 HX4
 try rw [← hW4]
 clear hW4
 have HX:Hid (∀ W,Below W4.heap.size W4 W->W.cell? ⟨w3.heap.size,0,none⟩=some (.string o.name)/\W.cell? ⟨w3.heap.size,1,none⟩=some (.slice x1 o.uses.length y1)/\W.cell? ⟨w3.heap.size,2,none⟩=some (.int .i64 o.data)/\W.cell? ⟨w3.heap.size,3,none⟩=some (.slice x3 o.code.length y3)/\W.cell? ⟨w3.heap.size,4,none⟩=some (.slice x4 o.fixes.length y4)/\W.cell? ⟨w3.heap.size,5,none⟩=some (.slice x5 o.entries.length y5)/\W.cell? ⟨w3.heap.size,6,none⟩=some (.int .i64 o.main)):=fun W hW=>seven (later_blk HX4.out hW)
 have FF:=hid (HX.out _ (bdrew W4));refine wp_region_held_drew (S:=(fun W=>W.cell? ⟨w3.heap.size,0,none⟩=some (.string o.name)/\W.cell? ⟨w3.heap.size,1,none⟩=some (.slice x1 o.uses.length y1)/\W.cell? ⟨w3.heap.size,2,none⟩=some (.int .i64 o.data)/\W.cell? ⟨w3.heap.size,3,none⟩=some (.slice x3 o.code.length y3)/\W.cell? ⟨w3.heap.size,4,none⟩=some (.slice x4 o.fixes.length y4)/\W.cell? ⟨w3.heap.size,5,none⟩=some (.slice x5 o.entries.length y5)/\W.cell? ⟨w3.heap.size,6,none⟩=some (.int .i64 o.main))) (by kernel_rfl) FF.out (fun hHeld=>?_);refine wpAnyH_ready (rs:=[0]) (by kernel_rfl) (by simp) ?_;refine AllReadyH.cons rfl (fun K hK=>?_) AllReadyH.nil;go_simp
 go_wp2_with (go_at_call 85;refine (HT.out _).mono ?_;rintro e w5 ⟨b5,off5,_,_,_,_,_,_,_,_,u1,v1,u3,v3,u4,v4,u5,v5,rfl,_,⟨hP5,hc5⟩,hb5⟩;have D5:=hid (thenB (bdrew W4) hb5);have HP5:=hid hP5.ov;have HC5:=hid hc5;obtain ⟨z5,p0,p1,p2,p3,p4,p5,p6,_⟩:=hP5;clear hb5 hc5 FF;have FF:=hid (HX.out _ D5.out))
 refine hK.out _ _ FF.out (fun hHeld=>?_);clear hK K;refine wpAnyH_take (i:=1) (oi:=⟨some 26,_,_,_,_,_⟩) (v:=.pointer (some ⟨b5,off5+7,none⟩)) rfl (by kernel_rfl) (by kernel_rfl) (by kernel_rfl) (fun _ _ _ h=>h) (Or.inl ⟨by kernel_rfl,fun W _=>by kernel_rfl⟩) (by assumption) ?_;refine wpAnyH_ready (rs:=[2]) (by kernel_rfl) (by simp) ?_;refine AllReadyH.cons rfl (fun K hK=>?_) AllReadyH.nil;go_simp
 go_wp2_with (fail)
 refine hK.out _ _ FF.out (fun hHeld=>?_);clear hK K;clear z5 p0 p1 p2 p3 p4 p5 p6;refine wpAnyH_ready (rs:=[3]) (by kernel_rfl) (by simp) ?_;refine AllReadyH.cons rfl (fun K hK=>?_) AllReadyH.nil;go_simp
 go_wp2_with (go_at_call 32;refine (HCk.out _ _ _ _ _ _ _ _ _ HP5.out HC5.out).mono ?_;rintro e w7 ⟨rfl,hb7⟩;have D7:=hid (thenB D5.out hb7);clear hb7 FF;have FF:=hid (HX.out _ D7.out))
 refine hK.out _ _ FF.out (fun hHeld=>?_);clear hK K;refine wpAnyH_take (i:=4) (oi:=⟨some 29,_,_,_,_,_⟩) (v:=.bool true) rfl (by kernel_rfl) (by kernel_rfl) (by kernel_rfl) (fun _ _ _ h=>h) (Or.inl ⟨by kernel_rfl,fun W _=>by kernel_rfl⟩) (by assumption) ?_;refine wpAnyH_take (i:=5) (oi:=⟨some 30,_,_,_,_,_⟩) (v:=.bool true) rfl (by kernel_rfl) (by kernel_rfl) (by kernel_rfl) (fun _ _ _ h=>h) (Or.inl ⟨by kernel_rfl,fun W _=>by kernel_rfl⟩) (by assumption) ?_;refine wpAnyH_take (i:=6) (oi:=⟨some 31,_,_,_,_,_⟩) (v:=.int .i64 0) rfl (by kernel_rfl) (by kernel_rfl) (by kernel_rfl) (fun _ _ _ h=>h) (Or.inl ⟨by kernel_rfl,fun W _=>by kernel_rfl⟩) (by assumption) ?_;refine wpAnyH_take (i:=7) (oi:=⟨some 32,_,_,_,_,_⟩) (v:=.bool true) rfl (by kernel_rfl) (by kernel_rfl) (by kernel_rfl) (fun _ _ _ h=>h) (Or.inl ⟨by kernel_rfl,fun W _=>by kernel_rfl⟩) (by assumption) ?_
 refine wpAnyH_take (i:=8) (oi:=⟨some 33,_,_,_,_,_⟩) (v:=.bool true) rfl (by kernel_rfl) (by kernel_rfl) (by kernel_rfl) (fun _ _ _ h=>h) (Or.inl ⟨by kernel_rfl,fun W _=>by kernel_rfl⟩) (by assumption) ?_;refine wpAnyH_take (i:=9) (oi:=⟨some 34,_,_,_,_,_⟩) (v:=.bool true) rfl (by kernel_rfl) (by kernel_rfl) (by kernel_rfl) (fun _ _ _ h=>h) (Or.inl ⟨by kernel_rfl,fun W _=>by kernel_rfl⟩) (by assumption) ?_;refine wpAnyH_take (i:=10) (oi:=⟨some 35,_,_,_,_,_⟩) (v:=.int .i64 0) rfl (by kernel_rfl) (by kernel_rfl) (by kernel_rfl) (fun _ _ _ h=>h) (Or.inl ⟨by kernel_rfl,fun W _=>by kernel_rfl⟩) (by assumption) ?_;refine wpAnyH_take (i:=11) (oi:=⟨some 36,_,_,_,_,_⟩) (v:=.bool true) rfl (by kernel_rfl) (by kernel_rfl) (by kernel_rfl) (fun _ _ _ h=>h) (Or.inl ⟨by kernel_rfl,fun W _=>by kernel_rfl⟩) (by assumption) ?_;refine wpAnyH_take (i:=12) (oi:=⟨some 37,_,_,_,_,_⟩) (v:=.bool true) rfl (by kernel_rfl) (by kernel_rfl) (by kernel_rfl) (fun _ _ _ h=>h) (Or.inl ⟨by kernel_rfl,fun W _=>by kernel_rfl⟩) (by assumption) ?_
 refine wpAnyH_take (i:=13) (oi:=⟨some 38,_,_,_,_,_⟩) (v:=.bool true) rfl (by kernel_rfl) (by kernel_rfl) (by kernel_rfl) (fun _ _ _ h=>h) (Or.inl ⟨by kernel_rfl,fun W _=>by kernel_rfl⟩) (by assumption) ?_;refine wpAnyH_take (i:=14) (oi:=⟨some 39,_,_,_,_,_⟩) (v:=.int .i64 1) rfl (by kernel_rfl) (by kernel_rfl) (by kernel_rfl) (fun _ _ _ h=>h) (Or.inl ⟨by kernel_rfl,fun W _=>by kernel_rfl⟩) (by assumption) ?_;refine wpAnyH_take (i:=15) (oi:=⟨some 40,_,_,_,_,_⟩) (v:=.bool true) rfl (by kernel_rfl) (by kernel_rfl) (by kernel_rfl) (fun _ _ _ h=>h) (Or.inl ⟨by kernel_rfl,fun W _=>by kernel_rfl⟩) (by assumption) ?_;refine wpAnyH_take (i:=16) (oi:=⟨some 41,_,_,_,_,_⟩) (v:=.bool true) rfl (by kernel_rfl) (by kernel_rfl) (by kernel_rfl) (fun _ _ _ h=>h) (Or.inl ⟨by kernel_rfl,fun W _=>by kernel_rfl⟩) (by assumption) ?_;refine wpAnyH_take (i:=17) (oi:=⟨some 42,_,_,_,_,_⟩) (v:=.bool true) rfl (by kernel_rfl) (by kernel_rfl) (by kernel_rfl) (fun _ _ _ h=>h) (Or.inl ⟨by kernel_rfl,fun W _=>by kernel_rfl⟩) (by assumption) ?_
 refine wpAnyH_take (i:=18) (oi:=⟨some 43,_,_,_,_,_⟩) (v:=.string st) rfl (by kernel_rfl) (by kernel_rfl) (by kernel_rfl) (fun _ _ _ h=>h) (Or.inl ⟨by kernel_rfl,fun W _=>by kernel_rfl⟩) (by assumption) ?_;refine wpAnyH_take (i:=19) (oi:=⟨some 44,_,_,_,_,_⟩) (v:=.int .i64 519) rfl (by kernel_rfl) (by kernel_rfl) (by kernel_rfl) (fun _ _ _ h=>h) (Or.inl ⟨by kernel_rfl,fun W _=>by go_simp⟩) (by assumption) ?_;refine wpAnyH_take (i:=20) (oi:=⟨some 45,_,_,_,_,_⟩) (v:=.bool true) rfl (by kernel_rfl) (by kernel_rfl) (by kernel_rfl) (fun _ _ _ h=>h) (Or.inl ⟨by kernel_rfl,fun W _=>by kernel_rfl⟩) (by assumption) ?_;refine wpAnyH_take (i:=21) (oi:=⟨some 46,_,_,_,_,_⟩) (v:=.bool true) rfl (by kernel_rfl) (by kernel_rfl) (by kernel_rfl) (fun _ _ _ h=>h) (Or.inl ⟨by kernel_rfl,fun W _=>by kernel_rfl⟩) (by assumption) ?_;refine wpAnyH_take (i:=22) (oi:=⟨some 47,_,_,_,_,_⟩) (v:=.bool true) rfl (by kernel_rfl) (by kernel_rfl) (by kernel_rfl) (fun _ _ _ h=>h) (Or.inl ⟨by kernel_rfl,fun W _=>by kernel_rfl⟩) (by assumption) ?_
 refine wpAnyH_take (i:=23) (oi:=⟨some 48,_,_,_,_,_⟩) (v:=.agg #[.string o.name,.slice x1 o.uses.length y1,.int .i64 o.data,.slice x3 o.code.length y3,.slice x4 o.fixes.length y4,.slice x5 o.entries.length y5,.int .i64 o.main]) rfl (by kernel_rfl) (by kernel_rfl) (by kernel_rfl) (fun _ _ _ h=>h) (Or.inl ⟨by kernel_rfl,fun W hSW=>by (obtain ⟨s0,s1,s2,s3,s4,s5,s6⟩:=hSW;go_simp)⟩) (by assumption) ?_;refine wpAnyH_ready (rs:=[24]) (by kernel_rfl) (by simp) ?_;refine AllReadyH.cons rfl (fun K hK=>?_) AllReadyH.nil;go_simp
 go_wp2_with (go_at_call 85;refine (HT.out _).mono ?_;rintro e w8 ⟨b8,off8,s1,t1,s3,t3,s4,t4,s5,t5,_,_,_,_,_,_,_,_,rfl,⟨hO8,_⟩,_,hb8⟩;have D8:=hid (thenB D7.out hb8);have HS8:=hid hO8.ov;obtain ⟨z8,f0,f1,f2,f3,f4,f5,f6,_⟩:=hO8;clear hb8 FF;have FF:=hid (HX.out _ D8.out))
 refine hK.out _ _ FF.out (fun hHeld=>?_);clear hK K;refine wpAnyH_take (i:=25) (oi:=⟨some 50,_,_,_,_,_⟩) (v:=.pointer (some ⟨b8,off8,none⟩)) rfl (by kernel_rfl) (by kernel_rfl) (by kernel_rfl) (fun _ _ _ h=>h) (Or.inl ⟨by kernel_rfl,fun W _=>by kernel_rfl⟩) (by assumption) ?_;refine wpAnyH_ready (rs:=[26]) (by kernel_rfl) (by simp) ?_;refine AllReadyH.cons rfl (fun K hK=>?_) AllReadyH.nil;go_simp
 go_wp2_with (fail)
 refine hK.out _ _ FF.out (fun hHeld=>?_);clear hK K;clear z8 f0 f1 f2 f3 f4 f5 f6;refine wpAnyH_ready (rs:=[27]) (by kernel_rfl) (by simp) ?_;refine AllReadyH.cons rfl (fun K hK=>?_) AllReadyH.nil;go_simp
 go_wp2_with (go_at_call 38;refine (SameObjects_same o x1 y1 x3 y3 x4 y4 x5 y5 _ _ _ _ _ _ _ _ _ (HO4.out.later D8.out) HS8.out).mono ?_;rintro e w9 ⟨rfl,hb9⟩;have D9:=hid (thenB D8.out hb9);clear hb9 FF;have FF:=hid (HX.out _ D9.out))
 refine hK.out _ _ FF.out (fun hHeld=>?_);clear hK K;refine wpAnyH_take (i:=28) (oi:=⟨some 53,_,_,_,_,_⟩) (v:=.bool true) rfl (by kernel_rfl) (by kernel_rfl) (by kernel_rfl) (fun _ _ _ h=>h) (Or.inl ⟨by kernel_rfl,fun W _=>by kernel_rfl⟩) (by assumption) ?_;refine wpAnyH_take (i:=29) (oi:=⟨some 0,_,_,_,_,_⟩) (v:=.bool true) rfl (by kernel_rfl) (by kernel_rfl) (by kernel_rfl) (fun _ _ _ h=>h) (Or.inl ⟨by kernel_rfl,fun W _=>by kernel_rfl⟩) (by assumption) ?_;refine wpAnyH_done (by kernel_rfl) ?_ _
 try simp only [Act.put,List.setIfInBounds_toArray,List.set_cons_zero,List.set_cons_succ]
 go_wp2_with fail;go_ret;exact ⟨rfl,thenB HB4.out D9.out⟩
def cntBy:List UInt8:=objB cntOb
theorem cnt_wr:wrO cntOb=(cntBy,0):=by kernel_rfl
theorem cnt_len:cntBy.length=519:=by kernel_rfl
theorem cnt_rd:rdO cntBy=some cntOb:=by kernel_rfl
theorem cnt_rx:rdO (cntBy++[120])=none:=by kernel_rfl
theorem top_chk:oChk topOb=0:=by kernel_rfl
theorem objBegun_any (w:World):Calls Tryz.prog 33 #[] w fun e w'=>e = .returned (.bool true)/\Below w.heap.size w w':=
 objBegun_gen cntOb topOb cntBy objects_any top_chk cnt_wr cnt_rd cnt_rx cnt_len w
end Go.Proofs.YtndkhgakfodldaaGreatDoor

namespace Go.Proofs.YtndkhgakfodldaaGreatDoor
set_option maxRecDepth 100000
set_option maxHeartbeats 12800000
open Go.RowKit Go.Maps Go.WideMaps
set_option linter.unusedSimpArgs false
set_option linter.unusedVariables false
theorem ObjBack_any (o:Ob) (x1:Option Addr) (y1:Nat) (x3:Option Addr) (y3:Nat) (x4:Option Addr) (y4:Nat) (x5:Option Addr) (y5:Nat) (st:ByteArray) (w:World) (hO:OvAt w o x1 x3 x4 x5) (hcp:o.uses.length<=y1) (hst:st.size<=9223372036854775807) :
 Calls Tryz.prog 11 #[.agg #[.string o.name,.slice x1 o.uses.length y1,.int .i64 o.data,.slice x3 o.code.length y3,.slice x4 o.fixes.length y4,.slice x5 o.entries.length y5,.int .i64 o.main],.string st] w fun e w'=>e = .returned (.bool true)/\Below w.heap.size w w':=by
 obtain ⟨l,hl⟩:∃ l,st=Fx.strOf l:=⟨st.data.toList,(Fx.strOf_back st).symm⟩
 have hll:l.length<=9223372036854775807:=by rw [hl,Fx.strOf_size] at hst;exact hst
 have HRd:=hid (fun (W:World)=>objRead_any l W hll);rw [← hl] at HRd;unfold RdEnd isOb at HRd;have HS:=hid hl;have heq:(st.toList == st.toList)=true:=(str_beq _ _).trans (decide_eq_true rfl);have HW:=hid (objWrite_any o x1 y1 x3 y3 x4 y4 x5 y5 _ (hO.later (al1 w (.cells #[.string o.name,.slice x1 o.uses.length y1,.int .i64 o.data,.slice x3 o.code.length y3,.slice x4 o.fixes.length y4,.slice x5 o.entries.length y5,.int .i64 o.main] 62))) hcp);have HO:=hid hO;have HF:=hid hO.fits;clear hO hcp hst hll hl
 by_cases h0:(wrO o).2=0
 . obtain ⟨hr,hrl⟩:=rd_there HF.out h0
   have HR1:=hid (fun (W:World)=>read_some hr hrl W);rw [h0] at HW;generalize Fx.strOf (wrO o).1=tt at *;clear h0 hr hrl;go_enter Tryz.func11,Tryz.ntmps11;go_wp2_with fail;refine HW.out.mono ?_;rintro e w1 ⟨rfl,hb1⟩;have HB1:=hid (thenB (al1 w _) hb1);have HX1:=hid (later_blk (heap_newP w (.cells #[.string o.name,.slice x1 o.uses.length y1,.int .i64 o.data,.slice x3 o.code.length y3,.slice x4 o.fixes.length y4,.slice x5 o.entries.length y5,.int .i64 o.main] 62)) hb1);clear hb1 HW;go_wp2_with fail;refine (HR1.out _).mono ?_;rintro e w2 ⟨g1,h1,g3,h3,g4,h4,g5,h5,rfl,hG,_,hb2⟩;have HB2:=hid (thenB HB1.out hb2);have HX2:=hid (later_blk HX1.out hb2);have HG:=hid hG;clear hb2 HB1 HX1 hG HR1;obtain ⟨q0,q1,q2,q3,q4,q5,q6,qz⟩:=cells7 HX2.out;have HSm:=hid (SameObjects_same o g1 h1 g3 h3 g4 h4 g5 h5 x1 y1 x3 y3 x4 y4 x5 y5 _ (HG.out.later (al1 w2 (.cells #[.string o.name,.slice g1 o.uses.length h1,.int .i64 o.data,.slice g3 o.code.length h3,.slice g4 o.fixes.length h4,.slice g5 o.entries.length h5,.int .i64 o.main] 62))) (HO.out.later (thenB HB2.out (al1 w2 (.cells #[.string o.name,.slice g1 o.uses.length h1,.int .i64 o.data,.slice g3 o.code.length h3,.slice g4 o.fixes.length h4,.slice g5 o.entries.length h5,.int .i64 o.main] 62)))))
   go_wp2_with fail;refine HSm.out.mono ?_;rintro e w3 ⟨rfl,hb3⟩;have HB3:=hid (thenB HB2.out (thenB (al1 _ _) hb3));clear hb3 q0 q1 q2 q3 q4 q5 q6 qz HX2 HB2 HG HSm;go_wp2_with fail;refine (HRd.out _).mono ?_;rintro e wr ⟨hbr,⟨_,rfl⟩ | ⟨_,_,rfl⟩ | ⟨hlr,p,v,hpr,rfl,u1,v1,u3,v3,u4,v4,u5,v5,rfl,hOp,hcp⟩⟩
   . have HBr:=hid (thenB HB3.out hbr)
     clear hbr;go_wp2_with fail;refine (objBegun_any _).mono ?_;rintro e we ⟨rfl,hbe⟩;have HBe:=hid (thenB HBr.out (thenB (al1 _ _) hbe));clear hbe;go_wp2_with fail;go_ret;exact ⟨rfl,HBe.out⟩
   . have HBr:=hid (thenB HB3.out hbr)
     clear hbr;go_wp2_with fail;refine (objBegun_any _).mono ?_;rintro e we ⟨rfl,hbe⟩;have HBe:=hid (thenB HBr.out (thenB (al1 _ _) hbe));clear hbe;go_wp2_with fail;go_ret;exact ⟨rfl,HBe.out⟩
   . have HBr:=hid (thenB HB3.out hbr)
     have HWr:=hid (objWrite_any p u1 v1 u3 v3 u4 v4 u5 v5 _ (hOp.ov.later (al1 wr (.cells #[.string p.name,.slice u1 p.uses.length v1,.int .i64 p.data,.slice u3 p.code.length v3,.slice u4 p.fixes.length v4,.slice u5 p.entries.length v5,.int .i64 p.main] 62))) hcp);rw [rd_back hpr hlr] at HWr;simp only at HWr;rw [← HS.out] at HWr;clear hbr hlr hpr hOp hcp;go_wp2_with fail;refine HWr.out.mono ?_;rintro e wt ⟨rfl,hbt⟩;have HBt:=hid (thenB HBr.out (thenB (al1 _ _) hbt));clear hbt HWr;go_wp2_with fail;refine (objBegun_any _).mono ?_;rintro e we ⟨rfl,hbe⟩;have HBe:=hid (thenB HBt.out hbe);clear hbe;go_wp2_with fail;go_ret;exact ⟨rfl,HBe.out⟩
 . have hb0:((wrO o).2 == 0)=false:=by rw [beq_eq_false_iff_ne];exact h0
   generalize Fx.strOf (wrO o).1=tt at *;generalize (wrO o).2=E at *;clear h0;go_enter Tryz.func11,Tryz.ntmps11;go_wp2_with fail;refine HW.out.mono ?_;rintro e w1 ⟨rfl,hb1⟩;have HB1:=hid (thenB (al1 w _) hb1);clear hb1 HW;go_wp2_with fail;refine (HRd.out _).mono ?_;rintro e wr ⟨hbr,⟨_,rfl⟩ | ⟨_,_,rfl⟩ | ⟨hlr,p,v,hpr,rfl,u1,v1,u3,v3,u4,v4,u5,v5,rfl,hOp,hcp⟩⟩
   . have HBr:=hid (thenB HB1.out hbr)
     clear hbr;go_wp2_with fail;refine (objBegun_any _).mono ?_;rintro e we ⟨rfl,hbe⟩;have HBe:=hid (thenB HBr.out (thenB (al1 _ _) hbe));clear hbe;go_wp2_with fail;go_ret;exact ⟨rfl,HBe.out⟩
   . have HBr:=hid (thenB HB1.out hbr)
     clear hbr;go_wp2_with fail;refine (objBegun_any _).mono ?_;rintro e we ⟨rfl,hbe⟩;have HBe:=hid (thenB HBr.out (thenB (al1 _ _) hbe));clear hbe;go_wp2_with fail;go_ret;exact ⟨rfl,HBe.out⟩
   . have HBr:=hid (thenB HB1.out hbr)
     have HWr:=hid (objWrite_any p u1 v1 u3 v3 u4 v4 u5 v5 _ (hOp.ov.later (al1 wr (.cells #[.string p.name,.slice u1 p.uses.length v1,.int .i64 p.data,.slice u3 p.code.length v3,.slice u4 p.fixes.length v4,.slice u5 p.entries.length v5,.int .i64 p.main] 62))) hcp);rw [rd_back hpr hlr] at HWr;simp only at HWr;rw [← HS.out] at HWr;clear hbr hlr hpr hOp hcp;go_wp2_with fail;refine HWr.out.mono ?_;rintro e wt ⟨rfl,hbt⟩;have HBt:=hid (thenB HBr.out (thenB (al1 _ _) hbt));clear hbt HWr;go_wp2_with fail;refine (objBegun_any _).mono ?_;rintro e we ⟨rfl,hbe⟩;have HBe:=hid (thenB HBt.out hbe);clear hbe;go_wp2_with fail;go_ret;exact ⟨rfl,HBe.out⟩
end Go.Proofs.YtndkhgakfodldaaGreatDoor
