/-
  What must be in any case, of package gen.
-/
import Derived.Test.YtndkhgakfodldaaGreatDoorMc
import Derived.Test.YtndkhgakfodldaaGreatDoorKp
import Derived.Deep.RegionHeld
import Derived.Deep.RegionHeldLaw
import Derived.Test.YtndkhgakfodldaaGreatDoorNo
namespace Go.Proofs.YtndkhgakfodldaaGreatDoor
set_option maxRecDepth 100000
set_option maxHeartbeats 6400000
open Go.RowKit Go.Maps Go.WideMaps
set_option linter.unusedSimpArgs false
set_option linter.unusedVariables false
def cntOb:Ob:=genOb cntUn
theorem cnt_gen:genM cntUn = .ok cntOb:=by kernel_rfl
structure Cob (w:World) (b3 o3 b4 o4 b5 o5:Nat):Prop where
 l3:b3<w.heap.size
 c0:w.cell? ⟨b3,o3+12,none⟩=some (.int .i64 12)
 c1:w.cell? ⟨b3,o3+13,none⟩=some (.int .i64 15)
 c2:w.cell? ⟨b3,o3+14,none⟩=some (.int .i64 0)
 c3:w.cell? ⟨b3,o3+15,none⟩=some (.int .i64 16)
 l4:b4<w.heap.size
 f0:w.cell? ⟨b4,o4,none⟩=some (.int .i64 4)
 f1:w.cell? ⟨b4,o4+1,none⟩=some (.int .i64 1)
 f2:w.cell? ⟨b4,o4+2,none⟩=some (.int .i64 0)
 f3:w.cell? ⟨b4,o4+3,none⟩=some (.int .i64 6)
 f4:w.cell? ⟨b4,o4+4,none⟩=some (.int .i64 3)
 f5:w.cell? ⟨b4,o4+5,none⟩=some (.int .i64 0)
 en:DAt w Tt (some ⟨b5,o5,none⟩) 1 (intD [0])
theorem Cob.later {w w':World} {b3 o3 b4 o4 b5 o5:Nat} (h:Cob w b3 o3 b4 o4 b5 o5) (hb:Below w.heap.size w w'):Cob w' b3 o3 b4 o4 b5 o5:=
 have k3:∀ j,w'.cell? ⟨b3,j,none⟩=w.cell? ⟨b3,j,none⟩:=fun j=>hb.cell (p:=⟨b3,j,none⟩) h.l3
 have k4:∀ j,w'.cell? ⟨b4,j,none⟩=w.cell? ⟨b4,j,none⟩:=fun j=>hb.cell (p:=⟨b4,j,none⟩) h.l4
 ⟨Nat.lt_of_lt_of_le h.l3 hb.size,(k3 _).trans h.c0,(k3 _).trans h.c1,(k3 _).trans h.c2,(k3 _).trans h.c3,Nat.lt_of_lt_of_le h.l4 hb.size,(k4 _).trans h.f0,(k4 _).trans h.f1,(k4 _).trans h.f2,(k4 _).trans h.f3,(k4 _).trans h.f4,(k4 _).trans h.f5,h.en.later hb⟩
end Go.Proofs.YtndkhgakfodldaaGreatDoor

namespace Go.Proofs.YtndkhgakfodldaaGreatDoor
set_option maxRecDepth 100000
open Go.RowKit Go.Maps Go.WideMaps
set_option linter.unusedSimpArgs false
set_option linter.unusedVariables false
end Go.Proofs.YtndkhgakfodldaaGreatDoor

namespace Go.Proofs.YtndkhgakfodldaaGreatDoor
set_option maxRecDepth 100000
open Go.RowKit Go.Maps Go.WideMaps
set_option linter.unusedSimpArgs false
set_option linter.unusedVariables false
theorem Tryz.infoI:(Tryz.prog.info? 3).map (fun i=>(i.zero,i.size,i.bytes))=some (some (.int .i64 0),1,8):=by kernel_rfl
theorem bdrewN {B:Nat} {a w:World} (h:Below B a w) (m:Nat):Below B a (w.drewN m):=⟨h.os,h.tape,h.output,h.size,h.block⟩
end Go.Proofs.YtndkhgakfodldaaGreatDoor

namespace Go.Proofs.YtndkhgakfodldaaGreatDoor
set_option maxRecDepth 100000
set_option maxHeartbeats 6400000
open Go.RowKit Go.Maps Go.WideMaps
set_option linter.unusedSimpArgs false
set_option linter.unusedVariables false
def obsD (l:List Ob):List D:=l.flatMap Ob.ds
structure ObAt (w:World) (b off:Nat) (o:Ob) (x1:Option Addr) (y1:Nat) (x3:Option Addr) (y3:Nat) (x4:Option Addr) (y4:Nat) (x5:Option Addr) (y5:Nat):Prop where
 lt:b<w.heap.size
 c0:w.cell? ⟨b,off,none⟩=some (.string o.name)
 c1:w.cell? ⟨b,off+1,none⟩=some (.slice x1 o.uses.length y1)
 c2:w.cell? ⟨b,off+2,none⟩=some (.int .i64 o.data)
 c3:w.cell? ⟨b,off+3,none⟩=some (.slice x3 o.code.length y3)
 c4:w.cell? ⟨b,off+4,none⟩=some (.slice x4 o.fixes.length y4)
 c5:w.cell? ⟨b,off+5,none⟩=some (.slice x5 o.entries.length y5)
 c6:w.cell? ⟨b,off+6,none⟩=some (.int .i64 o.main)
 ov:OvAt w o x1 x3 x4 x5
theorem DAt.ob {w:World} {a:Option Addr} {l:List Ob} (h:DAt w Tt a l.length (obsD l)) (i:Nat) (hi:i<l.length):∃ b off x1 y1 x3 y3 x4 y4 x5 y5,a=some ⟨b,off,none⟩/\ObAt w b (off+i*7) l[i] x1 y1 x3 y3 x4 y4 x5 y5:=by
 obtain ⟨b,off,ha,hb,hc⟩:=h.cell (by omega);generalize hx:l[i]=x;obtain ⟨name,uses,data,code,fixes,entries,main⟩:=x
 have g:∀ j d,j<7->(Ob.mk name uses data code fixes entries main).ds[j]? = some d->∃ v,w.cell? ⟨b,off+i*7+j,none⟩=some v/\DVal w Tt d v:=fun j d hj hd=>by
  rw [Nat.add_assoc];exact hc (i*7+j) d ((flat_get Ob.ds 7 (fun _=>rfl) l i hi j hj).trans (by rw [hx];exact hd))
 obtain ⟨v0,q0,d0⟩:=g 0 (.str name) (by omega) rfl;obtain ⟨v1,q1,d1⟩:=g 1 (.list uses.length (strsD uses)) (by omega) rfl;obtain ⟨v2,q2,d2⟩:=g 2 (.int data) (by omega) rfl;obtain ⟨v3,q3,d3⟩:=g 3 (.list code.length (gisD code)) (by omega) rfl;obtain ⟨v4,q4,d4⟩:=g 4 (.list fixes.length (gfsD fixes)) (by omega) rfl;obtain ⟨v5,q5,d5⟩:=g 5 (.list entries.length (intD entries)) (by omega) rfl;obtain ⟨v6,q6,d6⟩:=g 6 (.int main) (by omega) rfl;obtain ⟨rfl,w0⟩:=dstr_of d0;obtain ⟨x1,y1,rfl,h1⟩:=dlist_of d1;obtain ⟨rfl,w2⟩:=dnum_of d2;obtain ⟨x3,y3,rfl,h3⟩:=dlist_of d3;obtain ⟨x4,y4,rfl,h4⟩:=dlist_of d4;obtain ⟨x5,y5,rfl,h5⟩:=dlist_of d5;obtain ⟨rfl,w6⟩:=dnum_of d6;exact ⟨b,off,x1,y1,x3,y3,x4,y4,x5,y5,ha,hb,q0,q1,q2,q3,q4,q5,q6,w0,h1,w2,h3,h4,h5,w6⟩
def Caps (w:World) (a:Option Addr) (n:Nat):Prop:=∀ b off,a=some ⟨b,off,none⟩->∀ i,i<n->∃ x k y,w.cell? ⟨b,off+i*7+1,none⟩=some (.slice x k y)/\k<=y
def ObsAt (w:World) (a:Option Addr) (l:List Ob):Prop:=DAt w Tt a l.length (obsD l)/\Caps w a l.length
theorem ObsAt.later {w w':World} {a:Option Addr} {l:List Ob} (h:ObsAt w a l) (hb:Below w.heap.size w w'):ObsAt w' a l:=by
 refine ⟨h.1.later hb,fun b off ha i hi=>?_⟩;obtain ⟨x,k,y,hc,hk⟩:=h.2 b off ha i hi;obtain ⟨b',off',_,_,_,_,_,_,_,_,ha',hO⟩:=DAt.ob (l:=l) h.1 i hi;rw [ha] at ha'
 cases ha'
 exact ⟨x,k,y,(hb.cell (p:=⟨b,off+i*7+1,none⟩) hO.lt).trans hc,hk⟩
theorem ObsAt.ob {w:World} {a:Option Addr} {l:List Ob} (h:ObsAt w a l) (i:Nat) (hi:i<l.length):∃ b off x1 y1 x3 y3 x4 y4 x5 y5,a=some ⟨b,off,none⟩/\ObAt w b (off+i*7) l[i] x1 y1 x3 y3 x4 y4 x5 y5/\l[i].uses.length<=y1:=by
 obtain ⟨b,off,x1,y1,x3,y3,x4,y4,x5,y5,ha,hO⟩:=DAt.ob h.1 i hi;obtain ⟨x,k,y,hc,hk⟩:=h.2 b off ha i hi;have h1:=hO.c1;rw [hc] at h1;cases h1;exact ⟨b,off,x1,y1,x3,y3,x4,y4,x5,y5,ha,hO,hk⟩
theorem ob_vals {w:World} {o:Ob} {x1 x3 x4 x5:Option Addr} (y1 y3 y4 y5:Nat) (h:OvAt w o x1 x3 x4 x5):DVals w Tt o.ds [.string o.name,.slice x1 o.uses.length y1,.int .i64 o.data,.slice x3 o.code.length y3,.slice x4 o.fixes.length y4,.slice x5 o.entries.length y5,.int .i64 o.main]:=by
 unfold Ob.ds;exact .cons (dstr h.wn) (.cons h.uses.val (.cons (dint h.wd) (.cons h.code.val (.cons h.fixes.val (.cons h.entries.val (.cons (dint h.wm) .nil))))))
theorem two_obs {w:World} {o p:Ob} {x1 x3 x4 x5 u1 u3 u4 u5:Option Addr} (y1 y3 y4 y5 v1 v3 v4 v5:Nat) (h:OvAt w o x1 x3 x4 x5) (k:OvAt w p u1 u3 u4 u5) (h1:o.uses.length<=y1) (k1:p.uses.length<=v1) (t:TypeId) :
 ObsAt (w.alloc (.cells #[.string o.name,.slice x1 o.uses.length y1,.int .i64 o.data,.slice x3 o.code.length y3,.slice x4 o.fixes.length y4,.slice x5 o.entries.length y5,.int .i64 o.main,.string p.name,.slice u1 p.uses.length v1,.int .i64 p.data,.slice u3 p.code.length v3,.slice u4 p.fixes.length v4,.slice u5 p.entries.length v5,.int .i64 p.main] t)) (some ⟨w.heap.size,0,none⟩) [o,p]:=by
 have hb:=Blk.new w #[.string o.name,.slice x1 o.uses.length y1,.int .i64 o.data,.slice x3 o.code.length y3,.slice x4 o.fixes.length y4,.slice x5 o.entries.length y5,.int .i64 o.main,.string p.name,.slice u1 p.uses.length v1,.int .i64 p.data,.slice u3 p.code.length v3,.slice u4 p.fixes.length v4,.slice u5 p.entries.length v5,.int .i64 p.main] t
 have e:obsD [o,p]=o.ds++p.ds:=by simp [obsD]
 refine ⟨dat_blk hb ?_ (by rw [e];simp [Ob.ds]) (by rw [e];simp [Ob.ds]),fun b off ha i hi=>?_⟩
 . rw [e]
   have m:Moves w Tt (w.alloc (.cells #[.string o.name,.slice x1 o.uses.length y1,.int .i64 o.data,.slice x3 o.code.length y3,.slice x4 o.fixes.length y4,.slice x5 o.entries.length y5,.int .i64 o.main,.string p.name,.slice u1 p.uses.length v1,.int .i64 p.data,.slice u3 p.code.length v3,.slice u4 p.fixes.length v4,.slice u5 p.entries.length v5,.int .i64 p.main] t)) Tt:=⟨by simp,fun b hb _=>⟨trivial,(al1 _ _).block b hb⟩⟩
   exact (ob_vals y1 y3 y4 y5 (h.later (al1 _ _))).append (ob_vals v1 v3 v4 v5 (k.later (al1 _ _)))
 . cases ha
   have hi':i=0\/i=1:=by simp at hi;omega
   rcases hi' with rfl | rfl
   . exact ⟨x1,_,y1,hb.cell 1 _ rfl,h1⟩
   . exact ⟨u1,_,v1,hb.cell 8 _ rfl,k1⟩
def topOb:Ob:=genOb topUn
theorem top_gen:genM topUn = .ok topOb:=by kernel_rfl
theorem objects_gen (p q:Un) (o r:Ob) (ho:genM p = .ok o) (hr:genM q = .ok r) (hP:∀ w:World,Calls Tryz.prog 75 #[] w fun e w'=>∃ a,e = .returned (.slice (some a) 2 2)/\DAt w' Tt (some a) 2 (unsD [p,q])/\Below w.heap.size w w') (w:World) :
 Calls Tryz.prog 85 #[] w fun e w'=>∃ a,e = .returned (.slice (some a) 2 2)/\ObsAt w' (some a) [o,r]/\Below w.heap.size w w':=by
 have HP:=hid hP;have HG1:=hid (fun (W:World) (x1:Option Addr) (y1:Nat) (x2:Option Addr) (y2:Nat) (x3:Option Addr) (y3:Nat) (hU:UvAt W p x1 y1 x2 y2 x3 y3)=>gen_at ho hU);have HG2:=hid (fun (W:World) (x1:Option Addr) (y1:Nat) (x2:Option Addr) (y2:Nat) (x3:Option Addr) (y3:Nat) (hU:UvAt W q x1 y1 x2 y2 x3 y3)=>gen_at hr hU);clear hP ho hr;go_enter Tryz.func85,Tryz.ntmps85;go_wp2_with fail;refine (HP.out _).mono ?_;rintro e w1 ⟨a,rfl,hD,hb1⟩;have HB1:=hid hb1;obtain ⟨b,off,a1,k1,a2,k2,a3,k3,ha,hx⟩:=(DAt.un (l:=[p,q]) hD) 0 (by simp);obtain rfl:=Option.some.inj ha;have HU:=hid hx.uv;simp only [List.getElem_cons_zero,Nat.zero_mul,Nat.add_zero] at hx HU;obtain ⟨hbl,z0,z1,z2,z3,z4,_,_,_,_,_⟩:=hx;clear hD hb1 ha;go_wp2_with fail;refine (HG1.out _ _ _ _ _ _ _ HU.out).mono ?_;rintro e w2 ⟨x1,y1,x3,y3,x4,y4,x5,y5,rfl,hO,hcp,hb2⟩
 have hBa:=al1 w2 (.cells #[.string o.name,.slice x1 o.uses.length y1,.int .i64 o.data,.slice x3 o.code.length y3,.slice x4 o.fixes.length y4,.slice x5 o.entries.length y5,.int .i64 o.main] 62);have HB2:=hid (thenB HB1.out (thenB hb2 hBa));have HO:=hid (hO.later hBa);have HC:=hid hcp;have HX2:=hid (heap_newP w2 (.cells #[.string o.name,.slice x1 o.uses.length y1,.int .i64 o.data,.slice x3 o.code.length y3,.slice x4 o.fixes.length y4,.slice x5 o.entries.length y5,.int .i64 o.main] 62));clear hO hcp hb2 hBa hbl z0 z1 z2 z3 z4 HU HB1;go_wp2_with fail
 obtain ⟨W2,hW2⟩:∃ W2,W2=w2.alloc (.cells #[.string o.name,.slice x1 o.uses.length y1,.int .i64 o.data,.slice x3 o.code.length y3,.slice x4 o.fixes.length y4,.slice x5 o.entries.length y5,.int .i64 o.main] 62):=⟨_,rfl⟩
 rw [← hW2] at HB2 HO HX2 ⊢;clear hW2;refine (HP.out _).mono ?_;rintro e w3 ⟨a,rfl,hD,hb3⟩;have HB3:=hid (thenB HB2.out hb3);have HO3:=hid (HO.out.later hb3);have HX3:=hid (later_blk HX2.out hb3);obtain ⟨b,off,a1,k1,a2,k2,a3,k3,ha,hx⟩:=(DAt.un (l:=[p,q]) hD) 1 (by simp);obtain rfl:=Option.some.inj ha;have HU:=hid hx.uv;simp only [List.getElem_cons_succ,List.getElem_cons_zero,Nat.one_mul] at hx HU;obtain ⟨hbl,z0,z1,z2,z3,z4,_,_,_,_,_⟩:=hx;clear hD hb3 ha HB2 HO HX2;go_wp2_with fail;refine (HG2.out _ _ _ _ _ _ _ HU.out).mono ?_;rintro e w4 ⟨u1,v1,u3,v3,u4,v4,u5,v5,rfl,hR,hcr,hb4⟩;have HB4:=hid (thenB HB3.out hb4);have HO4:=hid (HO3.out.later hb4);have HR4:=hid hR;have HCr:=hid hcr;have HX4:=hid (later_blk HX3.out hb4);clear hR hcr hb4 hbl z0 z1 z2 z3 z4 HU HB3 HO3 HX3;obtain ⟨q0,q1,q2,q3,q4,q5,q6,qz⟩:=cells7 HX4.out
 go_wp2_with fail;go_ret;refine ⟨_,rfl,?_,thenB HB4.out (bl2 _ _ _)⟩;have:=two_obs y1 y3 y4 y5 v1 v3 v4 v5 (HO4.out.later (al1 w4 (.cells #[.string r.name,.slice u1 r.uses.length v1,.int .i64 r.data,.slice u3 r.code.length v3,.slice u4 r.fixes.length v4,.slice u5 r.entries.length v5,.int .i64 r.main] 62))) (HR4.out.later (al1 w4 (.cells #[.string r.name,.slice u1 r.uses.length v1,.int .i64 r.data,.slice u3 r.code.length v3,.slice u4 r.fixes.length v4,.slice u5 r.entries.length v5,.int .i64 r.main] 62))) HC.out HCr.out 62;simp only [World.size_alloc] at this;exact this
theorem objects_any (w:World) :
 Calls Tryz.prog 85 #[] w fun e w'=>∃ a,e = .returned (.slice (some a) 2 2)/\ObsAt w' (some a) [cntOb,topOb]/\Below w.heap.size w w':=
 objects_gen cntUn topUn cntOb topOb cnt_gen top_gen program_any w
end Go.Proofs.YtndkhgakfodldaaGreatDoor

namespace Go.Proofs.YtndkhgakfodldaaGreatDoor
set_option maxRecDepth 100000
set_option maxHeartbeats 6400000
open Go.RowKit Go.Maps Go.WideMaps
set_option linter.unusedSimpArgs false
set_option linter.unusedVariables false
theorem SameTexts_same (a b:Option Addr) (c1 c2:Nat) (l:List ByteArray) (w:World) (ha:DAt w Tt a l.length (strsD l)) (hb:DAt w Tt b l.length (strsD l)) :
 Calls Tryz.prog 67 #[.slice a l.length c1,.slice b l.length c2] w fun e w'=>e = .returned (.bool true)/\∃ m,w'=w.drewN m:=by
 have hbd:=ha.bound;have HA:=hid ha;have HB:=hid hb;clear ha hb;go_enter Tryz.func67,Tryz.ntmps67;go_wp2_with fail
 go_loopw [5] (fun i wr=>∃ k m:Nat,k<=l.length/\i = .int .i64 k/\wr=w.drewN m) (fun i _=>l.length - (intOf i).toNat)
 case atStart=>exact ⟨0,0,Nat.zero_le _,rfl,rfl⟩
 case round=>
  obtain ⟨k,m,hk,rfl,rfl⟩:=hrel
  by_cases hlt:k<l.length
  . obtain ⟨b1,o1,rfl,hl1,p0,_⟩:=(DAt.str (l:=l) (HA.out.drw m)) k hlt
    obtain ⟨b2,o2,rfl,hl2,q0,_⟩:=(DAt.str (l:=l) (HB.out.drw m)) k hlt;generalize l[k]=lk at *;generalize hW:w.drewN m=W at *;have HW:=hid hW;clear hW;go_wp2_with fail
    go_quiet ((fail))
    go_wp2_with fail;go_roundw
    case rel=>exact ⟨k+1,m+nq,by omega,by go_num,by rw [← HW.out,World.drewN_drewN]⟩
    case measure=>simp [intOf];omega
  . go_wp2_with fail
    go_ret;exact ⟨rfl,m,rfl⟩
theorem SameCode_same (a b:Option Addr) (c1 c2:Nat) (l:List Gi) (w:World) (ha:DAt w Tt a l.length (gisD l)) (hb:DAt w Tt b l.length (gisD l)) :
 Calls Tryz.prog 97 #[.slice a l.length c1,.slice b l.length c2] w fun e w'=>e = .returned (.bool true)/\∃ m,w'=w.drewN m:=by
 have hbd:=ha.bound;have HA:=hid ha;have HB:=hid hb;clear ha hb;go_enter Tryz.func97,Tryz.ntmps97;go_wp2_with fail
 go_loopw [5] (fun i wr=>∃ k m:Nat,k<=l.length/\i = .int .i64 k/\wr=w.drewN m) (fun i _=>l.length - (intOf i).toNat)
 case atStart=>exact ⟨0,0,Nat.zero_le _,rfl,rfl⟩
 case round=>
  obtain ⟨k,m,hk,rfl,rfl⟩:=hrel
  by_cases hlt:k<l.length
  . obtain ⟨b1,o1,rfl,hl1,p0,p1,p2,_,_,_⟩:=(DAt.gi (l:=l) (HA.out.drw m)) k hlt
    obtain ⟨b2,o2,rfl,hl2,q0,q1,q2,_,_,_⟩:=(DAt.gi (l:=l) (HB.out.drw m)) k hlt;generalize l[k]=lk at *;generalize hW:w.drewN m=W at *;have HW:=hid hW;clear hW;go_wp2_with fail
    go_quiet ((fail))
    go_wp2_with fail;go_roundw
    case rel=>exact ⟨k+1,m+nq,by omega,by go_num,by rw [← HW.out,World.drewN_drewN]⟩
    case measure=>simp [intOf];omega
  . go_wp2_with fail
    go_ret;exact ⟨rfl,m,rfl⟩
theorem drew_below (w:World) (m:Nat):Below w.heap.size w (w.drewN m):=bdrewN (Below.refl _ _) m
theorem SameObjects_same (o:Ob) (x1:Option Addr) (y1:Nat) (x3:Option Addr) (y3:Nat) (x4:Option Addr) (y4:Nat) (x5:Option Addr) (y5:Nat) (u1:Option Addr) (v1:Nat) (u3:Option Addr) (v3:Nat) (u4:Option Addr) (v4:Nat) (u5:Option Addr) (v5:Nat) (w:World) (hO:OvAt w o x1 x3 x4 x5) (hU:OvAt w o u1 u3 u4 u5) :
 Calls Tryz.prog 38 #[.agg #[.string o.name,.slice x1 o.uses.length y1,.int .i64 o.data,.slice x3 o.code.length y3,.slice x4 o.fixes.length y4,.slice x5 o.entries.length y5,.int .i64 o.main],.agg #[.string o.name,.slice u1 o.uses.length v1,.int .i64 o.data,.slice u3 o.code.length v3,.slice u4 o.fixes.length v4,.slice u5 o.entries.length v5,.int .i64 o.main]] w fun e w'=>e = .returned (.bool true)/\Below w.heap.size w w':=by
 obtain ⟨W0,hW0⟩:∃ W0,W0=(w.alloc (.cells #[.string o.name,.slice x1 o.uses.length y1,.int .i64 o.data,.slice x3 o.code.length y3,.slice x4 o.fixes.length y4,.slice x5 o.entries.length y5,.int .i64 o.main] 62)).alloc (.cells #[.string o.name,.slice u1 o.uses.length v1,.int .i64 o.data,.slice u3 o.code.length v3,.slice u4 o.fixes.length v4,.slice u5 o.entries.length v5,.int .i64 o.main] 62):=⟨_,rfl⟩
 have hB:Below w.heap.size w W0:=by rw [hW0];exact bl2 _ _ _
 have hX:W0.heap[w.heap.size]? = some (.cells #[.string o.name,.slice x1 o.uses.length y1,.int .i64 o.data,.slice x3 o.code.length y3,.slice x4 o.fixes.length y4,.slice x5 o.entries.length y5,.int .i64 o.main] 62):=by rw [hW0];exact heap_old (heap_newP _ _)
 have hY:W0.heap[w.heap.size+1]? = some (.cells #[.string o.name,.slice u1 o.uses.length v1,.int .i64 o.data,.slice u3 o.code.length v3,.slice u4 o.fixes.length v4,.slice u5 o.entries.length v5,.int .i64 o.main] 62):=by rw [hW0];exact new_1 _ _ _
 have hb4:=hO.fixes.bound;have HO:=hid (hO.later hB);have HU:=hid (hU.later hB);have HB:=hid hB;have HX:=hid hX;have HY:=hid hY;have HW:=hid hW0;obtain ⟨q0,q1,q2,q3,q4,q5,q6,qz⟩:=cells7 hX;obtain ⟨r0,r1,r2,r3,r4,r5,r6,rz⟩:=cells7 hY;have hst:(o.name.toList == o.name.toList)=true:=(str_beq _ _).trans (decide_eq_true rfl);clear hO hU hB hX hY hW0;go_enter Tryz.func38,Tryz.ntmps38;go_wp2_with fail;rw [← HW.out];clear HW;go_wp2_with fail;refine (SameTexts_same x1 u1 y1 v1 o.uses W0 HO.out.uses HU.out.uses).mono ?_;rintro e W1 ⟨rfl,m1,h1⟩
 have hB1:Below W0.heap.size W0 W1:=by rw [h1];exact drew_below _ _
 have HB1:=hid hB1;clear h1 hB1 q0 q1 q2 q3 q4 q5 q6 qz r0 r1 r2 r3 r4 r5 r6 rz;obtain ⟨q0,q1,q2,q3,q4,q5,q6,qz⟩:=cells7 (later_blk HX.out HB1.out);obtain ⟨r0,r1,r2,r3,r4,r5,r6,rz⟩:=cells7 (later_blk HY.out HB1.out);go_wp2_with fail;refine (SameCode_same x3 u3 y3 v3 o.code W1 (HO.out.code.later HB1.out) (HU.out.code.later HB1.out)).mono ?_;rintro e W2 ⟨rfl,m2,h2⟩
 have hB2:Below W1.heap.size W1 W2:=by rw [h2];exact drew_below _ _
 have HB2:=hid (thenB HB1.out hB2);clear h2 hB2 q0 q1 q2 q3 q4 q5 q6 qz r0 r1 r2 r3 r4 r5 r6 rz;obtain ⟨q0,q1,q2,q3,q4,q5,q6,qz⟩:=cells7 (later_blk HX.out HB2.out);obtain ⟨r0,r1,r2,r3,r4,r5,r6,rz⟩:=cells7 (later_blk HY.out HB2.out);go_wp2_with fail;refine (SameInts_same x5 u5 y5 v5 o.entries W2 (HO.out.entries.later HB2.out) (HU.out.entries.later HB2.out)).mono ?_;rintro e W3 ⟨rfl,m3,h3⟩
 have hB3:Below W2.heap.size W2 W3:=by rw [h3];exact drew_below _ _
 have HB3:=hid (thenB HB2.out hB3);clear h3 hB3 q0 q1 q2 q3 q4 q5 q6 qz r0 r1 r2 r3 r4 r5 r6 rz;obtain ⟨q0,q1,q2,q3,q4,q5,q6,qz⟩:=cells7 (later_blk HX.out HB3.out);obtain ⟨r0,r1,r2,r3,r4,r5,r6,rz⟩:=cells7 (later_blk HY.out HB3.out);go_wp2_with fail
 go_loopw [5] (fun i wr=>∃ k:Nat,k<=o.fixes.length/\i = .int .i64 k/\Below W3.heap.size W3 wr) (fun i _=>o.fixes.length - (intOf i).toNat)
 case atStart=>exact ⟨0,Nat.zero_le _,rfl,Below.refl _ _⟩
 case round=>
  clear q0 q1 q2 q3 q4 q5 q6 qz r0 r1 r2 r3 r4 r5 r6 rz;obtain ⟨k,hk,rfl,hb⟩:=hrel;have HBw:=hid hb;have hB4:=thenB HB3.out hb;obtain ⟨q0,q1,q2,q3,q4,q5,q6,qz⟩:=cells7 (later_blk HX.out hB4);obtain ⟨r0,r1,r2,r3,r4,r5,r6,rz⟩:=cells7 (later_blk HY.out hB4)
  by_cases hlt:k<o.fixes.length
  . obtain ⟨b1,o1,rfl,hl1,s0,s1,s2,_,_,_⟩:=(HO.out.fixes.later hB4).gf k hlt
    obtain ⟨b2,o2,rfl,hl2,t0,t1,t2,_,_,_⟩:=(HU.out.fixes.later hB4).gf k hlt;clear hb hB4;generalize o.fixes[k]=fk at *;go_wp2_with fail
    go_quiet ((fail))
    go_wp2_with fail;go_roundw
    case rel=>exact ⟨k+1,by omega,by go_num,bdrewN HBw.out _⟩
    case measure=>simp [intOf];omega
  . have HBf:=hid (thenB HB.out hB4)
    clear hb hB4;go_wp2_with fail;go_ret;exact ⟨rfl,HBf.out⟩
end Go.Proofs.YtndkhgakfodldaaGreatDoor
