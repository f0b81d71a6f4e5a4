/-
  Texts of tokens, each with a blank behind it; how the text of a module grows.
-/
import Derived.Test.YtcekpobmbmnplaaGreatDoorFf
import Derived.Deep.RegionHeld
import Derived.Test.YtcekpobmbmnplaaGreatDoorCe
import Derived.Test.YtcekpobmbmnplaaGreatDoorPure
namespace Go.Proofs.YtcekpobmbmnplaaGreatDoor
set_option maxRecDepth 100000
open Go.RowKit
def trl (l:List Tk):List UInt8:=l.flatMap (fun t=>zhb t++[32])
theorem zen (a b:List Tk):trl (a++b)=trl a++trl b:=by simp [trl,List.flatMap_append]
theorem zdg (t:Tk) (b:List Tk):trl (t :: b)=zhb t++32 :: trl b:=by simp [trl]
theorem zfy:trl []=[]:=rfl
theorem zj5:∀ (l:List Tk),spc l++[32]=32 :: trl l
 | []=>rfl
 | t :: r=>by rw [zbo,zdg,List.cons_append,List.append_assoc,zj5 r]
theorem zqz {l:List Tk} (h:0<l.length):showL l++[32]=trl l:=by
 have h1:=zj5 l;rw [zbc h] at h1;injection h1
theorem zui (l:List Tk) (t:Tk):showL (l++[t])=trl l++zhb t:=by
 apply zdu
 rw [zcn,zbo,zdl,List.append_nil];have:=zj5 l
 calc spc l++32 :: zhb t=(spc l++[32])++zhb t:=by simp
  _=_:=by rw [this];rfl
theorem zpl {ts:List Tk} (h:zam ts):(trl ts).length<=14*ts.length:=by
 have h1:=zmp h;have h2:=congrArg List.length (zj5 ts);simp only [List.length_append,List.length_cons,List.length_nil] at h2;omega
theorem zam.pre {a b:List Tk} (h:zam (a++b)):zam a:=by
 obtain ⟨h1,h2⟩:=h;rw [List.all_append,Bool.and_eq_true] at h1 h2;exact ⟨h1.1,h2.1⟩
theorem zxi {a b l:List Tk} (h:zam l) (hl:l.length<=2000000000000) (e:a++b=l):(strOf (trl a)).size<=28000000000000:=by
 rw [← e] at h hl;have:=zpl h.pre;rw [List.length_append] at hl
 rw [zbr];omega
theorem zmt (b:Bool) (w:World):Calls Tryz.prog 95 #[.bool b] w fun e w'=>e = .returned (.string (strOf (trl (pubT b))))/\w'=w:=by
 cases b with
 | true=>
   go_enter Tryz.func95,Tryz.ntmps95;go_wp2_with fail;go_ret;exact ⟨rfl,rfl⟩
 | false=>
   go_enter Tryz.func95,Tryz.ntmps95;go_wp2_with fail;go_ret;exact ⟨rfl,rfl⟩
theorem zgz (b:Bool):(strOf (trl (pubT b))).size<=4:=by cases b<;>decide
def X0 (m:Mo):List Tk:=[kTk tModule,wTk m.name,kTk tLb]
def X1 (m:Mo) (k:Nat):List Tk:=X0 m++zb8 tUse (m.uses.take k)
def X2 (m:Mo) (k:Nat):List Tk:=X1 m m.uses.length++(m.decls.take k).flatMap tD
def X3 (m:Mo) (k:Nat):List Tk:=X2 m m.decls.length++(m.procs.take k).flatMap tP
theorem zmu {α:Type} (f:α->List Tk) (l:List α) (k:Nat):(l.take k).flatMap f++(l.drop k).flatMap f=l.flatMap f:=by
 rw [← List.flatMap_append,List.take_append_drop]
theorem z04 (m:Mo) (k:Nat):∃ b,X1 m k++b=tM m:=by
 refine ⟨zb8 tUse (m.uses.drop k)++(m.decls.flatMap tD++(m.procs.flatMap tP++kTk tMain :: (brT (tSs m.main)++[kTk tRb]))),?_⟩;have:=zmu (fun n=>[kTk tUse,wTk n,kTk tSem]) m.uses k;unfold X1 tM zb8 X0;rw [← this];simp
theorem zyk (m:Mo):X1 m m.uses.length=X0 m++zb8 tUse m.uses:=by unfold X1;rw [List.take_length]
theorem z05 (m:Mo) (k:Nat):∃ b,X2 m k++b=tM m:=by
 refine ⟨(m.decls.drop k).flatMap tD++(m.procs.flatMap tP++kTk tMain :: (brT (tSs m.main)++[kTk tRb])),?_⟩;have:=zmu tD m.decls k;unfold X2;rw [zyk];unfold tM X0;rw [← this];simp
theorem zyl (m:Mo):X2 m m.decls.length=X0 m++(zb8 tUse m.uses++m.decls.flatMap tD):=by unfold X2;rw [List.take_length,zyk,List.append_assoc]
theorem z06 (m:Mo) (k:Nat):∃ b,X3 m k++b=tM m:=by
 refine ⟨(m.procs.drop k).flatMap tP++kTk tMain :: (brT (tSs m.main)++[kTk tRb]),?_⟩;have:=zmu tP m.procs k;unfold X3;rw [zyl];unfold tM X0;rw [← this];simp
theorem z07 (m:Mo):strOf (trl (X3 m m.procs.length))++⟨#[109,97,105,110,32]⟩++strOf (showL (brT (tSs m.main)))++⟨#[32,125]⟩=strOf (showL (tM m)):=by
 have e:tM m=(X3 m m.procs.length++kTk tMain :: brT (tSs m.main))++[kTk tRb]:=by
  unfold X3;rw [List.take_length,zyl];unfold tM X0;simp
 rw [e,zui,zen,zdg,← zqz (zlt (tSs m.main)),zd2,zd2];rw [show (⟨#[109,97,105,110,32]⟩:ByteArray)=strOf [109,97,105,110,32] from rfl,show (⟨#[32,125]⟩:ByteArray)=strOf [32,125] from rfl,zad,zad,zad]
 congr 1
 simp
theorem zzh (m:Mo):(⟨#[109,111,100,117,108,101,32]⟩:ByteArray)++m.name++⟨#[32,123,32]⟩=strOf (trl (X1 m 0)):=by
 have e:trl (X1 m 0)=[109,111,100,117,108,101,32]++m.name.data.toList++[32,123,32]:=by
  simp [X1,X0,zb8,zdg,zfy,zd2,zh0]
 rw [e,← zad,← zad,za8];rfl
theorem zq0 (t:ByteArray) (l:List ByteArray) (k:Nat) (h:k<l.length):zb8 t (l.take (k+1))=zb8 t (l.take k)++[kTk t,wTk l[k],kTk tSem]:=by
 unfold zb8
 rw [List.take_succ_eq_append_getElem h,List.flatMap_append];rfl
theorem zzi (m:Mo) (k:Nat) (h:k<m.uses.length):strOf (trl (X1 m k))++⟨#[117,115,101,32]⟩++m.uses[k]++⟨#[32,59,32]⟩=strOf (trl (X1 m (k+1))):=by
 have e:trl (X1 m (k+1))=trl (X1 m k)++[117,115,101,32]++m.uses[k].data.toList++[32,59,32]:=by
  unfold X1;rw [zq0 _ _ _ h];simp [zen,zdg,zfy,zd2,zh0]
 rw [e,← zad,← zad,← zad,za8];rfl
theorem zzj (m:Mo):X2 m 0=X1 m m.uses.length:=by simp [X2]
theorem zzk (m:Mo):X3 m 0=X2 m m.decls.length:=by simp [X3]
theorem zuj (m:Mo) (k:Nat) (h:k<m.decls.length):trl (X2 m (k+1))=trl (X2 m k)++trl (tD m.decls[k]):=by
 unfold X2;rw [List.take_succ_eq_append_getElem h,List.flatMap_append];simp [zen]
theorem zxj (m:Mo) (k:Nat) (h:k<m.decls.length) (hk:m.decls[k].kind=1) :
 strOf (trl (X2 m k))++strOf (trl (pubT m.decls[k].pub))++⟨#[99,111,110,115,116,32]⟩++m.decls[k].name++⟨#[32,61,32]⟩++strOf (Lib.decDigits m.decls[k].n.toNat)++⟨#[32,59,32]⟩=strOf (trl (X2 m (k+1))):=by
 rw [zuj m k h];unfold tD;rw [if_pos hk];rw [show trl (pubT m.decls[k].pub++[kTk tConst,wTk m.decls[k].name,kTk tEq,nTk m.decls[k].n,kTk tSem])=trl (pubT m.decls[k].pub)++[99,111,110,115,116,32]++m.decls[k].name.data.toList++[32,61,32]++Lib.decDigits m.decls[k].n.toNat++[32,59,32] from by simp [zen,zdg,zfy,zd2,zh0,zzb]];simp only [← List.append_assoc]
 simp only [← zad,za8];rfl
theorem z08 (m:Mo) (k:Nat) (h:k<m.decls.length) (hk:m.decls[k].kind=2) :
 strOf (trl (X2 m k))++strOf (trl (pubT m.decls[k].pub))++⟨#[118,97,114,32]⟩++m.decls[k].name++⟨#[32,59,32]⟩=strOf (trl (X2 m (k+1))):=by
 rw [zuj m k h];unfold tD;rw [if_neg (by omega),if_pos hk];rw [show trl (pubT m.decls[k].pub++[kTk tVar,wTk m.decls[k].name,kTk tSem])=trl (pubT m.decls[k].pub)++[118,97,114,32]++m.decls[k].name.data.toList++[32,59,32] from by simp [zen,zdg,zfy,zd2,zh0]];simp only [← List.append_assoc]
 simp only [← zad,za8];rfl
theorem zxk (m:Mo) (k:Nat) (h:k<m.decls.length) (hk:m.decls[k].kind=3) :
 strOf (trl (X2 m k))++strOf (trl (pubT m.decls[k].pub))++⟨#[97,114,114,97,121,32]⟩++m.decls[k].name++⟨#[32,91,32]⟩++strOf (Lib.decDigits m.decls[k].n.toNat)++⟨#[32,93,32,59,32]⟩=strOf (trl (X2 m (k+1))):=by
 rw [zuj m k h];unfold tD;rw [if_neg (by omega),if_neg (by omega)];rw [show trl (pubT m.decls[k].pub++[kTk tArray,wTk m.decls[k].name,kTk tLs,nTk m.decls[k].n,kTk tRs,kTk tSem])=trl (pubT m.decls[k].pub)++[97,114,114,97,121,32]++m.decls[k].name.data.toList++[32,91,32]++Lib.decDigits m.decls[k].n.toNat++[32,93,32,59,32] from by simp [zen,zdg,zfy,zd2,zh0,zzb]];simp only [← List.append_assoc]
 simp only [← zad,za8];rfl
def P1 (x:List Tk) (p:Pr) (i:Nat):List UInt8:=trl (x++pubT p.pub++[kTk tProc,wTk p.name])++40 :: spc (zaz (p.params.take i))
def P2 (x:List Tk) (p:Pr) (i:Nat):List UInt8:=trl (x++pubT p.pub++kTk tProc :: wTk p.name :: kTk tLp :: (zaz p.params++kTk tRp :: zb8 zar (p.locals.take i)))
theorem zzl (x:List Tk) (p:Pr):strOf (trl x)++strOf (trl (pubT p.pub))++⟨#[112,114,111,99,32]⟩++p.name++⟨#[32,40]⟩=strOf (P1 x p 0):=by
 have e:P1 x p 0=trl x++trl (pubT p.pub)++[112,114,111,99,32]++p.name.data.toList++[32,40]:=by
  simp [P1,zaz,commas,zdl,zen,zdg,zfy,zd2,zh0]
 rw [e]
 simp only [← zad,za8];rfl
theorem zlu (l:List ByteArray) (i:Nat) (h:i<l.length):zaz (l.take (i+1))=zaz (l.take i)++(if i=0 then [] else [kTk tCom])++[wTk l[i]]:=by
 unfold zaz;rw [List.take_succ_eq_append_getElem h,List.map_append,List.map_cons,List.map_nil,zfx,List.length_map,List.length_take,Nat.min_eq_left (by omega)]
theorem zxl (x:List Tk) (p:Pr) (i:Nat) (h:i<p.params.length) (h0:i=0):strOf (P1 x p i)++⟨#[32]⟩++p.params[i]=strOf (P1 x p (i+1)):=by
 have e:P1 x p (i+1)=P1 x p i++[32]++p.params[i].data.toList:=by
  unfold P1;rw [zlu _ _ h,if_pos h0];simp [zcn,zbo,zdl,zh0]
 rw [e]
 simp only [← zad,za8];rfl
theorem zzm (x:List Tk) (p:Pr) (i:Nat) (h:i<p.params.length) (h0:0<i):strOf (P1 x p i)++⟨#[32,44]⟩++⟨#[32]⟩++p.params[i]=strOf (P1 x p (i+1)):=by
 have e:P1 x p (i+1)=P1 x p i++[32,44]++[32]++p.params[i].data.toList:=by
  unfold P1;rw [zlu _ _ h,if_neg (by omega)];simp [zcn,zbo,zdl,zh0,zd2]
 rw [e]
 simp only [← zad,za8];rfl
theorem z09 (x:List Tk) (p:Pr):strOf (P1 x p p.params.length)++⟨#[32,41,32]⟩=strOf (P2 x p 0):=by
 have e:P2 x p 0=P1 x p p.params.length++[32,41,32]:=by
  unfold P2 P1;rw [List.take_length];have h:=zj5 (zaz p.params)
  have h2:spc (zaz p.params)++[32,41,32]=32 :: (trl (zaz p.params)++[41,32]):=by
   calc spc (zaz p.params)++[32,41,32]=(spc (zaz p.params)++[32])++[41,32]:=by simp
    _=_:=by rw [h];rfl
  rw [List.append_assoc (trl (x++pubT p.pub++[kTk tProc,wTk p.name])),List.cons_append,h2];simp [zb8,zen,zdg,zfy,zh0,zd2]
 rw [e]
 simp only [← zad];rfl
theorem zzn (x:List Tk) (p:Pr) (i:Nat) (h:i<p.locals.length):strOf (P2 x p i)++⟨#[108,111,99,97,108,32]⟩++p.locals[i]++⟨#[32,59,32]⟩=strOf (P2 x p (i+1)):=by
 have e:P2 x p (i+1)=P2 x p i++[108,111,99,97,108,32]++p.locals[i].data.toList++[32,59,32]:=by
  unfold P2;rw [zq0 _ _ _ h];simp [zen,zdg,zfy,zh0,zd2]
 rw [e]
 simp only [← zad,za8];rfl
theorem z1a (m:Mo) (k:Nat) (h:k<m.procs.length):strOf (P2 (X3 m k) m.procs[k] m.procs[k].locals.length)++strOf (showL (brT (tSs m.procs[k].body)))++⟨#[32]⟩=strOf (trl (X3 m (k+1))):=by
 have e:trl (X3 m (k+1))=P2 (X3 m k) m.procs[k] m.procs[k].locals.length++showL (brT (tSs m.procs[k].body))++[32]:=by
  rw [List.append_assoc,zqz (zlt _)];unfold P2 X3;rw [List.take_succ_eq_append_getElem h,List.flatMap_append,List.take_length];simp [tP,zen,zdg]
 rw [e]
 simp only [← zad];rfl
end Go.Proofs.YtcekpobmbmnplaaGreatDoor

namespace Go.Proofs.YtcekpobmbmnplaaGreatDoor
open Go.RowKit
theorem zzo {x:List Tk} {p:Pr} {i:Nat} (hx:(strOf (trl x)).size<=28000000000000) (hn:zae p.name=true) (hp:∀ n ∈ p.params,zae n=true) (h3:p.params.length<=3):(strOf (P1 x p i)).size<=28000000001000:=by
 have h1:=zgz p.pub;have h2:=zb3 hn;have hr:zam (zaz (p.params.take i)):=znh (fun n h=>hp n (List.mem_of_mem_take h));have h4:=zmp hr
 have h5:(zaz (p.params.take i)).length<=3*1+2:=zkm (fun x hx=>by
  obtain ⟨n,_,rfl⟩:=List.mem_map.1 hx
  simp) (by simp;omega)
 rw [zbr] at hx h1 ⊢;unfold P1;simp only [zen,zdg,zfy,zd2,zh0,List.length_append,List.length_cons,List.length_nil];rw [Lx.len_toList];omega
theorem zzp {x:List Tk} {p:Pr} {i:Nat} (hx:(strOf (trl x)).size<=28000000000000) (hn:zae p.name=true) (hp:∀ n ∈ p.params,zae n=true) (hl:∀ n ∈ p.locals,zae n=true) (h3:p.params.length<=3) (h4:p.locals.length<=4):(strOf (P2 x p i)).size<=28000000001000:=by
 have h1:=zgz p.pub;have h2:=zb3 hn;have hr:zam (zaz p.params):=znh hp;have k4:=zpl hr
 have k5:(zaz p.params).length<=3*1+2:=zkm (fun x hx=>by
  obtain ⟨n,_,rfl⟩:=List.mem_map.1 hx
  simp) (by simp;omega)
 have hr2:zam (zb8 zar (p.locals.take i)):=zvp (zby (by decide)) (fun n h=>hl n (List.mem_of_mem_take h));have k6:=zpl hr2;have k7:(zb8 zar (p.locals.take i)).length<=(p.locals.take i).length*3:=zg5 _ 3 _ (fun _ _=>by simp)
 have k8:(p.locals.take i).length<=4:=by rw [List.length_take];omega
 rw [zbr] at hx h1 ⊢;unfold P2;simp only [zen,zdg,zd2,zh0,List.length_append,List.length_cons,List.length_nil];rw [Lx.len_toList];omega
theorem DeAt.later {w w':World} {b o:Nat} {x:De} (h:DeAt w b o x) (hb:Below w.heap.size w w'):DeAt w' b o x:=
 ⟨Nat.lt_of_lt_of_le h.lt hb.size,(hb.cell (p:=⟨b,_,none⟩) h.lt).trans h.c0,(hb.cell (p:=⟨b,_,none⟩) h.lt).trans h.c1,(hb.cell (p:=⟨b,_,none⟩) h.lt).trans h.c2,(hb.cell (p:=⟨b,_,none⟩) h.lt).trans h.c3,h.wk,h.wn,h.wna⟩
structure MtC (m:Mo):Prop where
 ok:moOk m
 right:zam (tM m)
 len:(tM m).length<=2000000000000
 uses:m.uses.length<=3
 decls:m.decls.length<=10
 procs:m.procs.length<=6
 pars:∀ p ∈ m.procs,p.params.length<=3/\p.locals.length<=4
 main:∀ A,Bx A m.main
 mains:(strOf (showL (brT (tSs m.main)))).size<=10000000000000
 body:∀ p ∈ m.procs,(∀ A,Bx A p.body)/\(strOf (showL (brT (tSs p.body)))).size<=10000000000000
theorem z2z {m:Mo} (h:m.err=0):MtC m:=by
 obtain ⟨hk,hm,hf⟩:=zjn h;have hok:=zqa h;have hl:=zyr hm;have hr:=z28 hok;unfold Mo.many at hm;simp only [Bool.or_eq_false_iff] at hm;obtain ⟨h1,h2,h3,h4,h5⟩:=hm;rw [List.any_eq_false] at h4 h5
 have hmain:zak 6 m.main=false:=by simpa using h5 m.main (by unfold Mo.bodies;simp)
 have hbody:∀ p ∈ m.procs,zak 6 p.body=false:=fun p hp=>by simpa using h5 p.body (by unfold Mo.bodies;simp;exact Or.inl ⟨p,hp,rfl⟩)
 refine ⟨hok,hr,hl,by have:=of_decide_eq_false h1;omega,by have:=of_decide_eq_false h2;omega,by have:=of_decide_eq_false h3;omega,fun p hp=>?_,fun A=>zer A 6 (by omega) _ hmain hok.main,zmr (by omega) hmain hok.main,fun p hp=>⟨fun A=>zer A 6 (by omega) _ (hbody p hp) (hok.procs p hp).2.2.2,zmr (by omega) (hbody p hp) (hok.procs p hp).2.2.2⟩⟩;have q:=h4 p hp;simp only [Bool.not_eq_true,Bool.or_eq_false_iff] at q;exact ⟨by have:=of_decide_eq_false q.1;omega,by have:=of_decide_eq_false q.2;omega⟩
end Go.Proofs.YtcekpobmbmnplaaGreatDoor

namespace Go.Proofs.YtcekpobmbmnplaaGreatDoor
set_option maxRecDepth 100000
set_option maxHeartbeats 16000000
open Go.RowKit
theorem zq1 {W:World} {b:Nat} {x0 x1 x2 x3:Value} {t:TypeId} (h:W.heap[b]? = some (.cells #[x0,x1,x2,x3] t (0,0))):W.cell? ⟨b,1,none⟩=some x1/\W.cell? ⟨b,3,none⟩=some x3:=by
 obtain ⟨_,h1,_,h3,_⟩:=zbk h;exact ⟨h1,h3⟩
theorem z1b {W:World} {b:Nat} {x0 x1 x2 x3 x4:Value} {t:TypeId} (h:W.heap[b]? = some (.cells #[x0,x1,x2,x3,x4] t (0,0))):W.cell? ⟨b,0,none⟩=some x0/\W.cell? ⟨b,1,none⟩=some x1:=by
 obtain ⟨h0,h1,_⟩:=zaf h;exact ⟨h0,h1⟩
theorem Blk.of5 {W:World} {b:Nat} {x0 x1 x2 x3 x4:Value} {t:TypeId} (h:W.heap[b]? = some (.cells #[x0,x1,x2,x3,x4] t (0,0))):Blk W b [x0,x1,x2,x3,x4]:=
 ⟨zac h,fun j v hj=>by rw [Lib.cell_of_heap h];simpa using hj⟩
theorem zpm (A:Nat->Prop) (m:Mo) (v:Value) (a1:Option Addr) (c1:Nat) (a2:Option Addr) (c2:Nat) (a3:Option Addr) (c3:Nat) (a4:Option Addr) (c4:Nat) (w:World) (hM:MoAt w A m v a1 c1 a2 c2 a3 c3 a4 c4) (he:m.err=0) :
 Calls Tryz.prog 56 #[v] w fun e w'=>e = .returned (.string (strOf (showL (tM m))))/\Below w.heap.size w w':=by
 have HC:=hid (z2z he);obtain rfl:=hM.val;have HM:=hid hM;have hms:=zb3 HC.out.ok.name;have hul:=HC.out.uses;have hdl:=HC.out.decls;have hpl:=HC.out.procs
 have HSz:Hid (∀ a b,a++b=tM m->(strOf (trl a)).size<=28000000000000):=fun a b e=>zxi HC.out.right HC.out.len e
 have HBx:=hid (Blk.new w #[.string m.name,.slice a1 m.uses.length c1,.slice a2 m.decls.length c2,.slice a3 m.procs.length c3,.slice a4 m.main.length c4] 27);have HX0:=hid (zzh m);clear he hM;go_enter Tryz.func56,Tryz.ntmps56;go_wp2_with fail
 go_loopw [4,3] (fun i s wr=>∃ k:Nat,k<=m.uses.length/\i = .int .i64 k/\s = .string (strOf (trl (X1 m k)))/\Below w.heap.size w wr/\Blk wr w.heap.size [.string m.name,.slice a1 m.uses.length c1,.slice a2 m.decls.length c2,.slice a3 m.procs.length c3,.slice a4 m.main.length c4]) (fun i _ _=>m.uses.length - (intOf i).toNat)
 case atStart=>exact ⟨0,Nat.zero_le _,rfl,by rw [HX0.out],al1 _ _,HBx.out⟩
 case round=>
 obtain ⟨k,hk,rfl,rfl,hb,hB⟩:=hrel;have HB:=hid hb;have HBk:=hid hB;obtain ⟨q0,q1,q2,q3,q4,q5⟩:=hB.c5;obtain ⟨rest,hpre⟩:=z04 m k;have hsz:=HSz.out _ _ hpre;clear hpre hb hB HBx HX0
 by_cases hlt:k<m.uses.length
 . obtain ⟨b,off,rfl,hbl,hc,hcs⟩:=(HM.out.uses.later HB.out).str k hlt
   have HF:=hid (zzi m k hlt);have hns:=zb3 (HC.out.ok.uses m.uses[k] (List.getElem_mem _));generalize strOf (trl (X1 m k))=S at *;generalize m.uses[k]=nm at *;go_wp2_with fail;go_roundw
   case rel=>exact ⟨k+1,by omega,by go_num,by rw [HF.out],HB.out,HBk.out⟩
   case measure=>simp [intOf];omega
 obtain rfl:k=m.uses.length:=by omega
 have HE1:=hid (zzj m);clear hlt hk;go_wp2_with fail
 go_loopw [5,3,6] (fun i s _ wr=>∃ k:Nat,k<=m.decls.length/\i = .int .i64 k/\s = .string (strOf (trl (X2 m k)))/\Below w.heap.size w wr/\Blk wr w.heap.size [.string m.name,.slice a1 m.uses.length c1,.slice a2 m.decls.length c2,.slice a3 m.procs.length c3,.slice a4 m.main.length c4]) (fun i _ _ _=>m.decls.length - (intOf i).toNat)
 case atStart=>exact ⟨0,Nat.zero_le _,rfl,by rw [HE1.out],HB.out,HBk.out⟩
 case round=>
 obtain ⟨k,hk,rfl,rfl,hb,hB⟩:=hrel;clear HB HBk q0 q1 q2 q3 q4 q5 HE1 hsz;have HB:=hid hb;have HBk:=hid hB;obtain ⟨q0,q1,q2,q3,q4,q5⟩:=hB.c5;obtain ⟨rest,hpre⟩:=z05 m k;have hsz:=HSz.out _ _ hpre;clear hpre hb hB
 by_cases hlt:k<m.decls.length
 . obtain ⟨b,off,rfl,hx⟩:=(HM.out.decls.later HB.out).de k hlt
   have hc0:=hx.c0;have hc1:=hx.c1;have hc2:=hx.c2;have hc3:=hx.c3;have hlb:=hx.lt;obtain ⟨hnm,hsk,hk1,hk3⟩:=HC.out.ok.decls m.decls[k] (List.getElem_mem _);have hns:=zb3 hnm
   have hHm:0<=m.decls[k].n/\m.decls[k].n<=1099511627775:=by
    unfold zc7 ze8 at hsk
    split at hsk
    . simp at hsk;exact hsk
    split at hsk
    . simp at hsk;omega
    . simp at hsk;omega
   clear hx hnm hsk
   have hcase:m.decls[k].kind=1\/m.decls[k].kind=2\/m.decls[k].kind=3:=by omega
   clear hk1 hk3
   rcases hcase with hkind | hkind | hkind
   . focus
      obtain ⟨n,hn⟩:∃ n:Nat,m.decls[k].n=n:=⟨m.decls[k].n.toNat,by omega⟩
      have HF:=hid (zxj m k hlt hkind)
      have hdl:(strOf (Lib.decDigits n)).size<=13:=by rw [zbr];exact Lx.dec_len_tok 12 _ (by omega)
      have HDg:=hid (fun W:World=>zfo n W (by omega));rw [hn] at hc3;rw [hn,show ((n:Int)).toNat=n from by omega] at HF;rw [hkind] at hc0;generalize strOf (trl (X2 m k))=S at *;generalize strOf (Lib.decDigits n)=Sd at *;generalize m.decls[k].name=nm at *;generalize m.decls[k].pub=pb at *;clear hkind hn hHm
      obtain ⟨W0,hW0⟩:∃ W0,W0=wr.alloc (.cells #[.int .i64 1,.string nm,.bool pb,.int .i64 (n:Int)] 58):=⟨_,rfl⟩
      have hB0:Below wr.heap.size wr W0:=by rw [hW0];exact al1 _ _
      have hK0:W0.heap[wr.heap.size]? = some (.cells #[.int .i64 1,.string nm,.bool pb,.int .i64 (n:Int)] 58 (0,0)):=by rw [hW0];exact heap_newP _ _
      go_wp2_with fail;refine (zmt pb _).mono ?_;have hps:=zgz pb;generalize strOf (trl (pubT pb))=Sp at *;rintro e w2 ⟨rfl,rfl⟩;go_wp2_with fail;rw [← hW0];have HB1:=hid (hB0.drew);have HK1:Hid (W0.drew.heap[wr.heap.size]? = some (.cells #[.int .i64 1,.string nm,.bool pb,.int .i64 (n:Int)] 58 (0,0))):=hK0;have FF:=hid (zq1 HK1.out);clear hW0 hB0 hK0
      go_region_held (fun W=>W.cell? ⟨wr.heap.size,1,none⟩=some (.string nm)/\W.cell? ⟨wr.heap.size,3,none⟩=some (.int .i64 (n:Int))) (exact FF.out)
       (first
       | (go_at_call 91;refine (HDg.out _).mono ?_;rintro e w3 ⟨rfl,hb3⟩;have HB3:=hid (zab HB1.out hb3);have HK3:=hid ((hb3.block _ (zac HK1.out)).trans HK1.out);have FF:=hid (zq1 HK3.out);clear hb3))
      all_goals
       go_wp2_with fail;go_roundw
       case rel=>exact ⟨k+1,by omega,by go_num,by rw [HF.out],zab HB.out HB3.out,HBk.out.later HB3.out⟩
       case measure=>simp [intOf];omega
   . focus
      have HF:=hid (z08 m k hlt hkind);rw [hkind] at hc0;clear hkind hHm;generalize strOf (trl (X2 m k))=S at *;generalize m.decls[k].name=nm at *;generalize m.decls[k].pub=pb at *;generalize m.decls[k].n=n at *;go_wp2_with fail;refine (zmt pb _).mono ?_;have hps:=zgz pb;generalize strOf (trl (pubT pb))=Sp at *;rintro e w2 ⟨rfl,rfl⟩;go_wp2_with fail;go_roundw
      case rel=>exact ⟨k+1,by omega,by go_num,by rw [HF.out],zab HB.out (al1 _ _),HBk.out.later (al1 _ _)⟩
      case measure=>simp [intOf];omega
   . focus
      obtain ⟨n,hn⟩:∃ n:Nat,m.decls[k].n=n:=⟨m.decls[k].n.toNat,by omega⟩
      have HF:=hid (zxk m k hlt hkind)
      have hdl:(strOf (Lib.decDigits n)).size<=13:=by rw [zbr];exact Lx.dec_len_tok 12 _ (by omega)
      have HDg:=hid (fun W:World=>zfo n W (by omega));rw [hn] at hc3;rw [hn,show ((n:Int)).toNat=n from by omega] at HF;rw [hkind] at hc0;generalize strOf (trl (X2 m k))=S at *;generalize strOf (Lib.decDigits n)=Sd at *;generalize m.decls[k].name=nm at *;generalize m.decls[k].pub=pb at *;clear hkind hn hHm
      obtain ⟨W0,hW0⟩:∃ W0,W0=wr.alloc (.cells #[.int .i64 3,.string nm,.bool pb,.int .i64 (n:Int)] 58):=⟨_,rfl⟩
      have hB0:Below wr.heap.size wr W0:=by rw [hW0];exact al1 _ _
      have hK0:W0.heap[wr.heap.size]? = some (.cells #[.int .i64 3,.string nm,.bool pb,.int .i64 (n:Int)] 58 (0,0)):=by rw [hW0];exact heap_newP _ _
      go_wp2_with fail;refine (zmt pb _).mono ?_;have hps:=zgz pb;generalize strOf (trl (pubT pb))=Sp at *;rintro e w2 ⟨rfl,rfl⟩;go_wp2_with fail;rw [← hW0];have HB1:=hid (hB0.drew);have HK1:Hid (W0.drew.heap[wr.heap.size]? = some (.cells #[.int .i64 3,.string nm,.bool pb,.int .i64 (n:Int)] 58 (0,0))):=hK0;have FF:=hid (zq1 HK1.out);clear hW0 hB0 hK0
      go_region_held (fun W=>W.cell? ⟨wr.heap.size,1,none⟩=some (.string nm)/\W.cell? ⟨wr.heap.size,3,none⟩=some (.int .i64 (n:Int))) (exact FF.out)
       (first
       | (go_at_call 91;refine (HDg.out _).mono ?_;rintro e w3 ⟨rfl,hb3⟩;have HB3:=hid (zab HB1.out hb3);have HK3:=hid ((hb3.block _ (zac HK1.out)).trans HK1.out);have FF:=hid (zq1 HK3.out);clear hb3))
      all_goals
       go_wp2_with fail;go_roundw
       case rel=>exact ⟨k+1,by omega,by go_num,by rw [HF.out],zab HB.out HB3.out,HBk.out.later HB3.out⟩
       case measure=>simp [intOf];omega
 obtain rfl:k=m.decls.length:=by omega
 have HE1:=hid (zzk m);clear hlt hk;go_wp2_with fail
 go_loopw [7,3,8,9,10] (fun i s _ _ _ wr=>∃ k:Nat,k<=m.procs.length/\i = .int .i64 k/\s = .string (strOf (trl (X3 m k)))/\Below w.heap.size w wr/\Blk wr w.heap.size [.string m.name,.slice a1 m.uses.length c1,.slice a2 m.decls.length c2,.slice a3 m.procs.length c3,.slice a4 m.main.length c4]) (fun i _ _ _ _ _=>m.procs.length - (intOf i).toNat)
 case atStart=>exact ⟨0,Nat.zero_le _,rfl,by rw [HE1.out],HB.out,HBk.out⟩
 case round=>
 obtain ⟨k,hk,rfl,rfl,hb,hB⟩:=hrel;clear HB HBk q0 q1 q2 q3 q4 q5 HE1 hsz;have HB:=hid hb;have HBk:=hid hB;obtain ⟨q0,q1,q2,q3,q4,q5⟩:=hB.c5;obtain ⟨rest,hpre⟩:=z06 m k;have hsz:=HSz.out _ _ hpre;clear hpre hb hB
 by_cases hlt:k<m.procs.length
 . obtain ⟨wo,rfl⟩:∃ wo:World,wo=wr:=⟨wr,rfl⟩
   obtain ⟨b,off,b1,d1,b2,d2,b3,d3,rfl,hx⟩:=(HM.out.procs.later HB.out).pr k hlt;have hc0:=hx.c0;have hc1:=hx.c1;have hc2:=hx.c2;have hc3:=hx.c3;have hc4:=hx.c4;have hlb:=hx.lt;have HPa:=hid hx.params;have HLo:=hid hx.locals;have HBo:=hid hx.body;have HOk:=hid (HC.out.ok.procs m.procs[k] (List.getElem_mem _));have HPl:=hid (HC.out.pars m.procs[k] (List.getElem_mem _));obtain ⟨hbt,hbz⟩:=HC.out.body m.procs[k] (List.getElem_mem _);have HBt:=hid (hbt A b3 d3);have HEnd:=hid (z1a m k hlt);have hns:=zb3 HOk.out.1;have hp3:=HPl.out.1;have hp4:=HPl.out.2;clear hx hbt;generalize m.procs[k]=p at *
   have HZ1:Hid (∀ i,(strOf (P1 (X3 m k) p i)).size<=28000000001000):=fun i=>zzo hsz HOk.out.1 HOk.out.2.1 hp3
   have HZ2:Hid (∀ i,(strOf (P2 (X3 m k) p i)).size<=28000000001000):=fun i=>zzp hsz HOk.out.1 HOk.out.2.1 HOk.out.2.2.1 hp3 hp4
   have HF0:=hid (zzl (X3 m k) p);have HX:=hid (rfl:X3 m k=X3 m k);generalize X3 m k=x3 at *;generalize strOf (trl x3)=S at *
   obtain ⟨W0,hW0⟩:∃ W0,W0=wo.alloc (.cells #[.string p.name,.bool p.pub,.slice b1 p.params.length d1,.slice b2 p.locals.length d2,.slice b3 p.body.length d3] 60):=⟨_,rfl⟩
   have hB0:Below wo.heap.size wo W0:=by rw [hW0];exact al1 _ _
   have hK0:W0.heap[wo.heap.size]? = some (.cells #[.string p.name,.bool p.pub,.slice b1 p.params.length d1,.slice b2 p.locals.length d2,.slice b3 p.body.length d3] 60 (0,0)):=by rw [hW0];exact heap_newP _ _
   have HPb:=hid (fun W:World=>zmt p.pub W);have hps:=zgz p.pub;generalize strOf (trl (pubT p.pub))=Sp at *;go_wp2_with fail;rw [← hW0];have HB1:=hid (hB0.drew);have HK1:Hid (W0.drew.heap[wo.heap.size]? = some (.cells #[.string p.name,.bool p.pub,.slice b1 p.params.length d1,.slice b2 p.locals.length d2,.slice b3 p.body.length d3] 60 (0,0))):=hK0;have FF:=hid (z1b HK1.out);clear hW0 hB0 hK0
   go_region_held (fun W=>W.cell? ⟨wo.heap.size,0,none⟩=some (.string p.name)/\W.cell? ⟨wo.heap.size,1,none⟩=some (.bool p.pub)) (exact FF.out)
    (first
    | (go_at_call 95;refine (HPb.out _).mono ?_;rintro e w3 ⟨rfl,rfl⟩))
   have HBo1:=hid (zab HB.out HB1.out);have HBkM:=hid (HBk.out.later HB1.out);have HBkP:=hid (Blk.of5 HK1.out);have HPa1:=hid (HPa.out.later HB1.out);have HLo1:=hid (HLo.out.later HB1.out);have HBd1:=hid (HBo.out.later HB1.out);clear HB1 HK1 FF HB HBk HPa HLo HBo hc0 hc1 hc2 hc3 hc4 hlb q0 q1 q2 q3 q4 q5;generalize W0.drew=W1 at *;generalize wo.heap.size=D at *;go_wp2_with fail
   go_loopw [9,3] (fun i s wr=>∃ k:Nat,k<=p.params.length/\i = .int .i64 k/\s = .string (strOf (P1 x3 p k))/\wr=W1) (fun i _ _=>p.params.length - (intOf i).toNat)
   case atStart=>exact ⟨0,Nat.zero_le _,rfl,by rw [HF0.out],rfl⟩
   case round=>
   obtain ⟨i,hi,rfl,rfl,hwr⟩:=hrel;obtain rfl:=hwr.symm;obtain ⟨q0,q1,q2,q3,q4,q5⟩:=HBkP.out.c5;have hz1:=HZ1.out i
   by_cases hlti:i<p.params.length
   . obtain ⟨bp,offp,rfl,hbl,hc,hcs⟩:=HPa1.out.str i hlti
     have hnp:=zb3 (HOk.out.2.1 p.params[i] (List.getElem_mem _))
     by_cases h0:i=0
     . have HF:=hid (zxl x3 p i hlti h0)
       have h0':¬ 0<i:=by omega
       clear h0 HF0;generalize strOf (P1 x3 p i)=S1 at *;generalize p.params[i]=nm at *;go_wp2_with fail;go_roundw
       case rel=>exact ⟨i+1,by omega,by go_num,by rw [HF.out],by first | rfl | trivial⟩
       case measure=>simp [intOf];omega
     . have h0':0<i:=by omega
       have HF:=hid (zzm x3 p i hlti h0');clear h0 HF0;generalize strOf (P1 x3 p i)=S1 at *;generalize p.params[i]=nm at *;go_wp2_with fail;go_roundw
       case rel=>exact ⟨i+1,by omega,by go_num,by rw [HF.out],by first | rfl | trivial⟩
       case measure=>simp [intOf];omega
   obtain rfl:i=p.params.length:=by omega
   have HF:=hid (z09 x3 p);clear hlti hi HF0;generalize strOf (P1 x3 p p.params.length)=S1 at *;go_wp2_with fail
   go_loopw [10,3] (fun i s wr=>∃ k:Nat,k<=p.locals.length/\i = .int .i64 k/\s = .string (strOf (P2 x3 p k))/\wr=W1) (fun i _ _=>p.locals.length - (intOf i).toNat)
   case atStart=>exact ⟨0,Nat.zero_le _,rfl,by rw [HF.out],rfl⟩
   case round=>
   obtain ⟨i,hi,rfl,rfl,hwr⟩:=hrel;obtain rfl:=hwr.symm;have hz2:=HZ2.out i
   by_cases hlti:i<p.locals.length
   . obtain ⟨bp,offp,rfl,hbl,hc,hcs⟩:=HLo1.out.str i hlti
     have hnp:=zb3 (HOk.out.2.2.1 p.locals[i] (List.getElem_mem _));have HF2:=hid (zzn x3 p i hlti);clear HF;generalize strOf (P2 x3 p i)=S2 at *;generalize p.locals[i]=nm at *;go_wp2_with fail;go_roundw
     case rel=>exact ⟨i+1,by omega,by go_num,by rw [HF2.out],by first | rfl | trivial⟩
     case measure=>simp [intOf];omega
   obtain rfl:i=p.locals.length:=by omega
   clear hlti hi HF;generalize strOf (P2 x3 p p.locals.length)=S2 at *;generalize strOf (showL (brT (tSs p.body)))=S3 at *;go_wp2_with fail;refine (HBt.out _ HBd1.out).mono ?_;rintro e w5 ⟨rfl,hb5⟩;go_wp2_with fail;go_roundw
   case rel=>exact ⟨k+1,by omega,by go_num,by rw [HEnd.out],zab HBo1.out hb5,HBkM.out.later hb5⟩
   case measure=>simp [intOf];omega
 obtain rfl:k=m.procs.length:=by omega
 have HF:=hid (z07 m);have HBd:=hid (HC.out.main A a4 c4);have hzb:=HC.out.mains;clear hlt hk;generalize strOf (trl (X3 m m.procs.length))=S at *;generalize strOf (showL (brT (tSs m.main)))=S2 at *;go_wp2_with fail;refine (HBd.out _ (HM.out.main.later HB.out)).mono ?_;rintro e w2 ⟨rfl,hb2⟩;go_wp2_with fail;go_ret;exact ⟨zbu HF.out,zab HB.out hb2⟩
end Go.Proofs.YtcekpobmbmnplaaGreatDoor

namespace Go.Proofs.YtcekpobmbmnplaaGreatDoor
set_option maxRecDepth 100000
set_option maxHeartbeats 800000
open Go.RowKit Go.Maps
theorem sx {α:Type}:(∀ (l:List α) (i:Nat) (x:α),l.toArray.setIfInBounds i x=(l.set i x).toArray)/\(∀ (l:List α) (x y:α),(x :: l).set 0 y=y :: l)/\(∀ (l:List α) (x y:α) (n:Nat),(x :: l).set (n+1) y=x :: l.set n y):=
 ⟨fun _ _ _=>List.setIfInBounds_toArray ..,fun _ _ _=>rfl,fun _ _ _ _=>rfl⟩
theorem zqe (w:World) (t:TypeId) (n:Nat) (hn:n=w.heap.size):∀ j (h:j<kept.length),(w.alloc (.cells (kept.map (fun s=>Value.string (strOf s))).toArray t)).cell? ⟨n,j,none⟩=some (.string (strOf kept[j])):=by
 subst hn;intro j hj;exact (Blk.new w _ t).cell j _ (by simp [hj])
theorem zvx (w:World) :
 Calls Tryz.prog 80 #[] w fun e w'=>∃ b,e = .returned (.slice (some ⟨b,0,none⟩) 15 15)/\b<w'.heap.size/\(∀ j (h:j<kept.length),w'.cell? ⟨b,j,none⟩=some (.string (strOf kept[j])))/\Below w.heap.size w w':=by
 have HW:=hid (zqe w 9 w.heap.size rfl);go_enter Tryz.func80,Tryz.ntmps80;go_wp2_with fail;go_ret;exact ⟨_,rfl,by simp,HW.out,al1 _ _⟩
theorem zz7 (s t:ByteArray):(s.toList == t.toList)=(t.data.toList == s.data.toList):=by
 rw [Lib.toList_data,Lib.toList_data,Bool.eq_iff_iff];simp only [beq_iff_eq];exact ⟨Eq.symm,Eq.symm⟩
theorem zdk (s:ByteArray) (w:World) (hs:s.size<=maxLen) :
 Calls Tryz.prog 43 #[.string s] w fun e w'=>e = .returned (.bool (zae s))/\Below w.heap.size w w':=by
 have hkl:kept.length=15:=rfl;go_enter Tryz.func43,Tryz.ntmps43;go_wp2_with fail;refine (zvx _).mono ?_;rintro e w1 ⟨b,rfl,hbl,hc,hb1⟩;have HC:=hid hc;clear hc;go_wp2_with fail
 go_loopw [4] (fun i wr=>∃ k:Nat,k<=15/\i = .int .i64 k/\(kept.take k).contains s.data.toList=false/\wr=w1) (fun i _=>15 - (intOf i).toNat)
 case atStart=>exact ⟨0,by omega,rfl,rfl,rfl⟩
 case round=>
  obtain ⟨k,hk,rfl,hn,hwr⟩:=hrel;obtain rfl:=hwr.symm;have HN:=hid hn;clear hn
  by_cases hlt:k<15
  . have hc:=HC.out k (by omega)
    have HS:Hid ((kept.take (k+1)).contains s.data.toList=((kept.take k).contains s.data.toList||(s.data.toList == kept[k]'(by omega)))):=by
     show _=_
     rw [List.take_succ_eq_append_getElem (by omega),List.contains_append];simp only [List.contains_cons,List.contains_nil,Bool.or_false]
    have HE:Hid (((strOf (kept[k]'(by omega))).toList == s.toList)=(s.data.toList == kept[k]'(by omega))):=by
     show _=_;rw [zz7,zdh]
    cases he:((strOf (kept[k]'(by omega))).toList == s.toList) with
    | true=>
      have HT:Hid (zae s=false):=by
       have h1:=HE.out;rw [he] at h1
       have h2:s.data.toList=kept[k]'(by omega):=by simpa using h1.symm
       show _=_
       have h3:zjf s=true:=by
        unfold zjf
        rw [h2];simp
       simp [zae,h3]
      generalize strOf (kept[k]'(by omega))=sk at *;go_wp2_with fail;go_ret;exact ⟨zaa HT.out.symm,hb1⟩
    | false=>
      have HT:Hid ((kept.take (k+1)).contains s.data.toList=false):=by
       show _=_
       rw [HS.out,HN.out,← HE.out,he];rfl
      clear HS HE;generalize strOf (kept[k]'(by omega))=sk at *;go_wp2_with fail;go_roundw
      case rel=>exact ⟨k+1,by omega,by go_num,HT.out,by first | rfl | trivial⟩
      case measure=>simp [intOf];omega
  . have HT:Hid (zae s=Lx.nameB s.data.toList):=by
     have h1:=HN.out;rw [List.take_of_length_le (by omega)] at h1;show _=_;have h3:zjf s=false:=h1;simp [zae,h3]
    go_wp2_with fail;refine (zfm s _ hs).mono ?_;rintro e w2 ⟨rfl,rfl⟩;go_wp2_with fail;go_ret;exact ⟨zaa HT.out.symm,hb1⟩
def zd0 (mod name:ByteArray):Bool:=(mod.toList.isEmpty||zae mod)&&zae name
theorem zqf (mod name:ByteArray) (w:World) (h1:mod.size<=maxLen) (h2:name.size<=maxLen) :
 Calls Tryz.prog 113 #[.string mod,.string name] w fun e w'=>e = .returned (.bool (zd0 mod name))/\Below w.heap.size w w':=by
 cases hm:mod.toList.isEmpty with
 | true=>
   have HR:Hid (zd0 mod name=zae name):=by show _=_;simp [zd0,hm]
   go_enter Tryz.func113,Tryz.ntmps113;go_wp2_with fail;refine (zdk name _ h2).mono ?_;rintro e w1 ⟨rfl,hb1⟩;go_wp2_with fail;go_ret;exact ⟨zaa HR.out.symm,hb1⟩
 | false=>
   cases hn:zae mod with
   | false=>
     have HR:Hid (zd0 mod name=false):=by show _=_;simp [zd0,hm,hn]
     go_enter Tryz.func113,Tryz.ntmps113;go_wp2_with fail;refine (zdk mod _ h1).mono ?_;rw [hn];rintro e w1 ⟨rfl,hb1⟩;go_wp2_with fail;go_ret;exact ⟨zaa HR.out.symm,hb1⟩
   | true=>
     have HR:Hid (zd0 mod name=zae name):=by show _=_;simp [zd0,hn]
     go_enter Tryz.func113,Tryz.ntmps113;go_wp2_with fail;refine (zdk mod _ h1).mono ?_;rw [hn];rintro e w1 ⟨rfl,hb1⟩;go_wp2_with fail;refine (zdk name _ h2).mono ?_;rintro e w2 ⟨rfl,hb2⟩;go_wp2_with fail;go_ret;exact ⟨zaa HR.out.symm,zab hb1 hb2⟩
def inB (n lo hi:Int):Bool:=decide (lo<=n)&&decide (n<=hi)
theorem zqg (op:Int) (w:World):Calls Tryz.prog 128 #[.int .i64 op] w fun e w'=>e = .returned (.bool (inB op 3 5))/\w'=w:=by
 go_enter Tryz.func128,Tryz.ntmps128
 go_wp2_with (go_at_call 44;refine (zeu op 3 5 _).mono ?_;rintro e w' ⟨rfl,rfl⟩)
 go_ret;exact ⟨rfl,rfl⟩
theorem zqh (op:Int) (w:World):Calls Tryz.prog 112 #[.int .i64 op] w fun e w'=>e = .returned (.bool (inB op 1 3))/\w'=w:=by
 go_enter Tryz.func112,Tryz.ntmps112
 go_wp2_with (go_at_call 44;refine (zeu op 1 3 _).mono ?_;rintro e w' ⟨rfl,rfl⟩)
 go_ret;exact ⟨rfl,rfl⟩
def exN (op:Int):Int:=if op=1\/op=2\/op=3 then 0 else if op=4\/op=6 then 1 else if op=5 then -1 else 2
def stN (op:Int):Int:=if op=2 then 2 else if op=3 then -1 else 1
theorem zot (op:Int) (w:World):Calls Tryz.prog 114 #[.int .i64 op] w fun e w'=>e = .returned (.int .i64 (stN op))/\w'=w:=by
 by_cases h2:op=2
 . subst h2
   go_enter Tryz.func114,Tryz.ntmps114;go_wp2_with fail;go_ret;exact ⟨rfl,rfl⟩
 . have b2:(op == 2)=false:=beq_eq_false_iff_ne.2 h2
   by_cases h3:op=3
   . subst h3
     go_enter Tryz.func114,Tryz.ntmps114;go_wp2_with fail;go_ret;exact ⟨rfl,rfl⟩
   . have b3:(op == 3)=false:=beq_eq_false_iff_ne.2 h3
     have HR:Hid (stN op=1):=by show _=_;simp [stN,h2,h3]
     go_enter Tryz.func114,Tryz.ntmps114;go_wp2_with fail;go_ret;exact ⟨zcp HR.out.symm,rfl⟩
theorem zou (op:Int) (w:World):Calls Tryz.prog 129 #[.int .i64 op] w fun e w'=>e = .returned (.int .i64 (exN op))/\w'=w:=by
 by_cases h:op=1\/op=2\/op=3\/op=4\/op=5\/op=6
 . rcases h with rfl | rfl | rfl | rfl | rfl | rfl
   all_goals go_enter Tryz.func129,Tryz.ntmps129
   all_goals go_wp2_with fail
   all_goals go_ret
   all_goals exact ⟨rfl,rfl⟩
 . have b1:(op == 1)=false:=beq_eq_false_iff_ne.2 (by omega)
   have b2:(op == 2)=false:=beq_eq_false_iff_ne.2 (by omega);have b3:(op == 3)=false:=beq_eq_false_iff_ne.2 (by omega);have b4:(op == 4)=false:=beq_eq_false_iff_ne.2 (by omega);have b5:(op == 5)=false:=beq_eq_false_iff_ne.2 (by omega);have b6:(op == 6)=false:=beq_eq_false_iff_ne.2 (by omega)
   have HR:Hid (exN op=2):=by
    show _=_;unfold exN;rw [if_neg (by omega),if_neg (by omega),if_neg (by omega)]
   clear h;go_enter Tryz.func129,Tryz.ntmps129;go_wp2_with fail;go_ret;exact ⟨zcp HR.out.symm,rfl⟩
end Go.Proofs.YtcekpobmbmnplaaGreatDoor
