import Derived.Test.YtndkhgakfodldaaGreatDoorCe
import Derived.BigQuiet
namespace Go.Proofs.YtndkhgakfodldaaGreatDoor
set_option maxRecDepth 100000
set_option maxHeartbeats 800000
open Go.RowKit
structure Keeps (R:Nat) (w w':World):Prop where
 os:w'.os=w.os
 tape:w'.tape=w.tape
 output:w'.output=w.output
 size:w.heap.size<=w'.heap.size
 block:∀ k,k<w.heap.size->k≠R->w'.heap[k]? = w.heap[k]?
theorem Keeps.refl (R:Nat) (w:World):Keeps R w w:=⟨rfl,rfl,rfl,vaa _,fun _ _ _=>rfl⟩
theorem Keeps.trans {R:Nat} {a b c:World} (h:Keeps R a b) (k:Keeps R b c):Keeps R a c:=
 ⟨k.os.trans h.os,k.tape.trans h.tape,k.output.trans h.output,vbc h.size k.size,fun i h1 h2=>(k.block i (vah h1 h.size) h2).trans (h.block i h1 h2)⟩
theorem Keeps.of_below {w w':World} (h:qb w w') (R:Nat):Keeps R w w':=⟨h.os,h.tape,h.output,h.size,fun k h1 _=>h.block k h1⟩
theorem Keeps.setCell (R:Nat) (w:World) (j:Nat) (u:Value):Keeps R w (w.setCell (qa R j) u):=
 ⟨rfl,rfl,rfl,by rw [vaq];exact vaa _,fun k _ h2=>Below.heap_setCell w (qa R j) u k h2⟩
theorem Keeps.stays {R lo:Nat} {w w':World} (h:Keeps R w w') (hR:R<lo):zfx lo w w':=⟨h.size,fun k h1 h2=>h.block k h2 (by omega)⟩
theorem Keeps.cell {R:Nat} {w w':World} (h:Keeps R w w') {b off:Nat} (h1:b<w.heap.size) (h2:b≠R):w'.cell? (qa b off)=w.cell? (qa b off):=
 vei (w:=w) (h.block b h1 h2)
theorem Keeps.later {R:Nat} {w w1 w2:World} (h:Keeps R w w1) (hb:qb w1 w2):Keeps R w w2:=h.trans (Keeps.of_below hb R)
theorem Keeps.alloc {R:Nat} {w w1:World} (h:Keeps R w w1) (o:Obj):Keeps R w (w1.alloc o):=h.later ((Below.refl _ _).alloc (vaa _) o)
theorem Keeps.own {R:Nat} {w w1:World} (h:Keeps R w w1) (j:Nat) (u:Value):Keeps R w (w1.setCell (qa R j) u):=h.trans (Keeps.setCell R w1 j u)
theorem Keeps.set {R:Nat} {w w1:World} (h:Keeps R w w1) {p:Addr} (hp:w.heap.size<=p.block) (u:Value):Keeps R w (w1.setCell p u):=
 ⟨h.os,h.tape,h.output,by rw [vaq];exact h.size,fun k h1 h2=>(Below.heap_setCell w1 p u k (by omega)).trans (h.block k h1 h2)⟩
structure Rd (R:Nat) (a:OA) (cap:Nat) (ts:List Tk) (w:World) (l:List Tk):Prop where
 idx:∃ k:Nat,k<=ts.length/\l=ts.drop k/\w.heap[R]? = some (.cells #[.slice a ts.length cap,qi k] 239 (0,0))
 toks:zc2 w a ts
 ne:ts=[]\/∀ b off,a=some (qa b off)->b≠R
 len:ts.length<=4096
theorem zc2.keeps {R:Nat} {w w':World} {a:OA} {ts:List Tk} (h:zc2 w a ts) (hk:Keeps R w w') (Ak:ts=[]\/∀ b off,a=some (qa b off)->b≠R):zc2 w' a ts:=by
 rcases Ak with h0 | Ak
 . exact Or.inl h0
 rcases h with h | ⟨b,off,ha,h⟩
 . exact Or.inl h
 . have hb:=Ak b off ha
   have hl:=h.lt;exact Or.inr ⟨b,off,ha,vah hl hk.size,fun i hi=>(hk.cell hl hb).trans (h.kind i hi),fun i hi=>(hk.cell hl hb).trans (h.num i hi),fun i hi=>(hk.cell hl hb).trans (h.text i hi),h.fits⟩
section
variable {R cap:Nat} {a:OA} {ts l:List Tk} {w w':World}
theorem Rd.lt (h:Rd R a cap ts w l):R<w.heap.size:=by obtain ⟨k,_,_,hb⟩:=h.idx;exact lt_of_heap hb
theorem Rd.later (h:Rd R a cap ts w l) (hb:qb w w'):Rd R a cap ts w' l:=by
 obtain ⟨k,h1,h2,h3⟩:=h.idx;exact ⟨⟨k,h1,h2,(hb.block R (lt_of_heap h3)).trans h3⟩,h.toks.later hb,h.ne,h.len⟩
theorem Rd.at_ {l':List Tk} {j:Nat} (h:Rd R a cap ts w l) (hk:Keeps R w w') (hj:j<=ts.length) (hl:l'=ts.drop j) (hb:w'.heap[R]? = some (.cells #[.slice a ts.length cap,qi j] 239 (0,0))):Rd R a cap ts w' l':=
 ⟨⟨j,hj,hl,hb⟩,h.toks.keeps hk h.ne,h.ne,h.len⟩
theorem Rd.still (h:Rd R a cap ts w l) (hk:Keeps R w w') (hb:w'.heap[R]? = w.heap[R]?):Rd R a cap ts w' l:=by
 obtain ⟨k,h1,h2,h3⟩:=h.idx;exact ⟨⟨k,h1,h2,hb.trans h3⟩,h.toks.keeps hk h.ne,h.ne,h.len⟩
theorem Rd.set (h:Rd R a cap ts w l) {p:Addr} (hp:p.block≠R) (ht:∀ b off,a=some (qa b off)->p.block≠b) (u:Value):Rd R a cap ts (w.setCell p u) l:=by
 obtain ⟨k,h1,h2,h3⟩:=h.idx;refine ⟨⟨k,h1,h2,(Below.heap_setCell w p u R (Ne.symm hp)).trans h3⟩,?_,h.ne,h.len⟩
 rcases h.toks with h4 | ⟨b,off,ha,h4⟩
 . exact Or.inl h4
 . have e:∀ j,(w.setCell p u).cell? (qa b j)=w.cell? (qa b j):=fun j=>vei (w:=w) (Below.heap_setCell w p u b (Ne.symm (ht b off ha)))
   exact Or.inr ⟨b,off,ha,by rw [vaq];exact h4.lt,fun i hi=>(e _).trans (h4.kind i hi),fun i hi=>(e _).trans (h4.num i hi),fun i hi=>(e _).trans (h4.text i hi),h4.fits⟩
theorem Rd.alloc (h:Rd R a cap ts w l) (o:Obj):Rd R a cap ts (w.alloc o) l:=h.later ((Below.refl _ _).alloc (vaa _) o)
theorem Rd.setAbove {w0:World} {l0:List Tk} (h:Rd R a cap ts w l) (h0:Rd R a cap ts w0 l0) {p:Addr} (hp:w0.heap.size<=p.block) (u:Value):Rd R a cap ts (w.setCell p u) l:=by
 refine ⟨?_,?_,h.ne,h.len⟩
 . obtain ⟨k,h1,h2,h3⟩:=h.idx
   exact ⟨k,h1,h2,(Below.heap_setCell w p u R (by have:=lt_of_heap h0.idx.choose_spec.2.2;omega)).trans h3⟩
 rcases h0.toks with h4 | ⟨b,off,ha,h4⟩
 . exact Or.inl h4
 . rcases h.toks with h5 | ⟨b',C7,CZ,h5⟩
   . exact Or.inl h5
   . have eq:b'=b:=by rw [ha] at CZ;injection CZ with CZ;injection CZ with e1 e2;exact e1.symm
     subst eq
     have e:∀ j,(w.setCell p u).cell? (qa b' j)=w.cell? (qa b' j):=fun j=>vei (w:=w) (Below.heap_setCell w p u b' (by have:=h4.lt;omega))
     exact Or.inr ⟨b',C7,CZ,by rw [vaq];exact h5.lt,fun i hi=>(e _).trans (h5.kind i hi),fun i hi=>(e _).trans (h5.num i hi),fun i hi=>(e _).trans (h5.text i hi),h5.fits⟩
theorem Rd.adv {k:Nat} (h:Rd R a cap ts w (ts.drop k)) (hk:k<ts.length) (hb:w.heap[R]? = some (.cells #[.slice a ts.length cap,qi k] 239 (0,0))) :
 Rd R a cap ts (w.setCell (qa R 1) (qi ((k:Int)+1))) (ts.drop (k+1)):=by
 refine ⟨⟨k+1,by omega,rfl,?_⟩,h.toks.keeps (Keeps.setCell R w 1 _) h.ne,h.ne,h.len⟩;simp [World.setCell,Array.getElem?_modify,hb]
end
theorem zqq (R cap n:Nat) (a:OA) (ts l:List Tk) (w:World) (hn:n<=1) (h:Rd R a cap ts w l) :
 qc 252 #[pq R 0,qi n] w fun e w'=>e = .returned (Tk.val (l.getD n noTk))/\qb w w':=by
 obtain ⟨k,hk,rfl,hb⟩:=h.idx
 have Ct:w.cell? (qa R 0)=some (.slice a ts.length cap):=by rw [vef hb];rfl
 have Be:w.cell? (qa R 1)=some (qi k):=by rw [vef hb];rfl
 have A4:=h.lt;have Ah:=h.len
 by_cases KB:k+n<ts.length
 . have HV:Hid (Tk.val ((ts.drop k).getD n noTk) = .agg #[qi ts[k+n].kind,qi ts[k+n].n,.string ts[k+n].text]):=by
    show Tk.val _=_;rw [vay,vae (by rw [vbv];omega),Option.getD_some,vds]
    rfl
   obtain ⟨b,off,rfl,hT⟩:=h.toks.place KB;have FQ:=hT.kind (k+n) KB;have C6:=hT.num (k+n) KB;have Do:=hT.text (k+n) KB;have Au:=hT.lt;clear hT h hb;go_enter Tryz.func252,Tryz.ntmps252;go_wp2_with fail
   go_quiet ((fail))
   go_wp2_with fail
   go_region
   go_wp2_with fail;refine bodyPost_ret (v:=.agg #[qi ts[k+n].kind,qi ts[k+n].n,.string ts[k+n].text]) (by simp [results,Tryz.results252,go_sem]) rfl ⟨by rw [HV.out],?_⟩;exact (((below_drewN ((Below.refl _ _).alloc (vaa _) _) _).setCell (p:=(qa w.heap.size 0)) (vaa _) _).setCell (p:=(qa w.heap.size 1)) (vaa _) _).setCell (p:=(qa w.heap.size 2)) (vaa _) _
 . have HV:Hid (Tk.val ((ts.drop k).getD n noTk) = .agg #[qi 0,qi 0,.string ⟨#[]⟩]):=by
    show Tk.val _=_;rw [vay,vbq (by rw [vbv];omega)]
    rfl
   clear h hb;go_enter Tryz.func252,Tryz.ntmps252;go_wp2_with fail
   go_quiet ((fail))
   go_wp2_with fail;refine bodyPost_ret (v:=.agg #[qi 0,qi 0,.string ⟨#[]⟩]) (by simp [results,Tryz.results252,go_sem]) rfl ⟨by rw [HV.out],?_⟩;exact (((below_drewN ((Below.refl _ _).alloc (vaa _) _) _).setCell (p:=(qa w.heap.size 0)) (vaa _) _).setCell (p:=(qa w.heap.size 1)) (vaa _) _).setCell (p:=(qa w.heap.size 2)) (vaa _) _
set_option maxHeartbeats 1600000
theorem z5g {ts:List Tk} {k:Nat} (h:k<ts.length):hd (ts.drop k)=ts[k]:=by
 unfold hd;rw [vay,vae (by rw [vbv];omega),Option.getD_some,vds]
 rfl
theorem z33 {ts:List Tk} {k:Nat} (h:¬ k<ts.length):hd (ts.drop k)=noTk:=by
 rw [vct (by omega)];rfl
theorem z82 {ts:List Tk} {k:Nat} {t:ByteArray} (ht:0<t.size) (h:skB (ts.drop k) t=true):k<ts.length:=by
 by_cases hk:k<ts.length
 . exact hk
 . unfold skB at h
   rw [z33 hk,vax,vax] at h
   have:t.data.toList=[]:=by simpa [noTk] using (beq_iff_eq.1 h).symm
   have:=Lx.zaz t;simp_all
theorem zqr (R cap:Nat) (a:OA) (ts l:List Tk) (w:World) (h:Rd R a cap ts w l) :
 qc 252 #[pq R 0,qi 0] w fun e w'=>e = .returned (.agg #[qi (hd l).kind,qi (hd l).n,.string (hd l).text])/\qb w w':=
 zqq R cap 0 a ts l w (by omega) h
theorem z34 (k n:Int) (t:ByteArray):∀ w:World,(Instr.field 184 (.agg #[qi k,qi n,.string t]) 0).run Tryz.prog w = .ok (qi k) w:=fun _=>by kernel_rfl
theorem zup (k n:Int) (t:ByteArray):∀ w:World,(Instr.field 184 (.agg #[qi k,qi n,.string t]) 2).run Tryz.prog w = .ok (.string t) w:=fun _=>by kernel_rfl
theorem zbl (R cap:Nat) (a:OA) (ts l:List Tk) (t:ByteArray) (w:World) (ht:0<t.size) (h:Rd R a cap ts w l) (hs:skB l t=true) :
 qc 197 #[pq R 0,.string t] w fun e w'=>e = .returned (.bool true)/\Rd R a cap ts w' l.tail/\Keeps R w w':=by
 obtain ⟨k,hk,rfl,hb⟩:=h.idx;have A4:=z82 ht hs;have HR:Hid (Rd R a cap ts w (ts.drop k)):=h;have HA:Hid (qc 252 #[pq R 0,qi 0] w fun e w'=>e = .returned (.agg #[qi (hd (ts.drop k)).kind,qi (hd (ts.drop k)).n,.string (hd (ts.drop k)).text])/\qb w w'):=zqr R cap a ts (ts.drop k) w h
 have HT:Hid ((ts.drop k).tail=ts.drop (k+1)):=by show List.tail _=_;rw [List.tail_drop]
 have EN:=h.len;have EF:((hd (ts.drop k)).text.toList == t.toList)=true:=hs;have HB:Hid (w.heap[R]? = some (.cells #[.slice a ts.length cap,qi k] 239 (0,0))):=hb;clear h hs hb;generalize hd (ts.drop k)=T at *;have Er:=zup T.kind T.n T.text;go_enter Tryz.func197,Tryz.ntmps197;go_wp2_with fail;refine HA.out.mono ?_;rintro e w1 ⟨rfl,A6⟩;have A7:Hid (w1.heap[R]? = some (.cells #[.slice a ts.length cap,qi k] 239 (0,0))):=(A6.block R HR.out.lt).trans HB.out
 have Be:w1.cell? (qa R 1)=some (qi k):=by rw [vef A7.out];rfl
 have DT:w1.frozen? (qa R 1)=false:=veg A7.out 1;clear HA;go_wp2_with fail;go_ret;refine ⟨rfl,?_,(Keeps.of_below A6 R).trans (Keeps.setCell R w1 1 _)⟩;rw [HT.out];exact (HR.out.later A6).adv A4 A7.out
theorem zb2 (R cap:Nat) (a:OA) (ts l:List Tk) (t:ByteArray) (w:World) (h:Rd R a cap ts w l) (hs:skB l t=false) :
 qc 197 #[pq R 0,.string t] w fun e w'=>e = .returned (.bool false)/\Rd R a cap ts w' l/\Keeps R w w':=by
 have HR:Hid (Rd R a cap ts w l):=h;have HA:Hid (qc 252 #[pq R 0,qi 0] w fun e w'=>e = .returned (.agg #[qi (hd l).kind,qi (hd l).n,.string (hd l).text])/\qb w w'):=zqr R cap a ts l w h;have EF:((hd l).text.toList == t.toList)=false:=hs;clear h hs;generalize hd l=T at *;have Er:=zup T.kind T.n T.text;go_enter Tryz.func197,Tryz.ntmps197;go_wp2_with fail;refine HA.out.mono ?_;rintro e w1 ⟨rfl,A6⟩;clear HA;go_wp2_with fail;go_ret;exact ⟨rfl,HR.out.later A6,Keeps.of_below A6 R⟩
theorem take_any (R cap:Nat) (a:OA) (ts l:List Tk) (w:World) (h:Rd R a cap ts w l) :
 qc 251 #[pq R 0] w fun e w'=>e = .returned (.agg #[qi (hd l).kind,qi (hd l).n,.string (hd l).text])/\(l≠[]->Rd R a cap ts w' l.tail)/\Keeps R w w':=by
 obtain ⟨k,hk,rfl,hb⟩:=h.idx;have HR:Hid (Rd R a cap ts w (ts.drop k)):=h;have EN:=h.len
 have HN:Hid (ts.drop k≠[]->k<ts.length):=fun Ak=>by
  by_cases hk:k<ts.length
  . exact hk
  . exact absurd (vct (by omega)) Ak
 have HT:Hid ((ts.drop k).tail=ts.drop (k+1)):=by show List.tail _=_;rw [List.tail_drop]
 have HB:Hid (w.heap[R]? = some (.cells #[.slice a ts.length cap,qi k] 239 (0,0))):=hb
 have HA:Hid (∀ w:World,Rd R a cap ts w (ts.drop k)->qc 252 #[pq R 0,qi 0] w fun e w'=>e = .returned (.agg #[qi (hd (ts.drop k)).kind,qi (hd (ts.drop k)).n,.string (hd (ts.drop k)).text])/\qb w w'):=fun w h=>zqr R cap a ts (ts.drop k) w h
 clear h hb;generalize hd (ts.drop k)=T at *;go_enter Tryz.func251,Tryz.ntmps251;go_wp2_with fail;refine (HA.out _ (HR.out.later ((Below.refl _ _).alloc (vaa _) _))).mono ?_;rintro e w1 ⟨rfl,A6⟩;have EV:qb w w1:=((Below.refl _ _).alloc (vaa _) _).trans (A6.mono (by simp));have PX:=HR.out.lt;have An:=A6.size;simp at An;have A7:Hid (w1.heap[R]? = some (.cells #[.slice a ts.length cap,qi k] 239 (0,0))):=(EV.block R PX).trans HB.out
 have Be:w1.cell? (qa R 1)=some (qi k):=by rw [vef A7.out];rfl
 have DT:w1.frozen? (qa R 1)=false:=veg A7.out 1;have Gk:w1.heap[w.heap.size]? = some (.cells #[qi 0,qi 0,.string ⟨#[]⟩] 184):=(A6.block w.heap.size (by simp)).trans (_root_.Go.heap_alloc_new w _)
 have FQ:w1.cell? (qa w.heap.size 0)=some (qi 0):=by rw [vef Gk];rfl
 have C6:w1.cell? (qa w.heap.size 1)=some (qi 0):=by rw [vef Gk];rfl
 have Do:w1.cell? (qa w.heap.size 2)=some (.string ⟨#[]⟩):=by rw [vef Gk];rfl
 have On:w1.frozen? (qa w.heap.size 0)=false:=veg Gk 0;have M3:w1.frozen? (qa w.heap.size 1)=false:=veg Gk 1;have DR:w1.frozen? (qa w.heap.size 2)=false:=veg Gk 2;clear Gk
 have Bh:R<w1.heap.size:=by omega
 have PT:w.heap.size<w1.heap.size:=by omega
 have Ak:w.heap.size≠R:=by omega
 go_wp2_with fail;refine bodyPost_ret (v:=.agg #[qi T.kind,qi T.n,.string T.text]) (by simp [results,Tryz.results251,go_sem,FQ,C6,Do,PT]) rfl ⟨rfl,fun LG=>?_,?_⟩
 . rw [HT.out]
   exact (((((HR.out.later EV).adv (HN.out LG) A7.out).setAbove HR.out (vaa _) _).setAbove HR.out (vaa _) _).setAbove HR.out (vaa _) _).alloc _
 . exact ((((Keeps.of_below EV R).own 1 _).set (vaa _) _).set (vaa _) _).set (vaa _) _ |>.alloc _
theorem zkw (s:ByteArray) (w:World) :
 qc 237 #[.string s] w fun e w'=>e = .returned (.bool (zn3 s))/\w'=w:=by
 go_enter Tryz.func237,Tryz.ntmps237;go_wp2_with fail
 all_goals go_ret
 all_goals exact ⟨ret_bool (by simp_all [zn3,z4j]),rfl⟩
def zd4 {α:Type} (R:Nat) (a:OA) (cap:Nat) (ts:List Tk) (w:World) (r:Option (α × List Tk)) (AD:α->World->Value->Prop) (e:Ending) (w':World):Prop:=
 Keeps R w w'/\((r=none/\e = .panicked zag)\/∃ x l v,r=some (x,l)/\e = .returned v/\AD x w' v/\Rd R a cap ts w' l)
theorem Rd.fit {R cap:Nat} {a:OA} {ts l:List Tk} {w:World} (h:Rd R a cap ts w l):(hd l).text.size<=maxLen:=by
 obtain ⟨k,hk,rfl,hb⟩:=h.idx
 by_cases A4:k<ts.length
 . rw [z5g A4]
   obtain ⟨b,off,_,hT⟩:=h.toks.place A4;exact hT.fits k A4
 . rw [z33 A4];exact vag _
theorem zbv (R cap:Nat) (a:OA) (ts l:List Tk) (w:World) (h:Rd R a cap ts w l) :
 qc 196 #[pq R 0] w (zd4 R a cap ts w (zde l) fun x _ v=>v = .string x/\x.size<=maxLen):=by
 have HT:Hid (qc 251 #[pq R 0] w fun e w'=>e = .returned (.agg #[qi (hd l).kind,qi (hd l).n,.string (hd l).text])/\(l≠[]->Rd R a cap ts w' l.tail)/\Keeps R w w'):=take_any R cap a ts l w h;have HF:Hid ((hd l).text.size<=maxLen):=h.fit;go_enter Tryz.func196,Tryz.ntmps196;go_wp2_with fail;refine HT.out.mono ?_;rintro e w1 ⟨rfl,AZ,AF⟩
 by_cases hk:(hd l).kind=1
 . have HN:Hid (zde l=if !zn3 (hd l).text then some ((hd l).text,l.tail) else none):=by show zde l=_;unfold zde;simp [hk]
   have HL:Hid (l≠[]):=zj8 (by rw [hk];decide)
   by_cases hp:zn3 (hd l).text=true
   . go_wp2_with (go_at_call 237;refine (zkw _ _).mono ?_;rintro e w' ⟨rfl,rfl⟩)
     exact ⟨rfl,AF.alloc _,Or.inl ⟨by rw [HN.out,hp];rfl,rfl⟩⟩
   . have GJ:zn3 (hd l).text=false:=by simpa using hp
     clear hp
     go_wp2_with (go_at_call 237;refine (zkw _ _).mono ?_;rintro e w' ⟨rfl,rfl⟩)
     go_ret;exact ⟨AF.alloc _,Or.inr ⟨_,_,_,by rw [HN.out,GJ];rfl,rfl,⟨rfl,HF.out⟩,(AZ HL.out).alloc _⟩⟩
 . have HN:Hid (zde l=none):=by show zde l=_;unfold zde;simp [hk]
   go_wp2_with fail;exact ⟨rfl,AF.alloc _,Or.inl ⟨HN.out,rfl⟩⟩
theorem zg9 (R cap:Nat) (a:OA) (ts l:List Tk) (w:World) (h:Rd R a cap ts w l) :
 qc 253 #[pq R 0] w (zd4 R a cap ts w (pNum l) fun x _ v=>v=qi x):=by
 have HT:Hid (qc 251 #[pq R 0] w fun e w'=>e = .returned (.agg #[qi (hd l).kind,qi (hd l).n,.string (hd l).text])/\(l≠[]->Rd R a cap ts w' l.tail)/\Keeps R w w'):=take_any R cap a ts l w h;go_enter Tryz.func253,Tryz.ntmps253;go_wp2_with fail;refine HT.out.mono ?_;rintro e w1 ⟨rfl,AZ,AF⟩
 by_cases hk:(hd l).kind=2
 . have HN:Hid (pNum l=some ((hd l).n,l.tail)):=by show pNum l=_;unfold pNum;simp [hk]
   have HL:Hid (l≠[]):=zj8 (by rw [hk];decide);go_wp2_with fail;go_ret;exact ⟨AF.alloc _,Or.inr ⟨_,_,_,HN.out,rfl,rfl,(AZ HL.out).alloc _⟩⟩
 . have HN:Hid (pNum l=none):=by show pNum l=_;unfold pNum;simp [hk]
   go_wp2_with fail;exact ⟨rfl,AF.alloc _,Or.inl ⟨HN.out,rfl⟩⟩
theorem zy5 {α:Type} {p:α->Bool}:∀ {l:List α},(l.take l.length).all (fun x=>!p x)=true->l.find? p=none:=by
 intro l h;rw [vau] at h;rw [List.find?_eq_none];intro x hx;have:=vas.1 h x hx;simpa using this
theorem zst {α:Type} {p:α->Bool}:∀ {l:List α} {k:Nat} (hk:k<l.length),(l.take k).all (fun x=>!p x)=true->p l[k]=true->l.find? p=some l[k]
 | [],k,hk,_,_=>by simp at hk
 | x :: r,0,hk,_,h=>by simp at h;simp [h]
 | x :: r,k+1,hk,ha,h=>by
   simp only [List.take_succ_cons,vcr,vac] at ha
   have hx:p x=false:=by simpa using ha.1
   rw [vcq,hx];exact zst (by simpa using hk) ha.2 h
theorem zjy (R cap b c:Nat) (a:OA) (ts l:List Tk) (At:List ByteArray) (w:World) (h:Rd R a cap ts w l) (hb:b<w.heap.size) (Mj:b≠R) (hn:At.length<=100)
 (hc:∀ i (h:i<At.length),w.cell? (qa b i)=some (.string At[i])) (hp:∀ i (h:i<At.length),0<At[i].size) :
 qc 195 #[pq R 0,.slice (some (qa b 0)) At.length c] w (zd4 R a cap ts w ((zjg l At).map fun t=>(t,l.tail)) fun x _ v=>v = .string x):=by
 have HR:Hid (Rd R a cap ts w l):=h;have HC:Hid (∀ i (h:i<At.length),w.cell? (qa b i)=some (.string At[i])):=hc;have HP:Hid (∀ i (h:i<At.length),0<At[i].size):=hp;clear h hc hp;go_enter Tryz.func195,Tryz.ntmps195;go_wp2_with fail
 go_loopw [9,6] (fun i _ wr=>∃ k:Nat,k<=At.length/\i=qi k/\(At.take k).all (fun t=>!skB l t)=true/\Rd R a cap ts wr l/\Keeps R w wr) (fun i _ _=>At.length - (intOf i).toNat)
 case atStart=>exact ⟨0,vag _,rfl,rfl,HR.out,Keeps.refl _ _⟩
 case round=>
  obtain ⟨k,hk,rfl,A8,Dc,Bf⟩:=hrel;have HA:Hid ((At.take k).all (fun t=>!skB l t)=true):=A8;have HD:Hid (Rd R a cap ts wr l):=Dc;clear A8 Dc
  by_cases A4:k<At.length
  . have Gl:wr.cell? (qa b k)=some (.string At[k]):=(Bf.cell hb Mj).trans (HC.out k A4)
    by_cases hs:skB l At[k]=true
    . have HS:Hid (qc 197 #[pq R 0,.string At[k]] wr fun e w'=>e = .returned (.bool true)/\Rd R a cap ts w' l.tail/\Keeps R wr w'):=zbl R cap a ts l At[k] wr (HP.out k A4) HD.out hs
      have HM:Hid (zjg l At=some At[k]):=zst A4 HA.out hs
      go_wp2_with (go_at_call 197;refine HS.out.mono ?_;rintro e w2 ⟨rfl,Ao,AL⟩)
      go_ret;exact ⟨Bf.trans AL,Or.inr ⟨_,_,_,by rw [HM.out];rfl,rfl,rfl,Ao⟩⟩
    . have EF:skB l At[k]=false:=by simpa using hs
      have HS:Hid (qc 197 #[pq R 0,.string At[k]] wr fun e w'=>e = .returned (.bool false)/\Rd R a cap ts w' l/\Keeps R wr w'):=zb2 R cap a ts l At[k] wr HD.out EF
      go_wp2_with (go_at_call 197;refine HS.out.mono ?_;rintro e w2 ⟨rfl,Ao,AL⟩)
      go_roundw
      case rel=>exact ⟨k+1,by omega,by go_num,by rw [all_snoc At _ k A4,HA.out,EF];rfl,Ao,Bf.trans AL⟩
      case measure=>simp [intOf];omega
  . have LX:k=At.length:=by omega
    subst LX;have HM:Hid (zjg l At=none):=zy5 HA.out;go_wp2_with fail;exact ⟨rfl,Bf,Or.inl ⟨by rw [HM.out];rfl,rfl⟩⟩
theorem zfk (R cap n:Nat) (a:OA) (ts l:List Tk) (t:ByteArray) (w:World) (hn:n=w.heap.size) (h:Rd R a cap ts w l) (ht:0<t.size) :
 qc 195 #[pq R 0,.slice (some (qa n 0)) 1 1] (w.alloc (.cells #[.string t] 9)) fun e w'=>Keeps R w w'/\((skB l t=false/\e = .panicked zag)\/(skB l t=true/\e = .returned (.string t)/\Rd R a cap ts w' l.tail)):=by
 have A4:=h.lt;subst hn;refine (zjy R cap w.heap.size 1 a ts l [t] _ (h.alloc _) (by simp) (by omega) (by simp) (fun i hi=>?_) (fun i hi=>?_)).mono ?_
 . obtain rfl:i=0:=by simp at hi;omega
   simp
 . obtain rfl:i=0:=by simp at hi;omega
   exact ht
 . rintro e w' ⟨hk,hr⟩
   refine ⟨((Keeps.refl R w).alloc _).trans hk,?_⟩
   have hm:zjg l [t]=if skB l t then some t else none:=by unfold zjg;rw [vcq];cases skB l t<;>rfl
   rw [hm] at hr
   cases hs:skB l t
   . rw [hs] at hr
     rcases hr with ⟨_,rfl⟩ | ⟨x,l',v,hr,_⟩
     . exact Or.inl ⟨rfl,rfl⟩
     . simp at hr
   . rw [hs] at hr
     rcases hr with ⟨hr,_⟩ | ⟨x,l',v,hr,rfl,rfl,hR⟩
     . simp at hr
     . simp at hr
       obtain ⟨rfl,rfl⟩:=hr;exact Or.inr ⟨rfl,rfl,hR⟩
theorem zos (R cap:Nat) (a:OA) (ts l:List Tk) (t:ByteArray) (w:World) (ht:0<t.size) (h:Rd R a cap ts w l) :
 qc 197 #[pq R 0,.string t] w fun e w'=>e = .returned (.bool (skB l t))/\Rd R a cap ts w' (if skB l t then l.tail else l)/\Keeps R w w':=by
 cases hs:skB l t
 . exact zb2 R cap a ts l t w h hs
 . exact zbl R cap a ts l t w ht h hs
set_option maxHeartbeats 800000
theorem heap_set {w:World} {b i:Nat} {cs:Array Value} {t:TypeId} {f:Nat × Nat} (h:w.heap[b]? = some (.cells cs t f)) (u:Value):(w.setCell (qa b i) u).heap[b]? = some (.cells (cs.setIfInBounds i u) t f):=by
 simp [World.setCell,Array.getElem?_modify,h]
theorem heap_set_ne {w:World} {b:Nat} {p:Addr} (h:b≠p.block) (u:Value):(w.setCell p u).heap[b]? = w.heap[b]?:=Below.heap_setCell w p u b h
theorem zab {w:World} {b:Nat} {x o:Obj} (h:w.heap[b]? = some x):(w.alloc o).heap[b]? = some x:=((Below.refl w.heap.size w).alloc (vaa _) o |>.block b (lt_of_heap h)).trans h
theorem heap_newP (w:World) (o:Obj):(w.alloc o).heap[w.heap.size]? = some o:=_root_.Go.heap_alloc_new w o
theorem zaa {w:World} {b:Nat} {x0 x1 x2 x3 x4:Value} {t:TypeId} (h:w.heap[b]? = some (.cells #[x0,x1,x2,x3,x4] t (0,0))) :
 w.cell? (qa b 0)=some x0/\w.cell? (qa b 1)=some x1/\w.cell? (qa b 2)=some x2/\w.cell? (qa b 3)=some x3/\w.cell? (qa b 4)=some x4/\∀ i,w.frozen? (qa b i)=false:=by
 refine ⟨?_,?_,?_,?_,?_,fun i=>veg h i⟩<;>(rw [vef h];rfl)
theorem zam {w:World} {b:Nat} {x0 x1 x2 x3 x4 x5:Value} {t:TypeId} (h:w.heap[b]? = some (.cells #[x0,x1,x2,x3,x4,x5] t (0,0))) :
 w.cell? (qa b 0)=some x0/\w.cell? (qa b 1)=some x1/\w.cell? (qa b 2)=some x2/\w.cell? (qa b 3)=some x3/\w.cell? (qa b 4)=some x4/\w.cell? (qa b 5)=some x5/\∀ i,w.frozen? (qa b i)=false:=by
 refine ⟨?_,?_,?_,?_,?_,?_,fun i=>veg h i⟩<;>(rw [vef h];rfl)
theorem zcj {w:World} {b:Nat} {x0 x1 x2 x3:Value} {t:TypeId} (h:w.heap[b]? = some (.cells #[x0,x1,x2,x3] t (0,0))) :
 w.cell? (qa b 0)=some x0/\w.cell? (qa b 1)=some x1/\w.cell? (qa b 2)=some x2/\w.cell? (qa b 3)=some x3/\∀ i,w.frozen? (qa b i)=false:=by
 refine ⟨?_,?_,?_,?_,fun i=>veg h i⟩<;>(rw [vef h];rfl)
theorem zad.keeps {R:Nat} {w w1 w2:World} {A A':Nat->Prop} (h:zad w A w1 A') (hk:Keeps R w1 w2) (hR:∀ b,b<w.heap.size->A b->b≠R):zad w A w2 A':=
 ⟨vbc h.1 hk.size,fun b hb ha=>⟨(h.2 b hb ha).1,(hk.block b (vah hb h.1) (hR b hb ha)).trans (h.2 b hb ha).2⟩⟩
theorem zad.set {w w1:World} {A A':Nat->Prop} (h:zad w A w1 A') {p:Addr} (hp:∀ b,b<w.heap.size->A b->b≠p.block) (u:Value):zad w A (w1.setCell p u) A':=
 ⟨by rw [vaq];exact h.1,fun b hb ha=>⟨(h.2 b hb ha).1,(Below.heap_setCell w1 p u b (hp b hb ha)).trans (h.2 b hb ha).2⟩⟩
theorem zad.to {w w1:World} {lo lo':Nat} (h:zad w (lo<=·) w1 (lo<=·)) (hl:lo'<=lo):zad w (lo<=·) w1 (lo'<=·):=h.trans (zad.lower hl)
theorem Keeps.drew {R:Nat} {w w1:World} (h:Keeps R w w1):Keeps R w w1.drew:=⟨h.os,h.tape,h.output,h.size,h.block⟩
theorem Rd.drew {R cap:Nat} {a:OA} {ts l:List Tk} {w:World} (h:Rd R a cap ts w l):Rd R a cap ts w.drew l:=h.still (Keeps.refl R w).drew rfl
theorem zad.drew {w w1:World} {A A':Nat->Prop} (h:zad w A w1 A'):zad w A w1.drew A':=⟨h.1,h.2⟩
abbrev set5 (w:World) (b:Nat) (v0 v1 v2 v3 v4:Value):World:=((((w.setCell (qa b 0) v0).setCell (qa b 1) v1).setCell (qa b 2) v2).setCell (qa b 3) v3).setCell (qa b 4) v4
abbrev set6 (w:World) (b:Nat) (v0 v1 v2 v3 v4 v5:Value):World:=(set5 w b v0 v1 v2 v3 v4).setCell (qa b 5) v5
section
variable {R cap b:Nat} {w w0 w1:World} {a:OA} {ts l l0:List Tk} {A A':Nat->Prop}
theorem Keeps.set5 (h:Keeps R w w1) (hp:w.heap.size<=b) (v0 v1 v2 v3 v4:Value):Keeps R w (set5 w1 b v0 v1 v2 v3 v4):=((((h.set hp v0).set hp v1).set hp v2).set hp v3).set hp v4
theorem Keeps.set6 (h:Keeps R w w1) (hp:w.heap.size<=b) (v0 v1 v2 v3 v4 v5:Value):Keeps R w (set6 w1 b v0 v1 v2 v3 v4 v5):=(h.set5 hp v0 v1 v2 v3 v4).set hp v5
theorem Rd.set5 (h:Rd R a cap ts w1 l) (h0:Rd R a cap ts w0 l0) (hp:w0.heap.size<=b) (v0 v1 v2 v3 v4:Value):Rd R a cap ts (set5 w1 b v0 v1 v2 v3 v4) l:=((((h.setAbove h0 hp v0).setAbove h0 hp v1).setAbove h0 hp v2).setAbove h0 hp v3).setAbove h0 hp v4
theorem Rd.set6 (h:Rd R a cap ts w1 l) (h0:Rd R a cap ts w0 l0) (hp:w0.heap.size<=b) (v0 v1 v2 v3 v4 v5:Value):Rd R a cap ts (set6 w1 b v0 v1 v2 v3 v4 v5) l:=(h.set5 h0 hp v0 v1 v2 v3 v4).setAbove h0 hp v5
theorem zad.set5 (h:zad w A w1 A') (hp:∀ k,k<w.heap.size->A k->k≠b) (v0 v1 v2 v3 v4:Value):zad w A (set5 w1 b v0 v1 v2 v3 v4) A':=((((h.set hp v0).set hp v1).set hp v2).set hp v3).set hp v4
theorem zad.set6 (h:zad w A w1 A') (hp:∀ k,k<w.heap.size->A k->k≠b) (v0 v1 v2 v3 v4 v5:Value):zad w A (set6 w1 b v0 v1 v2 v3 v4 v5) A':=(h.set5 hp v0 v1 v2 v3 v4).set hp v5
end
def zgs (A:Nat->Prop) (x:Ex) (w:World) (v:Value):Prop:=∃ a cap,v = .agg #[qi x.op,qi x.n,.string x.mod,.string x.name,.slice a x.args.length cap]/\x.mod.size<=maxLen/\x.name.size<=maxLen/\EAt w A a x.args.length (zbo x.args)
def zfl (x:Ex) (a:OA) (cap:Nat):List Value:=[qi x.op,qi x.n,.string x.mod,.string x.name,.slice a x.args.length cap]
theorem zfm {A:Nat->Prop} {x:Ex} {w:World} {a:OA} {cap:Nat} (h1:x.mod.size<=maxLen) (h2:x.name.size<=maxLen) (h3:EAt w A a x.args.length (zbo x.args)):zau w A x.ds (zfl x a cap):=by
 cases x
 unfold Ex.ds;exact .cons zpw (.cons zpw (.cons (zw9 h1) (.cons (zw9 h2) (.cons h3.val .nil))))
theorem zkx {A A':Nat->Prop} {x:Ex} {w w':World} {a:OA} {cap g:Nat} {t:TypeId} (h1:x.mod.size<=maxLen) (h2:x.name.size<=maxLen) (h3:EAt w A a x.args.length (zbo x.args))
 (hm:zad w A w' A') (hg:w'.heap[g]? = some (.cells #[qi x.op,qi x.n,.string x.mod,.string x.name,.slice a x.args.length cap] t (0,0))) (hA:A' g):EAt w' A' (some (qa g 0)) 1 (zbo [x]):=by
 rw [zjz];refine Or.inr ⟨g,0,zfl x a cap,rfl,hA,lt_of_heap hg,fun j u hj=>?_,zfm h1 h2 (h3.moves hm)⟩;rw [vba,vef hg];simpa [zfl] using hj
theorem z7h {A B A':Nat->Prop} {x y:Ex} {w u w':World} {a b:OA} {cap dap g:Nat} {t:TypeId} (h:x.mod.size<=maxLen/\x.name.size<=maxLen/\EAt w A a x.args.length (zbo x.args)) (k:y.mod.size<=maxLen/\y.name.size<=maxLen/\EAt u B b y.args.length (zbo y.args))
 (hm:zad w A w' A') (km:zad u B w' A') (hg:w'.heap[g]? = some (.cells #[qi x.op,qi x.n,.string x.mod,.string x.name,.slice a x.args.length cap,qi y.op,qi y.n,.string y.mod,.string y.name,.slice b y.args.length dap] t (0,0))) (hA:A' g):EAt w' A' (some (qa g 0)) 2 (zbo [x,y]):=by
 have e:zbo [x,y]=x.ds++y.ds:=by simp [zbo]
 rw [e];refine Or.inr ⟨g,0,zfl x a cap++zfl y b dap,rfl,hA,lt_of_heap hg,fun j u hj=>?_,(zfm h.1 h.2.1 (h.2.2.moves hm)).append (zfm k.1 k.2.1 (k.2.2.moves km))⟩;rw [vba,vef hg];simpa [zfl] using hj
theorem zy6 (R cap:Nat) (a:OA) (ts l:List Tk) (w:World) (h:Rd R a cap ts w l) :
 qc 294 #[pq R 0] w (zd4 R a cap ts w (zw7 l) fun x _ v=>v = .tuple #[.string x.1,.string x.2]/\x.1.size<=maxLen/\x.2.size<=maxLen):=by
 have HN:Hid (qc 196 #[pq R 0] w (zd4 R a cap ts w (zde l) fun x _ v=>v = .string x/\x.size<=maxLen)):=zbv R cap a ts l w h;clear h;go_enter Tryz.func294,Tryz.ntmps294;go_wp2_with fail;refine HN.out.mono ?_;rintro e w1 ⟨AF,⟨hn,rfl⟩ | ⟨x,l1,v,hn,rfl,⟨rfl,hx⟩,AZ⟩⟩
 . exact ⟨rfl,AF,Or.inl ⟨by unfold zw7;rw [hn],rfl⟩⟩
 have Eu:Hid (zde l=some (x,l1)):=hn;have HD:Hid (Rd R a cap ts w1 l1):=AZ;clear HN hn AZ;go_wp2_with fail
 by_cases hs:skB l1 z4i=true
 . refine (zbl R cap a ts l1 z4i w1 (by decide) HD.out hs).mono ?_
   rintro e w2 ⟨rfl,Ao,AL⟩;go_wp2_with fail;refine (zbv R cap a ts l1.tail w2 Ao).mono ?_;rintro e w3 ⟨Am,⟨Fq,rfl⟩ | ⟨y,l3,v,Fq,rfl,⟨rfl,hy⟩,Aq⟩⟩
   . exact ⟨rfl,(AF.trans AL).trans Am,Or.inl ⟨by unfold zw7;rw [Eu.out];simp only [];rw [if_pos hs,Fq],rfl⟩⟩
   go_wp2_with fail;go_ret2;exact ⟨(AF.trans AL).trans Am,Or.inr ⟨(x,y),l3,_,by unfold zw7;rw [Eu.out];simp only [];rw [if_pos hs,Fq],rfl,⟨rfl,hx,hy⟩,Aq⟩⟩
 . have EF:skB l1 z4i=false:=by simpa using hs
   refine (zb2 R cap a ts l1 z4i w1 HD.out EF).mono ?_;rintro e w2 ⟨rfl,Ao,AL⟩;go_wp2_with fail;go_ret2;exact ⟨AF.trans AL,Or.inr ⟨(⟨#[]⟩,x),l1,_,by unfold zw7;rw [Eu.out];simp only [];rw [if_neg hs],rfl,⟨rfl,vag _,hx⟩,Ao⟩⟩
theorem zy7 (l:List Tk):(zjg l opTexts=none/\zxf l=none)\/∃ k:Nat,∃ h:k<opTexts.length,zjg l opTexts=some opTexts[k]/\zxf l=some k:=by
 unfold zxf zjg
 cases hf:opTexts.findIdx? (fun t=>skB l t) with
 | none=>
   left
   rw [vcx] at hf;refine ⟨List.find?_eq_none.2 fun x hx=>by simpa using hf x hx,rfl⟩
 | some k=>
   right
   obtain ⟨hk,h2,h3⟩:=vbo.1 hf;refine ⟨k,hk,?_,rfl⟩;refine zst hk ?_ h2;rw [vas];intro x hx;obtain ⟨j,hj,rfl⟩:=List.mem_take_iff_getElem.1 hx
   have Qu:j<k:=by omega
   simpa using h3 j Qu
abbrev opSigns:ByteArray:=⟨#[38,124,43,45,42,47,37,61,60]⟩
theorem zy8 (w:World):qc 298 #[.string opSigns,.string ⟨#[]⟩] w fun e w'=>∃ b,e = .returned (.slice (some (qa b 0)) 9 9)/\w.heap.size<=b/\b<w'.heap.size/\(∀ i (h:i<opTexts.length),w'.cell? (qa b i)=some (.string opTexts[i]))/\qb w w':=by
 have Dt:∀ (j:Nat) b,opSigns.data.toList[j]? = some b->b.toNat<128:=by
  intro j b hj;have hm:=vdh hj
  have A8:∀ x ∈ opSigns.data.toList,x.toNat<128:=by decide
  exact A8 b hm
 refine (Tryz.strings_Split_chars opSigns ⟨#[]⟩ w rfl (by decide) Dt).mono ?_;rintro e w' ⟨rfl,rfl⟩;refine ⟨_,rfl,by simp [World.iter],by simp [World.iter],fun i hi=>?_,?_⟩
 . have e9:Lib.charsB opSigns=opTexts:=by decide +kernel
   rw [e9,vef (heap_newP _ _)];simp [hi]
 . exact ((Below.refl w.heap.size w).alloc (vaa _) _).alloc (by simp) _
theorem z11 (R cap b:Nat) (a:OA) (ts l:List Tk) (w:World) (h:Rd R a cap ts w l) (hb:b<w.heap.size) (Mj:b≠R) (hc:∀ i (h:i<opTexts.length),w.cell? (qa b i)=some (.string opTexts[i])) :
 qc 195 #[pq R 0,.slice (some (qa b 0)) 9 9] w fun e w'=>Keeps R w w'/\((zxf l=none/\e = .panicked zag)\/∃ (k:Nat) (c:UInt8),zxf l=some k/\k<9/\Lib.indexByte opSigns.data.toList c=k/\e = .returned (.string ⟨#[c]⟩)/\Rd R a cap ts w' l.tail):=by
 refine (zjy R cap b 9 a ts l opTexts w h hb Mj (by decide) hc (by decide)).mono ?_;rintro e w' ⟨hk,hr⟩;refine ⟨hk,?_⟩
 rcases zy7 l with ⟨hm,ho⟩ | ⟨k,hk,hm,ho⟩
 . rw [hm] at hr
   rcases hr with ⟨_,rfl⟩ | ⟨_,_,_,h0,_⟩
   . exact Or.inl ⟨ho,rfl⟩
   . cases h0
 . rw [hm] at hr
   rcases hr with ⟨h0,_⟩ | ⟨t3,l3,v3,h0,rfl,rfl,Aq⟩
   . cases h0
   . obtain ⟨rfl,rfl⟩:=vao (vab h0)
     right
     have hs:∀ k (h:k<opTexts.length),∃ c:UInt8,opTexts[k]=⟨#[c]⟩/\Lib.indexByte opSigns.data.toList c=k:=by
      intro k hk;have Fu:k<9:=hk
      obtain rfl | rfl | rfl | rfl | rfl | rfl | rfl | rfl | rfl:k=0\/k=1\/k=2\/k=3\/k=4\/k=5\/k=6\/k=7\/k=8:=by omega
      all_goals exact ⟨_,rfl,by decide +kernel⟩
     obtain ⟨c,Be,BU⟩:=hs k hk;exact ⟨k,c,ho,hk,BU,by rw [Be],Aq⟩
theorem Tryz.infoP80:(Tryz.prog.info? 174).map (fun i=>(i.zero,i.size,i.bytes))=some (some (.agg #[qi 0,qi 0,.string ⟨#[]⟩,.string ⟨#[]⟩,qs]),5,72):=by kernel_rfl
theorem Tryz.infoP48:(Tryz.prog.info? 176).map (fun i=>(i.zero,i.size,i.bytes))=some (some (.agg #[qi 0,.string ⟨#[]⟩,.string ⟨#[]⟩,qs,qs,qs]),6,112):=by kernel_rfl
theorem Tryz.infoP56:(Tryz.prog.info? 170).map (fun i=>(i.zero,i.size,i.bytes))=some (some (.agg #[qi 0,.string ⟨#[]⟩,.bool false,qi 0]),4,40):=by kernel_rfl
theorem Tryz.infoP60:(Tryz.prog.info? 118).map (fun i=>(i.zero,i.size,i.bytes))=some (some (.agg #[.string ⟨#[]⟩,.bool false,qs,qs,qs]),5,96):=by kernel_rfl
theorem Tryz.infoP9:(Tryz.prog.info? 9).map (fun i=>(i.zero,i.size,i.bytes))=some (some (.string ⟨#[]⟩),1,16):=by kernel_rfl
theorem zy9 {R:Nat} {w w':World} {base:Nat} {e:TypeId} {size:Nat} {v:Value} {n:Nat} {xs:List Value} (h:w.ownsRow base e size v n xs) (hk:Keeps R w w') (hR:R<base):w'.ownsRow base e size v n xs:=by
 refine ⟨h.1,?_⟩
 rcases h.2 with h2 | ⟨g,cap,AC,h1,hb,hg,hr⟩
 . exact Or.inl h2
 . exact Or.inr ⟨g,cap,AC,h1,hb,(hk.block g (lt_of_heap hg) (by omega)).trans hg,hr⟩
def zes (lo:Nat) (v:Value) (b:Nat):Prop:=lo<=b/\v.ownBlock≠some b
def Row (base:Nat) (e:TypeId) (size:Nat) (w:World) (v:Value) (n:Nat) (ds:List D):Prop:=∃ xs,w.ownsRow base e size v n xs/\zau w (zes base v) ds xs
section
variable {base:Nat} {e:TypeId} {size:Nat} {w w':World} {v:Value} {n R:Nat} {ds:List D}
theorem Row.nil (base:Nat) (e:TypeId) (size:Nat) (w:World):Row base e size w (qs) 0 []:=⟨[],vek _ _ _ _,.nil⟩
theorem Row.keeps (h:Row base e size w v n ds) (hk:Keeps R w w') (hR:R<base):Row base e size w' v n ds:=by
 obtain ⟨xs,h1,h2⟩:=h;refine ⟨xs,zy9 h1 hk hR,h2.moves ((zad.refl w _).keeps hk ?_)⟩
 intro b _ hb;have:=hb.1;omega
theorem Row.later (h:Row base e size w v n ds) (hb:qb w w'):Row base e size w' v n ds:=by
 obtain ⟨xs,h1,h2⟩:=h;exact ⟨xs,ownsRow_later h1 hb,h2.moves (zad.of_below hb _)⟩
theorem Row.alloc (h:Row base e size w v n ds) (o:Obj):Row base e size (w.alloc o) v n ds:=h.later ((Below.refl _ _).alloc (vaa _) o)
theorem Row.set (h:Row base e size w v n ds) {p:Addr} (hp:p.block<base) (u:Value):Row base e size (w.setCell p u) v n ds:=by
 obtain ⟨xs,h1,h2⟩:=h;refine ⟨xs,ownsRow_setCell_below h1 hp u,h2.moves ((zad.refl w _).set ?_ u)⟩
 intro b _ hb;have:=hb.1;omega
theorem Row.slice (h:Row base e size w v n ds):∃ a cap,v = .slice a n cap/\EAt w (base<=·) a n ds:=by
 obtain ⟨xs,h1,h2⟩:=h
 have hm:zad w (zes base v) w (base<=·):=⟨vaa _,fun b _ hb=>⟨hb.1,rfl⟩⟩
 rcases h1.2 with ⟨rfl,rfl⟩ | ⟨g,cap,AC,rfl,_⟩
 . exact ⟨none,0,rfl,Or.inl rfl⟩
 . exact ⟨_,cap,rfl,EAt.of_own h1 (fun _ h=>h) (h2.moves hm)⟩
theorem Row.lt (h:Row base e size w v n ds):∀ k,v.ownBlock=some k->base<=k/\k<w.heap.size:=by
 obtain ⟨xs,h1,_⟩:=h;exact h1.lt
theorem Row.one {A:Nat->Prop} {cs:Array Value} {g:Nat} (hg:w.heap[g]? = some (.cells cs e (0,0))) (hb:base<=g) (hs:cs.size=size) (hd:zau w A ds cs.toList) (hA:∀ b,b<w.heap.size->A b->base<=b/\b≠g) :
 Row base e size w (.slice (some (qa g 0)) 1 1) 1 ds:=by
 refine ⟨cs.toList,⟨by simp [hs],Or.inr ⟨g,1,cs,rfl,hb,hg,vaa _,by unfold maxLen;omega,by omega,by rw [vdm,← hs];exact vaw (by simp)⟩⟩,hd.moves ⟨vaa _,fun b h1 h2=>⟨⟨(hA b h1 h2).1,fun h=>(hA b h1 h2).2 ?_⟩,rfl⟩⟩⟩;simp only [Value.ownBlock] at h;exact (vab h).symm
theorem Row.first {A:Nat->Prop} {cs:Array Value} (hd:zau w A ds cs.toList) (hA:∀ b,b<w.heap.size->A b->base<=b) (hb:base<=w.heap.size) (hs:cs.size=size) :
 Row base e size (w.alloc (.cells cs e)) (.slice (some (qa w.heap.size 0)) 1 1) 1 ds:=by
 refine Row.one (heap_newP w _) hb hs (A:=fun b=>A b/\b<w.heap.size) (hd.moves ⟨by simp,fun b h1 h2=>⟨⟨h2,h1⟩,((Below.refl w.heap.size w).alloc (vaa _) (.cells cs e)).block b h1⟩⟩) ?_;intro b _ h2;exact ⟨hA b h2.2 h2.1,by omega⟩
end
theorem zbs {P:Program} {ops:Array Oper} {rest:List Oper} {o:Oper} {a:Act} {Q:Exit->Act->World->Prop} (BA:o.guard=none) (s x:Operand) (t:TypeId)
 (ho:o.op = .call { callee:=.builtin .append,args:=#[s,x],argTypes:=#[t,t] }) (base:Nat) (e:TypeId) (z:Value) (size bytes:Nat) (ht:P.underlying t=some (.slice e))
 (hi:(P.info? e).map (fun i=>(i.zero,i.size,i.bytes))=some (some z,size,bytes)) (FD:z.cells.size=size) (Ce:0<size) (w:World) (v:Value) (n:Nat) (ds nd:List D) (hs:a.eval s=v) (Aa:Row base e size w v n ds)
 (cs:Array Value) (H:Nat) (hH:H=w.heap.size) (hx:a.eval x = .slice (some (qa H 0)) 1 1) (Bl:cs.size=size) (A:Nat->Prop) (Ip:zau w A nd cs.toList) (hA:∀ b,b<w.heap.size->A b->zes base v b)
 (hn:n<=5000) (Dr:bytes<=200) (AO:base<=w.heap.size)
 (h:∀ g cap w',Row base e size w' (.slice (some (qa g 0)) (n+1) cap) (n+1) (ds++nd)->Below base w w'->w.heap.size<w'.heap.size->wpList P ops Q rest (a.put o.dst (.slice (some (qa g 0)) (n+1) cap)) w') :
 wpList P ops Q (o :: rest) a (w.alloc (.cells cs e)):=by
 obtain ⟨i0,hi,Bq,An,AA⟩:=info_parts hi;obtain ⟨xs,Ag,Jk⟩:=Aa
 have C3:(w.alloc (.cells cs e)).heap.size=w.heap.size+1:=by simp
 refine wpList_append_lies (w.alloc (.cells cs e)) BA s x t ho base e i0 z size bytes ht hi Bq An AA FD Ce v n xs hs (Ag.alloc _) (qa H 0) 1 1 cs.toList hx (by simp [Bl]) ?_ Ip.one (by omega) (by unfold maxLen;omega) ?_ (by omega) _ rfl ?_
 . intro j u hj
   subst hH
   have:((qa w.heap.size 0):Addr).add j=(qa w.heap.size j):=by unfold Addr.add;split<;>simp_all
   rw [this,vef (heap_newP w _)];simpa using hj
 . have:(n+1)*bytes<=5001*200:=vdr (by omega) Dr
   omega
 . intro g cap w' Cf AJ AH A4
   have Hg:Below base w w':=((Below.refl base w).alloc AO _).grown AJ (by omega) (fun k hk=>(Ag.lt k hk).1);have M1:=AJ.size;refine h g cap w' ⟨xs++cs.toList,Cf,?_⟩ Hg (by omega)
   have FL:∀ A':Nat->Prop,(∀ b,b<w.heap.size->A' b->zes base v b)->zad w A' w' (zes base (.slice (some (qa g 0)) (n+1) cap)):=by
    intro A' hA';refine ⟨by omega,fun b hb ha=>⟨⟨(hA' b hb ha).1,fun M2=>?_⟩,?_⟩⟩
    . have GU:g=b:=by simpa [Value.ownBlock] using M2
      rcases AH with h1 | h1
      . exact (hA' b hb ha).2 (by rw [h1,GU])
      . omega
    . refine (AJ.block b (by omega) (fun h=>(hA' b hb ha).2 h.symm)).trans ?_
      exact ((Below.refl w.heap.size w).alloc (vaa _) (.cells cs e)).block b hb
   exact (Jk.moves (FL _ (fun _ _ h=>h))).append (Ip.moves (FL A hA))
theorem zbj {P:Program} {ops:Array Oper} {o:Oper} {a:Act} {K:Act->World->Prop} {Q:Exit->Act->World->Prop} {E:Prop} (BA:o.guard=none) (s x:Operand) (t:TypeId)
 (ho:o.op = .call { callee:=.builtin .append,args:=#[s,x],argTypes:=#[t,t] }) (base:Nat) (e:TypeId) (z:Value) (size bytes:Nat) (ht:P.underlying t=some (.slice e))
 (hi:(P.info? e).map (fun i=>(i.zero,i.size,i.bytes))=some (some z,size,bytes)) (FD:z.cells.size=size) (Ce:0<size) (w:World) (v:Value) (n:Nat) (ds nd:List D) (hs:a.eval s=v) (Aa:Row base e size w v n ds)
 (cs:Array Value) (H:Nat) (hH:H=w.heap.size) (hx:a.eval x = .slice (some (qa H 0)) 1 1) (Bl:cs.size=size) (A:Nat->Prop) (Ip:zau w A nd cs.toList) (hA:∀ b,b<w.heap.size->A b->zes base v b)
 (hn:n<=5000) (Dr:bytes<=200) (AO:base<=w.heap.size)
 (h:∀ g cap w',Row base e size w' (.slice (some (qa g 0)) (n+1) cap) (n+1) (ds++nd)->Below base w w'->w.heap.size<w'.heap.size->K (a.put o.dst (.slice (some (qa g 0)) (n+1) cap)) w') :
 if Region.wanted o (yielded ops a.tmps)=true then Oper.wp P o a (w.alloc (.cells cs e)) K Q else E:=by
 obtain ⟨i0,hi,Bq,An,AA⟩:=info_parts hi;obtain ⟨xs,Ag,Jk⟩:=Aa
 have C3:(w.alloc (.cells cs e)).heap.size=w.heap.size+1:=by simp
 refine step_append_lies (w.alloc (.cells cs e)) BA s x t ho base e i0 z size bytes ht hi Bq An AA FD Ce v n xs hs (Ag.alloc _) (qa H 0) 1 1 cs.toList hx (by simp [Bl]) ?_ Ip.one (by omega) (by unfold maxLen;omega) ?_ (by omega) _ rfl ?_
 . intro j u hj
   subst hH
   have:((qa w.heap.size 0):Addr).add j=(qa w.heap.size j):=by unfold Addr.add;split<;>simp_all
   rw [this,vef (heap_newP w _)];simpa using hj
 . have:(n+1)*bytes<=5001*200:=vdr (by omega) Dr
   omega
 . intro g cap w' Cf AJ AH A4
   have Hg:Below base w w':=((Below.refl base w).alloc AO _).grown AJ (by omega) (fun k hk=>(Ag.lt k hk).1);have M1:=AJ.size;refine h g cap w' ⟨xs++cs.toList,Cf,?_⟩ Hg (by omega)
   have FL:∀ A':Nat->Prop,(∀ b,b<w.heap.size->A' b->zes base v b)->zad w A' w' (zes base (.slice (some (qa g 0)) (n+1) cap)):=by
    intro A' hA';refine ⟨by omega,fun b hb ha=>⟨⟨(hA' b hb ha).1,fun M2=>?_⟩,?_⟩⟩
    . have GU:g=b:=by simpa [Value.ownBlock] using M2
      rcases AH with h1 | h1
      . exact (hA' b hb ha).2 (by rw [h1,GU])
      . omega
    . refine (AJ.block b (by omega) (fun h=>(hA' b hb ha).2 h.symm)).trans ?_
      exact ((Below.refl w.heap.size w).alloc (vaa _) (.cells cs e)).block b hb
   exact (Jk.moves (FL _ (fun _ _ h=>h))).append (Ip.moves (FL A hA))
section
variable {R cap:Nat} {a:OA} {ts l l0:List Tk} {w w0 w':World}
theorem Rd.belowOf (h:Rd R a cap ts w l) (h0:Rd R a cap ts w0 l0) (hb:Below w0.heap.size w w'):Rd R a cap ts w' l:=by
 refine ⟨?_,?_,h.ne,h.len⟩
 . obtain ⟨k,h1,h2,h3⟩:=h.idx
   exact ⟨k,h1,h2,(hb.block R h0.lt).trans h3⟩
 . rcases h0.toks with h4 | ⟨b,off,ha,h4⟩
   . exact Or.inl h4
   . rcases h.toks with h5 | ⟨b',C7,CZ,h5⟩
     . exact Or.inl h5
     . have eq:b'=b:=by rw [ha] at CZ;injection CZ with CZ;injection CZ with e1 e2;exact e1.symm
       subst eq;exact Or.inr ⟨b',C7,CZ,h5.below hb h4.lt⟩
theorem Keeps.belowOf (h:Keeps R w0 w) (hb:Below w0.heap.size w w'):Keeps R w0 w':=
 ⟨hb.os.trans h.os,hb.tape.trans h.tape,hb.output.trans h.output,vbc h.size hb.size,fun k h1 h2=>(hb.block k h1).trans (h.block k h1 h2)⟩
end
def zhv (R n:Nat) (w:World):Nat:=match w.cell? ⟨R,1,none⟩ with | some (.int _ k)=>n - k.toNat | _=>0
theorem Rd.left {R cap:Nat} {a:OA} {ts l:List Tk} {w:World} (h:Rd R a cap ts w l):zhv R ts.length w=l.length:=by
 obtain ⟨k,hk,rfl,hb⟩:=h.idx;unfold zhv;rw [vef hb];simp
set_option maxHeartbeats 1600000
def z83 (A:Nat->Prop) (xs:List Ex) (w:World) (v:Value):Prop:=∃ a cap,v = .slice a xs.length cap/\EAt w A a xs.length (zbo xs)
structure ExC (R cap:Nat) (a:OA) (ts:List Tk) (f:Nat):Prop where
 expr:∀ (l:List Tk) (w:World),Rd R a cap ts w l->3*l.length+1<=f->qc 283 #[pq R 0] w (zd4 R a cap ts w (zbm f l) (zgs (w.heap.size<=·)))
 pair:∀ (l:List Tk) (w:World),Rd R a cap ts w l->3*l.length+2<=f->qc 293 #[pq R 0] w (zd4 R a cap ts w (zfz f l) (zgs (w.heap.size<=·)))
 args:∀ (l:List Tk) (w:World),Rd R a cap ts w l->3*l.length+2<=f->qc 295 #[pq R 0] w (zd4 R a cap ts w (zeg f l) (z83 (w.heap.size<=·)))
theorem zza (R cap:Nat) (a:OA) (ts:List Tk) (f:Nat) (IH:ExC R cap a ts f) (l:List Tk) (w:World) (h:Rd R a cap ts w l) (hf:3*l.length+2<=f+1) :
 qc 293 #[pq R 0] w (zd4 R a cap ts w (zfz (f+1) l) (zgs (w.heap.size<=·))):=by
 have HI:Hid (ExC R cap a ts f):=IH;have HR:Hid (Rd R a cap ts w l):=h;have Cz:=h.lt;clear IH h;go_enter Tryz.func293,Tryz.ntmps293;go_wp2_with fail;refine (HI.out.expr l _ (HR.out.alloc _) (by omega)).mono ?_;rintro e w1 ⟨AF,⟨hn,rfl⟩ | ⟨x,l1,v,hn,rfl,⟨a1,c1,rfl,AR,AM,hx3⟩,AZ⟩⟩
 . exact ⟨rfl,((Keeps.refl R w).alloc _).trans AF,Or.inl ⟨by unfold zfz;rw [hn],rfl⟩⟩
 have Eu:Hid (zbm f l=some (x,l1)):=hn
 have AG:Hid (x.mod.size<=maxLen/\x.name.size<=maxLen/\EAt w1 ((w.heap.size+1)<=·) a1 x.args.length (zbo x.args)):=⟨AR,AM,by simpa using hx3⟩
 have BC:Hid (Rd R a cap ts w1 l1):=AZ;have FM:=zci _ _ _ _ hn;have An:=AF.size;simp at An;clear hn AR AM hx3 AZ;have AX:Hid (Keeps R w w1):=((Keeps.refl R w).alloc _).trans AF;have A7:Hid (w1.heap[w.heap.size]? = some (.cells #[qi 0,qi 0,.string ⟨#[]⟩,.string ⟨#[]⟩,qs] 174 (0,0))):=(AF.block w.heap.size (by simp) (by omega)).trans (heap_newP _ _);clear AF;go_wp2_with fail;refine (zy8 _).mono ?_;rintro e w2 ⟨b,rfl,A6,Ab,hbc,Af⟩;have AL:Hid (Keeps R w1 w2):=((Keeps.refl R w1).alloc _).later Af;have Ao:Hid (Rd R a cap ts w2 l1):=(BC.out.alloc _).later Af;have Bn:Hid (w2.heap[w1.heap.size]? = some (.cells #[qi x.op,qi x.n,.string x.mod,.string x.name,.slice a1 x.args.length c1] 174 (0,0))):=(Af.block w1.heap.size (by simp)).trans (heap_newP _ _);have AA:=Af.size;simp at AA A6;clear Af;go_wp2_with fail
 refine (z11 R cap b a ts l1 w2 Ao.out Ab (by omega) hbc).mono ?_;rintro e w3 ⟨Am,⟨ho,rfl⟩ | ⟨k,c,ho,Of,KD,rfl,Aq⟩⟩
 . exact ⟨rfl,(AX.out.trans AL.out).trans Am,Or.inl ⟨by unfold zfz;rw [Eu.out];simp only [];rw [ho],rfl⟩⟩
 have Bw:=Am.size;have HM:Hid (zxf l1=some k):=ho;have Pj:Hid (Lib.indexByte opSigns.data.toList c=k):=KD;have Ci:=zih (zxi ho);have BX:Hid (Keeps R w w3):=(AX.out.trans AL.out).trans Am;have BI:Hid (w3.heap[w1.heap.size]? = some (.cells #[qi x.op,qi x.n,.string x.mod,.string x.name,.slice a1 x.args.length c1] 174 (0,0))):=(Am.block w1.heap.size (by omega) (by omega)).trans Bn.out;have KU:Hid (zad w1 (w.heap.size+1<=·) w3 (w.heap.size+1<=·)):=((zad.refl w1 _).keeps AL.out (by intro b;omega)).keeps Am (by intro b;omega);clear ho hbc Bn Ao KD;have CA:Hid (Rd R a cap ts w3 l1.tail):=Aq;clear Aq;go_wp2_with fail;refine (HI.out.expr l1.tail w3 CA.out (by omega)).mono ?_;rintro e w4 ⟨Ax,⟨hn,rfl⟩ | ⟨y,l4,v,hn,rfl,⟨a4,c4,rfl,D3,CJ,Dk⟩,AW⟩⟩
 . exact ⟨rfl,BX.out.trans Ax,Or.inl ⟨by unfold zfz;rw [Eu.out];simp only [];rw [HM.out];simp only [];rw [hn],rfl⟩⟩
 have P8:Hid (zbm f l1.tail=some (y,l4)):=hn
 have DZ:Hid (y.mod.size<=maxLen/\y.name.size<=maxLen/\EAt w4 (w3.heap.size<=·) a4 y.args.length (zbo y.args)):=⟨D3,CJ,Dk⟩
 have BV:Hid (Rd R a cap ts w4 l4):=AW;have BF:Hid (Keeps R w w4):=BX.out.trans Ax;have OY:Hid (zad w1 (w.heap.size+1<=·) w4 (w.heap.size+1<=·)):=KU.out.keeps Ax (by intro b;omega);have D1:Hid (w4.heap[w1.heap.size]? = some (.cells #[qi x.op,qi x.n,.string x.mod,.string x.name,.slice a1 x.args.length c1] 174 (0,0))):=(Ax.block w1.heap.size (by omega) (by omega)).trans BI.out;have CX:=Ax.size;have Ar:Hid (w4.heap[w.heap.size]? = some (.cells #[qi 0,qi 0,.string ⟨#[]⟩,.string ⟨#[]⟩,qs] 174 (0,0))):=(Ax.block w.heap.size (by omega) (by omega)).trans ((Am.block w.heap.size (by omega) (by omega)).trans ((AL.out.block w.heap.size (by omega) (by omega)).trans A7.out));clear hn D3 CJ Dk AW Ax BI KU BX CA;go_wp2_with fail;refine (zfk R cap _ a ts l4 tRp _ (by simp) (BV.out.alloc _) (by decide)).mono ?_;rintro e w5 ⟨Aw,⟨Gc,rfl⟩ | ⟨Gc,rfl,Bs⟩⟩
 . exact ⟨rfl,(BF.out.alloc _).trans Aw,Or.inl ⟨by unfold zfz;rw [Eu.out];simp only [];rw [HM.out];simp only [];rw [P8.out];simp only [];rw [if_neg (by simp [Gc])],rfl⟩⟩
 have HP:Hid (zfz (f+1) l=some (.mk (7+k) 0 ⟨#[]⟩ ⟨#[]⟩ [x,y],l4.tail)):=by show zfz (f+1) l=_;unfold zfz;rw [Eu.out];simp only [];rw [HM.out];simp only [];rw [P8.out];simp only [];rw [if_pos Gc]
 have C2:=Aw.size;simp at C2;have BR:Hid (w5.heap[w1.heap.size]? = some (.cells #[qi x.op,qi x.n,.string x.mod,.string x.name,.slice a1 x.args.length c1] 174 (0,0))):=(Aw.block w1.heap.size (by simp;omega) (by omega)).trans (zab D1.out);have RY:Hid (w5.heap[w4.heap.size]? = some (.cells #[qi y.op,qi y.n,.string y.mod,.string y.name,.slice a4 y.args.length c4] 174 (0,0))):=(Aw.block w4.heap.size (by simp) (by omega)).trans (heap_newP _ _);have Av:Hid (w5.heap[w.heap.size]? = some (.cells #[qi 0,qi 0,.string ⟨#[]⟩,.string ⟨#[]⟩,qs] 174 (0,0))):=(Aw.block w.heap.size (by simp;omega) (by omega)).trans (zab Ar.out);obtain ⟨f0,f1,f2,f3,f4,f5⟩:=zaa BR.out;obtain ⟨g0,g1,g2,g3,g4,g5⟩:=zaa RY.out;obtain ⟨h0,h1,h2,h3,h4,h5⟩:=zaa Av.out;have Gp:Hid (zad w1 (w.heap.size+1<=·) w5 (w.heap.size+1<=·)):=(OY.out.alloc _).keeps Aw (by intro b;omega)
 have Iz:Hid (zad w4 (w3.heap.size<=·) w5 (w3.heap.size<=·)):=((zad.refl w4 _).alloc _).keeps Aw (by intro b;omega);have Dx:Hid (Rd R a cap ts w5 l4.tail):=Bs;have Co:Hid (Keeps R w w5):=(BF.out.alloc _).trans Aw;clear Aw Bs Gc D1 OY BV
 have RO:Hid (∀ w:World,qc 299 #[.string opSigns,.string ⟨#[c]⟩] w fun e w'=>e = .returned (qi k)/\w'=w):=fun w=>by rw [← Pj.out];exact Tryz.strings_Index_one opSigns c w
 have Dm:w.heap.size<w5.heap.size:=by omega
 have Dl:w1.heap.size<w5.heap.size:=by omega
 have LB:w4.heap.size<w5.heap.size:=by omega
 clear Pj
 have IW:IntKind.i64.wrap (7+(k:Int))=7+k:=by simp only [IntKind.wrap,IntKind.bits,IntKind.signed];simp;omega
 have FIN:∀ W:World,W=(((((w5.setCell (qa w.heap.size 0) (qi (7+k))).setCell (qa w.heap.size 1) (qi 0)).setCell (qa w.heap.size 2) (.string ⟨#[]⟩)).setCell (qa w.heap.size 3) (.string ⟨#[]⟩)).setCell (qa w.heap.size 4) (.slice (some (qa w5.heap.size 0)) 2 2)).alloc (.cells #[qi x.op,qi x.n,.string x.mod,.string x.name,.slice a1 x.args.length c1,qi y.op,qi y.n,.string y.mod,.string y.name,.slice a4 y.args.length c4] 174)->
  zd4 R a cap ts w (zfz (f+1) l) (zgs (w.heap.size<=·)) (.returned (.agg #[qi (7+k),qi 0,.string ⟨#[]⟩,.string ⟨#[]⟩,.slice (some (qa w5.heap.size 0)) 2 2])) W.drew:=by
  rintro W rfl;refine ⟨Keeps.drew (Keeps.alloc (((((Co.out.set (vaa _) _).set (vaa _) _).set (vaa _) _).set (vaa _) _).set (vaa _) _) _),Or.inr ⟨_,_,_,HP.out,rfl,⟨some (qa w5.heap.size 0),2,rfl,vag _,vag _,?_⟩,Rd.drew (Rd.alloc (((((Dx.out.setAbove HR.out (vaa _) _).setAbove HR.out (vaa _) _).setAbove HR.out (vaa _) _).setAbove HR.out (vaa _) _).setAbove HR.out (vaa _) _) _)⟩⟩;refine z7h (t:=174) (cap:=c1) (dap:=c4) AG.out DZ.out (zad.drew (zad.alloc (zad.set (zad.set (zad.set (zad.set (zad.set (Gp.out.to (by omega)) ?_ _) ?_ _) ?_ _) ?_ _) ?_ _) _)) (zad.drew (zad.alloc (zad.set (zad.set (zad.set (zad.set (zad.set (Iz.out.to (by omega)) ?_ _) ?_ _) ?_ _) ?_ _) ?_ _) _)) ?_ (by omega)
  all_goals first | (intro b;simp only [];omega) | skip
  have e:=heap_newP (((((w5.setCell (qa w.heap.size 0) (qi (7+k))).setCell (qa w.heap.size 1) (qi 0)).setCell (qa w.heap.size 2) (.string ⟨#[]⟩)).setCell (qa w.heap.size 3) (.string ⟨#[]⟩)).setCell (qa w.heap.size 4) (.slice (some (qa w5.heap.size 0)) 2 2)) (.cells #[qi x.op,qi x.n,.string x.mod,.string x.name,.slice a1 x.args.length c1,qi y.op,qi y.n,.string y.mod,.string y.name,.slice a4 y.args.length c4] 174);simp only [vaq] at e;exact e
 have Nh:Hid _:=FIN;clear FIN;go_wp2_with fail
 go_region_with (go_at_call 299;refine (RO.out _).mono ?_;rintro e w' ⟨rfl,rfl⟩)
 all_goals go_wp2_with fail
 all_goals refine bodyPost_ret (v:=.agg #[qi (7+k),qi 0,.string ⟨#[]⟩,.string ⟨#[]⟩,.slice (some (qa w5.heap.size 0)) 2 2]) (by simp [results,Tryz.results293,go_sem,h0,h1,h2,h3,h4,Dm]) rfl ?_
 all_goals exact Nh.out _ rfl
theorem z7i (l:List Tk) (t u:ByteArray):zjg l [t,u]=if skB l t then some t else if skB l u then some u else none:=by
 unfold zjg;rw [vcq,vcq];cases skB l t<;>cases skB l u<;>rfl
theorem z7j (R cap n:Nat) (a:OA) (ts l:List Tk) (t u:ByteArray) (w:World) (hn:n=w.heap.size) (h:Rd R a cap ts w l) (ht:0<t.size) (hu:0<u.size) :
 qc 195 #[pq R 0,.slice (some (qa n 0)) 2 2] (w.alloc (.cells #[.string t,.string u] 9)) fun e w'=>Keeps R w w'/\((skB l t=false/\skB l u=false/\e = .panicked zag)\/(skB l t=true/\e = .returned (.string t)/\Rd R a cap ts w' l.tail)\/(skB l t=false/\skB l u=true/\e = .returned (.string u)/\Rd R a cap ts w' l.tail)):=by
 have A4:=h.lt;subst hn;refine (zjy R cap w.heap.size 2 a ts l [t,u] _ (h.alloc _) (by simp) (by omega) (by simp) (fun i hi=>?_) (fun i hi=>?_)).mono ?_
 . obtain rfl | rfl:i=0\/i=1:=by simp at hi;omega
   all_goals simp
 . obtain rfl | rfl:i=0\/i=1:=by simp at hi;omega
   . exact ht
   . exact hu
 . rintro e w' ⟨hk,hr⟩
   refine ⟨((Keeps.refl R w).alloc _).trans hk,?_⟩;rw [z7i] at hr
   cases hs:skB l t<;>cases AB:skB l u<;>rw [hs,AB] at hr<;>simp only [vcu,if_false,if_true,Option.map_none,Option.map_some] at hr
   . rcases hr with ⟨_,rfl⟩ | ⟨x,l',v,hr,_⟩
     . exact Or.inl ⟨rfl,rfl,rfl⟩
     . cases hr
   . rcases hr with ⟨hr,_⟩ | ⟨x,l',v,hr,rfl,rfl,hR⟩
     . cases hr
     . obtain ⟨rfl,rfl⟩:=vao (vab hr)
       exact Or.inr (Or.inr ⟨rfl,rfl,rfl,hR⟩)
   all_goals
    rcases hr with ⟨hr,_⟩ | ⟨x,l',v,hr,rfl,rfl,hR⟩
    . cases hr
    . obtain ⟨rfl,rfl⟩:=vao (vab hr)
      exact Or.inr (Or.inl ⟨rfl,rfl,hR⟩)
theorem zzb (R cap:Nat) (a:OA) (ts:List Tk) (f:Nat) (IH:∀ g,g<=f->ExC R cap a ts g) (l:List Tk) (w:World) (h:Rd R a cap ts w l) (hf:3*l.length+2<=f+1) :
 qc 295 #[pq R 0] w (zd4 R a cap ts w (zeg (f+1) l) (z83 (w.heap.size<=·))):=by
 have HI:Hid (∀ g,g<=f->ExC R cap a ts g):=IH;have HR:Hid (Rd R a cap ts w l):=h;have Cz:=h.lt
 have GP:l.length<=4096:=by
  obtain ⟨k,_,rfl,_⟩:=h.idx;have:=h.len
  rw [vbv];omega
 clear IH h;go_enter Tryz.func295,Tryz.ntmps295;go_wp2_with fail
 by_cases hs:skB l tRp=true
 . refine (zbl R cap a ts l tRp w (by decide) HR.out hs).mono ?_
   rintro e w1 ⟨rfl,AZ,AF⟩;go_wp2_with fail;go_ret;exact ⟨AF,Or.inr ⟨[],l.tail,_,by unfold zeg;rw [if_pos hs],rfl,⟨none,0,rfl,Or.inl rfl⟩,AZ⟩⟩
 have EF:skB l tRp=false:=by simpa using hs
 refine (zb2 R cap a ts l tRp w HR.out EF).mono ?_;rintro e w1 ⟨rfl,AZ,AF⟩;have BC:Hid (Rd R a cap ts w1 l):=AZ;have AX:Hid (Keeps R w w1):=AF;have An:=AF.size;clear AZ AF;go_wp2_with fail;refine ((HI.out f (vaa _)).expr l w1 BC.out (by omega)).mono ?_;rintro e w2 ⟨AL,⟨hn,rfl⟩ | ⟨x,l2,v,hn,rfl,⟨a2,c2,rfl,AR,AM,hx3⟩,Ao⟩⟩
 . exact ⟨rfl,AX.out.trans AL,Or.inl ⟨by unfold zeg;rw [if_neg hs,hn],rfl⟩⟩
 have Cb:=zci _ _ _ _ hn
 have HP:Hid (zeg (f+1) l=zgq f [x] l2):=by show zeg (f+1) l=_;unfold zeg;rw [if_neg hs,hn]
 have CS:Hid (Rd R a cap ts w2 l2):=Ao;have BK:Hid (Keeps R w w2):=AX.out.trans AL;have HX:Hid (zau w2 (w1.heap.size<=·) x.ds (zfl x a2 c2)):=zfm AR AM hx3;have AA:=AL.size;clear hn Ao AL AR AM hx3 hs EF BC AX;go_wp2_with fail
 go_loopw [3] (fun v wr=>∃ (g:Nat) (A5:List Ex) (l':List Tk),g<=f/\zeg (f+1) l=zgq g A5 l'/\3*l'.length+3<=g/\A5.length+l'.length<=l.length/\Row w.heap.size 174 5 wr v A5.length (zbo A5)/\Rd R a cap ts wr l'/\Keeps R w wr) (fun _ wr=>zhv R ts.length wr)
 case atStart=>
  refine ⟨f,[x],l2,vaa _,HP.out,by omega,by simp;omega,?_,CS.out.alloc _,BK.out.alloc _⟩;rw [zjz];exact Row.first (cs:=#[qi x.op,qi x.n,.string x.mod,.string x.name,.slice a2 x.args.length c2]) HX.out (fun b _ h=>by omega) (by omega) rfl
 case round=>
  obtain ⟨g,A5,l',hg,hpm,Ah,hacc,Aa,Dc,Bf⟩:=hrel;have HG:Hid (zeg (f+1) l=zgq g A5 l'):=hpm;have HO:Hid (Row w.heap.size 174 5 wr u3 A5.length (zbo A5)):=Aa;have HD:Hid (Rd R a cap ts wr l'):=Dc;have HE:Hid (Keeps R w wr):=Bf;have C9:=Bf.size
  obtain ⟨g,rfl⟩:∃ g',g=g'+1:=⟨g - 1,by omega⟩
  clear hpm Aa Dc Bf HP HX;go_wp2_with fail;refine (z7j R cap _ a ts l' z06 tRp _ (by simp) HD.out (by decide) (by decide)).mono ?_;rintro e w3 ⟨Am,⟨h1,h2,rfl⟩ | ⟨h1,rfl,Aq⟩ | ⟨h1,h2,rfl,Aq⟩⟩
  . exact ⟨rfl,HE.out.trans Am,Or.inl ⟨by rw [HG.out];unfold zgq;rw [if_neg (by simp [h1]),if_neg (by simp [h2])],rfl⟩⟩
  . have Ci:=zah (by decide) h1
    have Bw:=Am.size;go_wp2_with fail;refine ((HI.out g (by omega)).expr l'.tail w3 Aq (by omega)).mono ?_;rintro e w4 ⟨Ax,⟨hn,rfl⟩ | ⟨y,l4,v,hn,rfl,⟨a4,c4,rfl,AR,AM,hx3⟩,AW⟩⟩
    . exact ⟨rfl,(HE.out.trans Am).trans Ax,Or.inl ⟨by rw [HG.out];unfold zgq;rw [if_pos h1,hn],rfl⟩⟩
    have EN:=zci _ _ _ _ hn
    have HP:Hid (zeg (f+1) l=zgq g (A5++[y]) l4):=by show zeg (f+1) l=_;rw [HG.out];unfold zgq;rw [if_pos h1,hn];cases g<;>rfl
    have DZ:Hid (zau w4 (w3.heap.size<=·) y.ds (zfl y a4 c4)):=zfm AR AM hx3;have BV:Hid (Rd R a cap ts w4 l4):=AW;have BF:Hid (Keeps R w w4):=(HE.out.trans Am).trans Ax;have Ee:Hid (Row w.heap.size 174 5 w4 u3 A5.length (zbo A5)):=(HO.out.keeps Am Cz).keeps Ax Cz;have CX:=Ax.size
    have HL:Hid (∀ k,u3.ownBlock=some k->k<w3.heap.size):=fun k hk=>((HO.out.keeps Am Cz).lt k hk).2
    have E8:=HD.out.left;clear hn Aq AW Am Ax AR AM hx3
    go_wp2_with (at_builtin;refine zbs rfl (.tmp 13) (.tmp 16) 172 rfl w.heap.size 174 _ 5 72 Tryz.underlying172 Tryz.infoP80 rfl (by decide) w4 u3 A5.length (zbo A5) y.ds rfl Ee.out _ _ rfl rfl rfl (w3.heap.size<=·) DZ.out ?_ (by omega) (by decide) (by omega) ?_)
    . intro b _ hb
      exact ⟨by omega,fun h=>by have:=HL.out b h;omega⟩
    . intro g5 c5 w5 Bo Av C2
      have B4:Hid (Row w.heap.size 174 5 w5 (.slice (some (qa g5 0)) (A5.length+1) c5) (A5.length+1) (zbo A5++y.ds)):=Bo;have Bs:Hid (Rd R a cap ts w5 l4):=BV.out.belowOf HR.out Av;have Aw:Hid (Keeps R w w5):=BF.out.belowOf Av;have FN:=Bs.out.left;clear Bo Av Ee BV BF DZ;go_wp2_with fail;go_roundw
      case rel=>exact ⟨g,A5++[y],l4,by omega,HP.out,by omega,by simp;omega,by rw [zhf,zjz,vam];exact B4.out,Bs.out,Aw.out⟩
      case measure=>rw [FN,E8];omega
  . have HP:Hid (zeg (f+1) l=some (A5,l'.tail)):=by show zeg (f+1) l=_;rw [HG.out];unfold zgq;rw [if_neg (by simp [h1]),if_pos h2]
    have CU:Hid (Row w.heap.size 174 5 w3 u3 A5.length (zbo A5)):=HO.out.keeps Am Cz;go_wp2_with fail;go_ret;exact ⟨HE.out.trans Am,Or.inr ⟨A5,l'.tail,_,HP.out,rfl,CU.out.slice,Aq⟩⟩
set_option maxHeartbeats 3200000
abbrev zcg:Obj:=.cells #[qi 0,qi 0,.string ⟨#[]⟩,.string ⟨#[]⟩,qs] 174 (0,0)
theorem zna {R cap:Nat} {a:OA} {ts l l':List Tk} {w w1:World} {r:Option (Ex × List Tk)} {x:Ex} {a1:OA} {c1:Nat} (h0:Rd R a cap ts w l) (hr:r=some (x,l')) (hk:Keeps R w w1) (Dc:Rd R a cap ts w1 l')
 (AR:x.mod.size<=maxLen) (AM:x.name.size<=maxLen) {lo:Nat} (hx:EAt w1 (lo<=·) a1 x.args.length (zbo x.args)) (CP:w.heap.size<lo) :
 zd4 R a cap ts w r (zgs (w.heap.size<=·)) (.returned (.agg #[qi x.op,qi x.n,.string x.mod,.string x.name,.slice a1 x.args.length c1])) (set5 w1 w.heap.size (qi x.op) (qi x.n) (.string x.mod) (.string x.name) (.slice a1 x.args.length c1)):=by
 refine ⟨hk.set5 (vaa _) _ _ _ _ _,Or.inr ⟨x,l',_,hr,rfl,⟨a1,c1,rfl,AR,AM,?_⟩,Dc.set5 h0 (vaa _) _ _ _ _ _⟩⟩;exact hx.moves (((zad.refl w1 (lo<=·)).set5 (by intro b _ hb;omega) _ _ _ _ _).to (by omega))
theorem z5h {R cap:Nat} {a:OA} {ts l l':List Tk} {w w1:World} {r:Option (Ex × List Tk)} {op n:Int} {mod name:ByteArray} {y:Ex} {a1:OA} {c1:Nat} (h0:Rd R a cap ts w l) (hr:r=some (.mk op n mod name [y],l')) (hk:Keeps R w w1) (Dc:Rd R a cap ts w1 l')
 (AR:mod.size<=maxLen) (AM:name.size<=maxLen) {lo:Nat} (D3:y.mod.size<=maxLen) (CJ:y.name.size<=maxLen) (hy:EAt w1 (lo<=·) a1 y.args.length (zbo y.args)) (CP:w.heap.size<lo) (Qi:lo<=w1.heap.size) :
 zd4 R a cap ts w r (zgs (w.heap.size<=·)) (.returned (.agg #[qi op,qi n,.string mod,.string name,.slice (some (qa w1.heap.size 0)) 1 1])) ((set5 w1 w.heap.size (qi op) (qi n) (.string mod) (.string name) (.slice (some (qa w1.heap.size 0)) 1 1)).alloc (kzE y.op y.n y.mod y.name a1 y.args.length c1)):=by
 refine ⟨(hk.set5 (vaa _) _ _ _ _ _).alloc _,Or.inr ⟨.mk op n mod name [y],l',_,hr,rfl,⟨_,_,rfl,AR,AM,?_⟩,(Dc.set5 h0 (vaa _) _ _ _ _ _).alloc _⟩⟩;refine zkx (t:=174) (cap:=c1) D3 CJ hy ((((zad.refl w1 (lo<=·)).set5 (b:=w.heap.size) (by intro b _ hb;omega) _ _ _ _ _).alloc _).to (by omega)) ?_ (by omega);have e:=heap_newP (set5 w1 w.heap.size (qi op) (qi n) (.string mod) (.string name) (.slice (some (qa w1.heap.size 0)) 1 1)) (kzE y.op y.n y.mod y.name a1 y.args.length c1);simp only [vaq] at e;exact e
theorem zzc (R cap:Nat) (a:OA) (ts:List Tk) (f:Nat) (IH:ExC R cap a ts f) (l:List Tk) (w:World) (h:Rd R a cap ts w l) (hf:3*l.length+1<=f+1) :
 qc 283 #[pq R 0] w (zd4 R a cap ts w (zbm (f+1) l) (zgs (w.heap.size<=·))):=by
 have HI:Hid (ExC R cap a ts f):=IH;have HR:Hid (Rd R a cap ts w l):=h;have Cz:=h.lt;have Ot:=z34 (hd l).kind (hd l).n (hd l).text;clear IH h;go_enter Tryz.func283,Tryz.ntmps283;go_wp2_with fail;refine (zqr R cap a ts l _ (HR.out.alloc _)).mono ?_;rintro e w1 ⟨rfl,A6⟩;have AZ:Hid (Rd R a cap ts w1 l):=(HR.out.alloc _).later A6;have AF:Hid (Keeps R w w1):=((Keeps.refl R w).alloc _).later A6;have A7:Hid (w1.heap[w.heap.size]? = some zcg):=(A6.block w.heap.size (by simp)).trans (heap_newP _ _);have An:=A6.size;simp at An;clear A6
 by_cases hk:(hd l).kind=2
 . have HP:Hid (zbm (f+1) l=some (.mk 1 (hd l).n ⟨#[]⟩ ⟨#[]⟩ [],l.tail)):=by show zbm (f+1) l=_;unfold zbm;rw [if_pos hk]
   have HQ:Hid (pNum l=some ((hd l).n,l.tail)):=by show pNum l=_;unfold pNum;rw [if_pos hk]
   have QE:=z34 2 (hd l).n (hd l).text;go_wp2_with fail;refine (zg9 R cap a ts l w1 AZ.out).mono ?_;rintro e w2 ⟨AL,⟨hn,rfl⟩ | ⟨n,l2,v,hn,rfl,rfl,Ao⟩⟩
   . rw [HQ.out] at hn;cases hn
   rw [HQ.out] at hn;obtain ⟨rfl,rfl⟩:=vao (vab hn);have Af:Hid (w2.heap[w.heap.size]? = some zcg):=(AL.block w.heap.size (by omega) (by omega)).trans A7.out;obtain ⟨h0,h1,h2,h3,h4,h5⟩:=zaa Af.out;have AA:=AL.size
   have Dm:w.heap.size<w2.heap.size:=by omega
   have HF:Hid (zd4 R a cap ts w (zbm (f+1) l) (zgs (w.heap.size<=·)) (.returned (.agg #[qi 1,qi (hd l).n,.string ⟨#[]⟩,.string ⟨#[]⟩,qs])) (set5 w2 w.heap.size (qi 1) (qi (hd l).n) (.string ⟨#[]⟩) (.string ⟨#[]⟩) (qs))):=
    zna (x:=.mk 1 (hd l).n ⟨#[]⟩ ⟨#[]⟩ []) HR.out HP.out (AF.out.trans AL) Ao (vag _) (vag _) (lo:=w2.heap.size) (Or.inl rfl) Dm
   clear hn Ao AL;go_wp2_with fail;refine bodyPost_ret (v:=.agg #[qi 1,qi (hd l).n,.string ⟨#[]⟩,.string ⟨#[]⟩,qs]) (by simp [results,Tryz.results283,go_sem,h0,h1,h2,h3,h4]) rfl HF.out
 go_wp2_with fail
 by_cases AB:skB l tIn=true
 . refine (zbl R cap a ts l tIn w1 (by decide) AZ.out AB).mono ?_
   rintro e w2 ⟨rfl,Ao,AL⟩;have Af:Hid (w2.heap[w.heap.size]? = some zcg):=(AL.block w.heap.size (by omega) (by omega)).trans A7.out;obtain ⟨h0,h1,h2,h3,h4,h5⟩:=zaa Af.out;have AA:=AL.size
   have Dm:w.heap.size<w2.heap.size:=by omega
   have HF:Hid (zd4 R a cap ts w (zbm (f+1) l) (zgs (w.heap.size<=·)) (.returned (.agg #[qi 2,qi 0,.string ⟨#[]⟩,.string ⟨#[]⟩,qs])) (set5 w2 w.heap.size (qi 2) (qi 0) (.string ⟨#[]⟩) (.string ⟨#[]⟩) (qs))):=
    zna (x:=.mk 2 0 ⟨#[]⟩ ⟨#[]⟩ []) HR.out (by unfold zbm;rw [if_neg hk,if_pos AB]) (AF.out.trans AL) Ao (vag _) (vag _) (lo:=w2.heap.size) (Or.inl rfl) Dm
   clear Ao AL;go_wp2_with fail;refine bodyPost_ret (v:=.agg #[qi 2,qi 0,.string ⟨#[]⟩,.string ⟨#[]⟩,qs]) (by simp [results,Tryz.results283,go_sem,h0,h1,h2,h3,h4]) rfl HF.out
 refine (zb2 R cap a ts l tIn w1 AZ.out (by simpa using AB)).mono ?_;rintro e w2 ⟨rfl,Ao,AL⟩;have CS:Hid (Rd R a cap ts w2 l):=Ao;have BK:Hid (Keeps R w w2):=AF.out.trans AL;have Af:Hid (w2.heap[w.heap.size]? = some zcg):=(AL.block w.heap.size (by omega) (by omega)).trans A7.out;have AA:=AL.size;clear Ao AL AZ AF A7;go_wp2_with fail
 by_cases Bj:skB l z6z=true
 . have Ci:=zah (by decide) Bj
   refine (zbl R cap a ts l z6z w2 (by decide) CS.out Bj).mono ?_;rintro e w3 ⟨rfl,Aq,Am⟩;have Bw:=Am.size;have Ae:Hid (w3.heap[w.heap.size]? = some zcg):=(Am.block w.heap.size (by omega) (by omega)).trans Af.out;go_wp2_with fail;refine (HI.out.expr l.tail w3 Aq (by omega)).mono ?_;rintro e w4 ⟨Ax,⟨hn,rfl⟩ | ⟨y,l4,v,hn,rfl,⟨a4,c4,rfl,D3,CJ,Dk⟩,AW⟩⟩
   . exact ⟨rfl,(BK.out.trans Am).trans Ax,Or.inl ⟨by unfold zbm;rw [if_neg hk,if_neg AB,if_pos Bj,hn],rfl⟩⟩
   have Ar:Hid (w4.heap[w.heap.size]? = some zcg):=(Ax.block w.heap.size (by omega) (by omega)).trans Ae.out;obtain ⟨h0,h1,h2,h3,h4,h5⟩:=zaa Ar.out;have CX:=Ax.size
   have Dm:w.heap.size<w4.heap.size:=by omega
   have HF:Hid (zd4 R a cap ts w (zbm (f+1) l) (zgs (w.heap.size<=·)) (.returned (.agg #[qi 6,qi 0,.string ⟨#[]⟩,.string ⟨#[]⟩,.slice (some (qa w4.heap.size 0)) 1 1])) ((set5 w4 w.heap.size (qi 6) (qi 0) (.string ⟨#[]⟩) (.string ⟨#[]⟩) (.slice (some (qa w4.heap.size 0)) 1 1)).alloc (kzE y.op y.n y.mod y.name a4 y.args.length c4))):=
    z5h HR.out (by unfold zbm;rw [if_neg hk,if_neg AB,if_pos Bj,hn]) ((BK.out.trans Am).trans Ax) AW (vag _) (vag _) D3 CJ Dk (by omega) CX
   clear hn Aq AW Am Ax D3 CJ Dk;go_wp2_with fail;refine bodyPost_ret (v:=.agg #[qi 6,qi 0,.string ⟨#[]⟩,.string ⟨#[]⟩,.slice (some (qa w4.heap.size 0)) 1 1]) (by simp [results,Tryz.results283,go_sem,h0,h1,h2,h3,h4,Dm]) rfl HF.out
 refine (zb2 R cap a ts l z6z w2 CS.out (by simpa using Bj)).mono ?_;rintro e w3 ⟨rfl,Aq,Am⟩;have CA:Hid (Rd R a cap ts w3 l):=Aq;have BX:Hid (Keeps R w w3):=BK.out.trans Am;have Ae:Hid (w3.heap[w.heap.size]? = some zcg):=(Am.block w.heap.size (by omega) (by omega)).trans Af.out;have Bw:=Am.size;clear Aq Am CS BK Af;go_wp2_with fail
 by_cases CE:skB l tLp=true
 . have EN:=zah (by decide) CE
   refine (zbl R cap a ts l tLp w3 (by decide) CA.out CE).mono ?_;rintro e w4 ⟨rfl,AW,Ax⟩;have CX:=Ax.size;have Ar:Hid (w4.heap[w.heap.size]? = some zcg):=(Ax.block w.heap.size (by omega) (by omega)).trans Ae.out;go_wp2_with fail;refine (HI.out.pair l.tail w4 AW (by omega)).mono ?_;rintro e w5 ⟨Aw,⟨hn,rfl⟩ | ⟨y,l5,v,hn,rfl,⟨a5,c5,rfl,D3,CJ,Dk⟩,Bs⟩⟩
   . exact ⟨rfl,(BX.out.trans Ax).trans Aw,Or.inl ⟨by unfold zbm;rw [if_neg hk,if_neg AB,if_neg Bj,if_pos CE,hn],rfl⟩⟩
   have Av:Hid (w5.heap[w.heap.size]? = some zcg):=(Aw.block w.heap.size (by omega) (by omega)).trans Ar.out;obtain ⟨h0,h1,h2,h3,h4,h5⟩:=zaa Av.out;have C2:=Aw.size
   have HF:Hid (zd4 R a cap ts w (zbm (f+1) l) (zgs (w.heap.size<=·)) (.returned (.agg #[qi y.op,qi y.n,.string y.mod,.string y.name,.slice a5 y.args.length c5])) (set5 w5 w.heap.size (qi y.op) (qi y.n) (.string y.mod) (.string y.name) (.slice a5 y.args.length c5))):=
    zna (x:=y) HR.out (by unfold zbm;rw [if_neg hk,if_neg AB,if_neg Bj,if_pos CE,hn]) ((BX.out.trans Ax).trans Aw) Bs D3 CJ (lo:=w4.heap.size) Dk (by omega)
   clear hn AW Bs Ax Aw D3 CJ Dk;go_wp2_with fail;refine bodyPost_ret (v:=.agg #[qi y.op,qi y.n,.string y.mod,.string y.name,.slice a5 y.args.length c5]) (by simp [results,Tryz.results283,go_sem,h0,h1,h2,h3,h4]) rfl HF.out
 refine (zb2 R cap a ts l tLp w3 CA.out (by simpa using CE)).mono ?_;rintro e w4 ⟨rfl,AW,Ax⟩;have BV:Hid (Rd R a cap ts w4 l):=AW;have BF:Hid (Keeps R w w4):=BX.out.trans Ax;have Ar:Hid (w4.heap[w.heap.size]? = some zcg):=(Ax.block w.heap.size (by omega) (by omega)).trans Ae.out;have CX:=Ax.size
 have N0:Hid (zbm (f+1) l=match zw7 l with
  | none=>none
  | some ((m,n),l1)=>
    if skB l1 tLs then (match zbm f l1.tail with | none=>none | some (x,l2)=>if skB l2 tRs then some (.mk 4 0 m n [x],l2.tail) else none)
    else if skB l1 tLp then (match zeg f l1.tail with | none=>none | some (xs,l2)=>some (.mk 5 0 m n xs,l2))
    else some (.mk 3 0 m n [],l1)):=by
  show zbm (f+1) l=_
  conv=>lhs;unfold zbm
  rw [if_neg hk,if_neg AB,if_neg Bj,if_neg CE]
  rfl
 clear AW Ax CA BX Ae hk AB Bj CE;go_wp2_with fail;refine (zy6 R cap a ts l _ (BV.out.alloc _)).mono ?_;rintro e w5 ⟨Aw,⟨hn,rfl⟩ | ⟨⟨m,n⟩,l5,v,hn,rfl,⟨rfl,hm,Eq⟩,Bs⟩⟩
 . exact ⟨rfl,(BF.out.alloc _).trans Aw,Or.inl ⟨by rw [N0.out,hn],rfl⟩⟩
 have FN:=zru hn
 have IB:Hid (zbm (f+1) l=if skB l5 tLs then (match zbm f l5.tail with | none=>none | some (x,l2)=>if skB l2 tRs then some (.mk 4 0 m n [x],l2.tail) else none)
  else if skB l5 tLp then (match zeg f l5.tail with | none=>none | some (xs,l2)=>some (.mk 5 0 m n xs,l2))
  else some (.mk 3 0 m n [],l5)):=by
  show zbm (f+1) l=_;rw [N0.out,hn]
 have Dx:Hid (Rd R a cap ts w5 l5):=Bs;have Co:Hid (Keeps R w w5):=(BF.out.alloc _).trans Aw;have Av:Hid (w5.heap[w.heap.size]? = some zcg):=(Aw.block w.heap.size (by simp;omega) (by omega)).trans (zab Ar.out);have BR:Hid (w5.heap[w4.heap.size]? = some (.cells #[qi 3,qi 0,.string ⟨#[]⟩,.string ⟨#[]⟩,qs] 174 (0,0))):=(Aw.block w4.heap.size (by simp) (by omega)).trans (heap_newP _ _);have C2:=Aw.size;simp at C2;obtain ⟨h0,h1,h2,h3,h4,h5⟩:=zaa BR.out;clear hn Bs Aw N0 BV Ar BF;have Hw:Hid (Rd R a cap ts ((w5.setCell (qa w4.heap.size 2) (.string m)).setCell (qa w4.heap.size 3) (.string n)) l5):=(Dx.out.setAbove HR.out (by show _<=w4.heap.size;omega) _).setAbove HR.out (by show _<=w4.heap.size;omega) _;have Ew:Hid (Keeps R w ((w5.setCell (qa w4.heap.size 2) (.string m)).setCell (qa w4.heap.size 3) (.string n))):=(Co.out.set (by show _<=w4.heap.size;omega) _).set (by show _<=w4.heap.size;omega) _
 have Cw:Hid (((w5.setCell (qa w4.heap.size 2) (.string m)).setCell (qa w4.heap.size 3) (.string n)).heap[w.heap.size]? = some zcg):=(heap_set_ne (by show w.heap.size≠w4.heap.size;omega) _).trans ((heap_set_ne (by show w.heap.size≠w4.heap.size;omega) _).trans Av.out);have I8:Hid (((w5.setCell (qa w4.heap.size 2) (.string m)).setCell (qa w4.heap.size 3) (.string n)).heap[w4.heap.size]? = some (.cells #[qi 3,qi 0,.string m,.string n,qs] 174 (0,0))):=heap_set (heap_set BR.out _) _
 have GC:((w5.setCell (qa w4.heap.size 2) (.string m)).setCell (qa w4.heap.size 3) (.string n)).heap.size=w5.heap.size:=by simp only [vaq]
 clear Dx Co Av;go_wp2_with fail;generalize (w5.setCell (qa w4.heap.size 2) (.string m)).setCell (qa w4.heap.size 3) (.string n)=w6 at *;clear h0 h1 h2 h3 h4 h5 BR
 by_cases FH:skB l5 tLs=true
 . have Oc:=zah (by decide) FH
   refine (zbl R cap a ts l5 tLs w6 (by decide) Hw.out FH).mono ?_;rintro e w7 ⟨rfl,HR7,CV⟩;have Ii:=CV.size;have BB:Hid (w7.heap[w.heap.size]? = some zcg):=(CV.block w.heap.size (by omega) (by omega)).trans Cw.out;have FB:Hid (w7.heap[w4.heap.size]? = some (.cells #[qi 3,qi 0,.string m,.string n,qs] 174 (0,0))):=(CV.block w4.heap.size (by omega) (by omega)).trans I8.out;obtain ⟨h0,h1,h2,h3,h4,h5⟩:=zaa FB.out;have Cc:Hid (Rd R a cap ts (w7.setCell (qa w4.heap.size 0) (qi 4)) l5.tail):=HR7.setAbove HR.out (by show _<=w4.heap.size;omega) _;have AN:Hid (Keeps R w (w7.setCell (qa w4.heap.size 0) (qi 4))):=(Ew.out.trans CV).set (by show _<=w4.heap.size;omega) _;have Bd:Hid ((w7.setCell (qa w4.heap.size 0) (qi 4)).heap[w.heap.size]? = some zcg):=(heap_set_ne (by show w.heap.size≠w4.heap.size;omega) _).trans BB.out
   have Da:Hid ((w7.setCell (qa w4.heap.size 0) (qi 4)).heap[w4.heap.size]? = some (.cells #[qi 4,qi 0,.string m,.string n,qs] 174 (0,0))):=heap_set FB.out _
   have Dj:(w7.setCell (qa w4.heap.size 0) (qi 4)).heap.size=w7.heap.size:=by simp only [vaq]
   clear HR7 CV BB Hw Ew Cw I8;go_wp2_with fail;generalize w7.setCell (qa w4.heap.size 0) (qi 4)=w8 at *;clear h0 h1 h2 h3 h4 h5 FB;refine (HI.out.expr l5.tail w8 Cc.out (by omega)).mono ?_;rintro e w9 ⟨G3,⟨hn,rfl⟩ | ⟨y,l9,v,hn,rfl,⟨a9,c9,rfl,D3,CJ,Dk⟩,KW⟩⟩
   . exact ⟨rfl,AN.out.trans G3,Or.inl ⟨by rw [IB.out,if_pos FH,hn],rfl⟩⟩
   have ED:=G3.size;have B7:Hid (w9.heap[w.heap.size]? = some zcg):=(G3.block w.heap.size (by omega) (by omega)).trans Bd.out;have IK:Hid (w9.heap[w4.heap.size]? = some (.cells #[qi 4,qi 0,.string m,.string n,qs] 174 (0,0))):=(G3.block w4.heap.size (by omega) (by omega)).trans Da.out;obtain ⟨h0,h1,h2,h3,h4,h5⟩:=zaa IK.out
   have LB:w4.heap.size<w9.heap.size:=by omega
   have IE:Hid (zbm f l5.tail=some (y,l9)):=hn
   have Hp:Hid (y.mod.size<=maxLen/\y.name.size<=maxLen/\EAt w9 (w8.heap.size<=·) a9 y.args.length (zbo y.args)):=⟨D3,CJ,Dk⟩
   have MV:Hid (Rd R a cap ts w9 l9):=KW;have Kb:Hid (Keeps R w w9):=AN.out.trans G3;clear hn KW G3 D3 CJ Dk Bd Da Cc AN;go_wp2_with fail;refine (zfk R cap _ a ts l9 tRs _ (by simp) ((MV.out.setAbove HR.out (by show _<=w4.heap.size;omega) _).alloc _) (by decide)).mono ?_;rintro e Di ⟨BG,⟨Gc,rfl⟩ | ⟨Gc,rfl,HR10⟩⟩
   . exact ⟨rfl,((Kb.out.set (by show _<=w4.heap.size;omega) _).alloc _).trans BG,Or.inl ⟨by rw [IB.out,if_pos FH,IE.out];simp [Gc],rfl⟩⟩
   have HP:Hid (zbm (f+1) l=some (.mk 4 0 m n [y],l9.tail)):=by show zbm (f+1) l=_;rw [IB.out,if_pos FH,IE.out];simp [Gc]
   have FE:=BG.size;simp at FE;have Fi:Hid (Di.heap[w.heap.size]? = some zcg):=(BG.block w.heap.size (by simp;omega) (by omega)).trans (zab ((heap_set_ne (by show w.heap.size≠w4.heap.size;omega) _).trans B7.out));have I9:Hid (Di.heap[w4.heap.size]? = some (.cells #[qi 4,qi 0,.string m,.string n,.slice (some (qa w9.heap.size 0)) 1 1] 174 (0,0))):=(BG.block w4.heap.size (by simp;omega) (by omega)).trans (zab (heap_set IK.out _))
   have Np:Hid (Di.heap[w9.heap.size]? = some (.cells #[qi y.op,qi y.n,.string y.mod,.string y.name,.slice a9 y.args.length c9] 174 (0,0))):=(BG.block w9.heap.size (by simp) (by omega)).trans (by
    have e:=heap_newP (w9.setCell (qa w4.heap.size 4) (.slice (some (qa w9.heap.size 0)) 1 1)) (kzE y.op y.n y.mod y.name a9 y.args.length c9);simp only [vaq] at e
    exact e)
   have JY:zad w9 (w8.heap.size<=·) Di (w8.heap.size<=·):=(((zad.refl w9 _).set (by intro b _ hb;show b≠w4.heap.size;omega) _).alloc _).keeps BG (by intro b _ hb;omega)
   have HF:Hid (zd4 R a cap ts w (zbm (f+1) l) (zgs (w.heap.size<=·)) (.returned (.agg #[qi 4,qi 0,.string m,.string n,.slice (some (qa w9.heap.size 0)) 1 1])) (set5 Di w.heap.size (qi 4) (qi 0) (.string m) (.string n) (.slice (some (qa w9.heap.size 0)) 1 1))):=
    zna (x:=.mk 4 0 m n [y]) HR.out HP.out (((Kb.out.set (by show _<=w4.heap.size;omega) _).alloc _).trans BG) HR10 hm Eq (lo:=w8.heap.size) (zkx Hp.out.1 Hp.out.2.1 Hp.out.2.2 JY Np.out (by omega)) (by omega)
   obtain ⟨h0,h1,h2,h3,h4,h5⟩:=zaa Fi.out;obtain ⟨g0,g1,g2,g3,g4,g5⟩:=zaa I9.out;clear BG HR10 JY;go_wp2_with fail;refine bodyPost_ret (v:=.agg #[qi 4,qi 0,.string m,.string n,.slice (some (qa w9.heap.size 0)) 1 1]) (by simp [results,Tryz.results283,go_sem,h0,h1,h2,h3,h4]) rfl HF.out
 refine (zb2 R cap a ts l5 tLs w6 Hw.out (by simpa using FH)).mono ?_;rintro e w7 ⟨rfl,HR7,CV⟩;have Ii:=CV.size;have Dw:Hid (Rd R a cap ts w7 l5):=HR7;have DB:Hid (Keeps R w w7):=Ew.out.trans CV;have BB:Hid (w7.heap[w.heap.size]? = some zcg):=(CV.block w.heap.size (by omega) (by omega)).trans Cw.out;have FB:Hid (w7.heap[w4.heap.size]? = some (.cells #[qi 3,qi 0,.string m,.string n,qs] 174 (0,0))):=(CV.block w4.heap.size (by omega) (by omega)).trans I8.out;clear HR7 CV Hw Ew Cw I8;go_wp2_with fail
 by_cases Ij:skB l5 tLp=true
 . have Qp:=zah (by decide) Ij
   refine (zbl R cap a ts l5 tLp w7 (by decide) Dw.out Ij).mono ?_;rintro e w8 ⟨rfl,Cc,AN⟩;have Dj:=AN.size;have Bd:Hid (w8.heap[w.heap.size]? = some zcg):=(AN.block w.heap.size (by omega) (by omega)).trans BB.out;have Da:Hid (w8.heap[w4.heap.size]? = some (.cells #[qi 3,qi 0,.string m,.string n,qs] 174 (0,0))):=(AN.block w4.heap.size (by omega) (by omega)).trans FB.out;obtain ⟨h0,h1,h2,h3,h4,h5⟩:=zaa Da.out;have KW:Hid (Rd R a cap ts (w8.setCell (qa w4.heap.size 0) (qi 5)) l5.tail):=Cc.setAbove HR.out (by show _<=w4.heap.size;omega) _;have G3:Hid (Keeps R w (w8.setCell (qa w4.heap.size 0) (qi 5))):=(DB.out.trans AN).set (by show _<=w4.heap.size;omega) _;have B7:Hid ((w8.setCell (qa w4.heap.size 0) (qi 5)).heap[w.heap.size]? = some zcg):=(heap_set_ne (by show w.heap.size≠w4.heap.size;omega) _).trans Bd.out
   have IK:Hid ((w8.setCell (qa w4.heap.size 0) (qi 5)).heap[w4.heap.size]? = some (.cells #[qi 5,qi 0,.string m,.string n,qs] 174 (0,0))):=heap_set Da.out _
   have ED:(w8.setCell (qa w4.heap.size 0) (qi 5)).heap.size=w8.heap.size:=by simp only [vaq]
   clear Cc AN Bd Dw DB BB FB;go_wp2_with fail;generalize w8.setCell (qa w4.heap.size 0) (qi 5)=w9 at *;clear h0 h1 h2 h3 h4 h5 Da;refine (HI.out.args l5.tail w9 KW.out (by omega)).mono ?_;rintro e Di ⟨BG,⟨hn,rfl⟩ | ⟨xs,l10,v,hn,rfl,⟨a10,c10,rfl,hx10⟩,HR10⟩⟩
   . exact ⟨rfl,G3.out.trans BG,Or.inl ⟨by rw [IB.out,if_neg FH,if_pos Ij,hn],rfl⟩⟩
   have FE:=BG.size
   have HP:Hid (zbm (f+1) l=some (.mk 5 0 m n xs,l10)):=by show zbm (f+1) l=_;rw [IB.out,if_neg FH,if_pos Ij,hn]
   have Fi:Hid (Di.heap[w.heap.size]? = some zcg):=(BG.block w.heap.size (by omega) (by omega)).trans B7.out;have I9:Hid (Di.heap[w4.heap.size]? = some (.cells #[qi 5,qi 0,.string m,.string n,qs] 174 (0,0))):=(BG.block w4.heap.size (by omega) (by omega)).trans IK.out
   have HF:Hid (zd4 R a cap ts w (zbm (f+1) l) (zgs (w.heap.size<=·)) (.returned (.agg #[qi 5,qi 0,.string m,.string n,.slice a10 xs.length c10])) (set5 (Di.setCell (qa w4.heap.size 4) (.slice a10 xs.length c10)) w.heap.size (qi 5) (qi 0) (.string m) (.string n) (.slice a10 xs.length c10))):=
    zna (x:=.mk 5 0 m n xs) HR.out HP.out ((G3.out.trans BG).set (by show _<=w4.heap.size;omega) _) (HR10.setAbove HR.out (by show _<=w4.heap.size;omega) _) hm Eq (lo:=w9.heap.size) (hx10.moves ((zad.refl Di _).set (by intro b _ hb;show b≠w4.heap.size;omega) _)) (by omega)
   obtain ⟨h0,h1,h2,h3,h4,h5⟩:=zaa Fi.out;obtain ⟨g0,g1,g2,g3,g4,g5⟩:=zaa I9.out
   have Ak:w.heap.size≠w4.heap.size:=by omega
   clear BG HR10 hn;go_wp2_with fail;refine bodyPost_ret (v:=.agg #[qi 5,qi 0,.string m,.string n,.slice a10 xs.length c10]) (by simp [results,Tryz.results283,go_sem,h0,h1,h2,h3,h4]) rfl HF.out
 refine (zb2 R cap a ts l5 tLp w7 Dw.out (by simpa using Ij)).mono ?_;rintro e w8 ⟨rfl,Cc,AN⟩;have Dj:=AN.size;have Bd:Hid (w8.heap[w.heap.size]? = some zcg):=(AN.block w.heap.size (by omega) (by omega)).trans BB.out;have Da:Hid (w8.heap[w4.heap.size]? = some (.cells #[qi 3,qi 0,.string m,.string n,qs] 174 (0,0))):=(AN.block w4.heap.size (by omega) (by omega)).trans FB.out
 have HF:Hid (zd4 R a cap ts w (zbm (f+1) l) (zgs (w.heap.size<=·)) (.returned (.agg #[qi 3,qi 0,.string m,.string n,qs])) (set5 w8 w.heap.size (qi 3) (qi 0) (.string m) (.string n) (qs))):=
  zna (x:=.mk 3 0 m n []) HR.out (by rw [IB.out,if_neg FH,if_neg Ij]) (DB.out.trans AN) Cc hm Eq (lo:=w8.heap.size) (Or.inl rfl) (by omega)
 obtain ⟨h0,h1,h2,h3,h4,h5⟩:=zaa Bd.out;obtain ⟨g0,g1,g2,g3,g4,g5⟩:=zaa Da.out;clear AN Cc;go_wp2_with fail;refine bodyPost_ret (v:=.agg #[qi 3,qi 0,.string m,.string n,qs]) (by simp [results,Tryz.results283,go_sem,h0,h1,h2,h3,h4]) rfl HF.out
theorem z35 (R cap:Nat) (a:OA) (ts:List Tk):∀ f,ExC R cap a ts f:=by
 intro f
 induction f using Nat.strongRecOn with
 | ind f ih=>
   cases f with
   | zero=>exact ⟨fun _ _ _ h=>by omega,fun _ _ _ h=>by omega,fun _ _ _ h=>by omega⟩
   | succ f=>
     exact ⟨fun l w h hf=>zzc R cap a ts f (ih f (by omega)) l w h hf,fun l w h hf=>zza R cap a ts f (ih f (by omega)) l w h hf,fun l w h hf=>zzb R cap a ts f (fun g hg=>ih g (by omega)) l w h hf⟩
theorem zet (R cap:Nat) (a:OA) (ts l:List Tk) (w:World) (h:Rd R a cap ts w l) :
 qc 283 #[pq R 0] w (zd4 R a cap ts w (pX l) (zgs (w.heap.size<=·))):=(z35 R cap a ts _).expr l w h (by omega)
theorem z12 (R cap:Nat) (a:OA) (ts l:List Tk) (w:World) (h:Rd R a cap ts w l) :
 qc 295 #[pq R 0] w (zd4 R a cap ts w (pAs l) (z83 (w.heap.size<=·))):=(z35 R cap a ts _).args l w h (by omega)
end Go.Proofs.YtndkhgakfodldaaGreatDoor

namespace Go.Proofs.YtndkhgakfodldaaGreatDoor
set_option maxRecDepth 100000
set_option maxHeartbeats 3200000
open Go.RowKit Go.Shelf
section
variable {P:Program} {ops:Array Oper} {o:Oper} {a:Act} {w:World} {K:Act->World->Prop} {Q:Exit->Act->World->Prop} {E:Prop}
theorem znb (f:FuncId) (x:Operand) (ty:TypeId) (ho:o.op = .call { callee:=.value (.func f),args:=#[x],argTypes:=#[ty] })
 (C5:Enters P f) (v:Value) (hx:a.eval x=v):(execOp a.eval o).run P w = .ok (.enter f #[v]) w:=by
 have h:=C5 #[v] w;have hf:a.eval (.func f) = .func (.func f) #[] #[]:=rfl;simp [execOp,ho,resolve,invoke,hx,hf,h,Deferred.ofValue]
theorem zb9 (BA:o.guard=none) (f:FuncId) (x:Operand) (ty:TypeId) (ho:o.op = .call { callee:=.value (.func f),args:=#[x],argTypes:=#[ty] })
 (C5:Enters P f) (v:Value) (hx:a.eval x=v) {R:Value->World->Prop} (hC:Calls P f #[v] w fun e w'=>∃ u,e = .returned u/\R u w')
 (h:∀ u w',R u w'->K (a.put o.dst u) w'):if Region.wanted o (yielded ops a.tmps)=true then Oper.wp P o a w K Q else E:=by
 have hw:Region.wanted o (yielded ops a.tmps)=true:=by simp [Region.wanted,BA]
 rw [if_pos hw];unfold Oper.wp;rw [znb f x ty ho C5 v hx,vdn];refine hC.mono ?_;rintro e w' ⟨u,rfl,hR⟩;exact h u w' hR
theorem zbf (BA:o.guard=none) (f:FuncId) (x:Operand) (ty:TypeId) (ho:o.op = .call { callee:=.value (.func f),args:=#[x],argTypes:=#[ty] })
 (C5:Enters P f) (v:Value) (hx:a.eval x=v) (c:List PanicEntry) {R:World->Prop} (hC:Calls P f #[v] w fun e w'=>e = .panicked c/\R w')
 (h:∀ w',R w'->Q (.panic c) a w'):if Region.wanted o (yielded ops a.tmps)=true then Oper.wp P o a w K Q else E:=by
 have hw:Region.wanted o (yielded ops a.tmps)=true:=by simp [Region.wanted,BA]
 rw [if_pos hw];unfold Oper.wp;rw [znb f x ty ho C5 v hx,vdn];refine hC.mono ?_;rintro e w' ⟨rfl,hR⟩;exact h w' hR
end
def zf7 (A:Nat->Prop) (s:St) (w:World) (v:Value):Prop:=∃ a1 c1 a2 c2 a3 c3,v = .agg #[qi s.op,.string s.mod,.string s.name,.slice a1 s.args.length c1,.slice a2 s.body.length c2,.slice a3 s.other.length c3]/\s.mod.size<=maxLen/\s.name.size<=maxLen/\
 EAt w A a1 s.args.length (zbo s.args)/\EAt w A a2 s.body.length (zbp s.body)/\EAt w A a3 s.other.length (zbp s.other)
def z84 (A:Nat->Prop) (xs:List St) (w:World) (v:Value):Prop:=∃ a cap,v = .slice a xs.length cap/\EAt w A a xs.length (zbp xs)
def zzd (s:St) (a1:OA) (c1:Nat) (a2:OA) (c2:Nat) (a3:OA) (c3:Nat):List Value:=[qi s.op,.string s.mod,.string s.name,.slice a1 s.args.length c1,.slice a2 s.body.length c2,.slice a3 s.other.length c3]
theorem z13 {A:Nat->Prop} {s:St} {w:World} {a1 a2 a3:OA} {c1 c2 c3:Nat} (h1:s.mod.size<=maxLen) (h2:s.name.size<=maxLen) (h3:EAt w A a1 s.args.length (zbo s.args)) (h4:EAt w A a2 s.body.length (zbp s.body)) (h5:EAt w A a3 s.other.length (zbp s.other)):zau w A s.ds (zzd s a1 c1 a2 c2 a3 c3):=by
 cases s
 unfold St.ds;exact .cons zpw (.cons (zw9 h1) (.cons (zw9 h2) (.cons h3.val (.cons h4.val (.cons h5.val .nil)))))
abbrev za1:Obj:=.cells #[qi 0,.string ⟨#[]⟩,.string ⟨#[]⟩,qs,qs,qs] 176 (0,0)
theorem st_end {R cap:Nat} {a:OA} {ts l l':List Tk} {w w1:World} {r:Option (St × List Tk)} {s:St} {a1 a2 a3:OA} {c1 c2 c3:Nat} (h0:Rd R a cap ts w l) (hr:r=some (s,l')) (hk:Keeps R w w1) (Dc:Rd R a cap ts w1 l')
 (AR:s.mod.size<=maxLen) (AM:s.name.size<=maxLen) {lo:Nat} (h1:EAt w1 (lo<=·) a1 s.args.length (zbo s.args)) (h2:EAt w1 (lo<=·) a2 s.body.length (zbp s.body)) (h3:EAt w1 (lo<=·) a3 s.other.length (zbp s.other)) (CP:w.heap.size<lo) :
 zd4 R a cap ts w r (zf7 (w.heap.size<=·)) (.returned (.agg #[qi s.op,.string s.mod,.string s.name,.slice a1 s.args.length c1,.slice a2 s.body.length c2,.slice a3 s.other.length c3])) (set6 w1 w.heap.size (qi s.op) (.string s.mod) (.string s.name) (.slice a1 s.args.length c1) (.slice a2 s.body.length c2) (.slice a3 s.other.length c3)):=by
 have hm:zad w1 (lo<=·) (set6 w1 w.heap.size (qi s.op) (.string s.mod) (.string s.name) (.slice a1 s.args.length c1) (.slice a2 s.body.length c2) (.slice a3 s.other.length c3)) (w.heap.size<=·):=((zad.refl w1 (lo<=·)).set6 (by intro b _ hb;omega) _ _ _ _ _ _).to (by omega);exact ⟨hk.set6 (vaa _) _ _ _ _ _ _,Or.inr ⟨s,l',_,hr,rfl,⟨a1,c1,a2,c2,a3,c3,rfl,AR,AM,h1.moves hm,h2.moves hm,h3.moves hm⟩,Dc.set6 h0 (vaa _) _ _ _ _ _ _⟩⟩
theorem zky (R cap:Nat) (a:OA) (ts l:List Tk) (w:World) (h:Rd R a cap ts w l) (op:Int) (mod name:ByteArray) (a1 a2 a3:OA) (n1 n2 n3 c1 c2 c3:Nat) :
 qc 284 #[pq R 0,.agg #[qi op,.string mod,.string name,.slice a1 n1 c1,.slice a2 n2 c2,.slice a3 n3 c3]] w fun e w'=>Keeps R w w'/\
  ((skB l zhj=false/\e = .panicked zag)\/(skB l zhj=true/\e = .returned (.agg #[qi op,.string mod,.string name,.slice a1 n1 c1,.slice a2 n2 c2,.slice a3 n3 c3])/\Rd R a cap ts w' l.tail)):=by
 have HR:Hid (Rd R a cap ts w l):=h;have Cz:=h.lt;clear h;go_enter Tryz.func284,Tryz.ntmps284;go_wp2_with fail;refine (zfk R cap _ a ts l zhj _ (by simp) ((HR.out.alloc _).alloc _) (by decide)).mono ?_;rintro e w1 ⟨AF,⟨hs,rfl⟩ | ⟨hs,rfl,AZ⟩⟩
 . exact ⟨rfl,(((Keeps.refl R w).alloc _).alloc _).trans AF,Or.inl ⟨hs,rfl⟩⟩
 have An:=AF.size;simp at An;have A7:Hid (w1.heap[w.heap.size]? = some (.cells #[qi op,.string mod,.string name,.slice a1 n1 c1,.slice a2 n2 c2,.slice a3 n3 c3] 176 (0,0))):=(AF.block w.heap.size (by simp;omega) (by omega)).trans (zab (heap_newP _ _));have Kl:Hid (w1.heap[w.heap.size+1]? = some za1):=(AF.block (w.heap.size+1) (by simp) (by omega)).trans (by have e:=heap_newP (w.alloc (kzB op mod name a1 n1 c1 a2 n2 c2 a3 n3 c3)) za1;simpa using e);have AX:Hid (Keeps R w w1):=(((Keeps.refl R w).alloc _).alloc _).trans AF;have BC:Hid (Rd R a cap ts w1 l.tail):=AZ;obtain ⟨f0,f1,f2,f3,f4,f5,f6⟩:=zam A7.out;obtain ⟨g0,g1,g2,g3,g4,g5,g6⟩:=zam Kl.out;clear AF AZ;go_wp2_with fail;refine bodyPost_ret (v:=.agg #[qi op,.string mod,.string name,.slice a1 n1 c1,.slice a2 n2 c2,.slice a3 n3 c3]) (by simp [results,Tryz.results284,go_sem,g0,g1,g2,g3,g4,g5]) rfl ⟨AX.out.set6 (by omega) _ _ _ _ _ _,Or.inr ⟨hs,rfl,BC.out.set6 HR.out (by omega) _ _ _ _ _ _⟩⟩
theorem znc {R cap:Nat} {a:OA} {ts l':List Tk} {w w':World} {r:Option (St × List Tk)} {s:St} {a1 a2 a3:OA} {c1 c2 c3:Nat} (hr:r=some (s,l')) (hk:Keeps R w w') (Dc:Rd R a cap ts w' l')
 (AR:s.mod.size<=maxLen) (AM:s.name.size<=maxLen) (h1:EAt w' (w.heap.size<=·) a1 s.args.length (zbo s.args)) (h2:EAt w' (w.heap.size<=·) a2 s.body.length (zbp s.body)) (h3:EAt w' (w.heap.size<=·) a3 s.other.length (zbp s.other)) :
 zd4 R a cap ts w r (zf7 (w.heap.size<=·)) (.returned (.agg #[qi s.op,.string s.mod,.string s.name,.slice a1 s.args.length c1,.slice a2 s.body.length c2,.slice a3 s.other.length c3])) w':=
 ⟨hk,Or.inr ⟨s,l',_,hr,rfl,⟨a1,c1,a2,c2,a3,c3,rfl,AR,AM,h1,h2,h3⟩,Dc⟩⟩
theorem z7k (l:List Tk) (t u v:ByteArray):zjg l [t,u,v]=if skB l t then some t else if skB l u then some u else if skB l v then some v else none:=by
 unfold zjg;rw [vcq,vcq,vcq];cases skB l t<;>cases skB l u<;>cases skB l v<;>rfl
theorem z7l (R cap n:Nat) (a:OA) (ts l:List Tk) (t u v:ByteArray) (w:World) (hn:n=w.heap.size) (h:Rd R a cap ts w l) (ht:0<t.size) (hu:0<u.size) (hv:0<v.size) :
 qc 195 #[pq R 0,.slice (some (qa n 0)) 3 3] (w.alloc (.cells #[.string t,.string u,.string v] 9)) fun e w'=>Keeps R w w'/\((skB l t=false/\skB l u=false/\skB l v=false/\e = .panicked zag)\/(skB l t=true/\e = .returned (.string t)/\Rd R a cap ts w' l.tail)\/(skB l t=false/\skB l u=true/\e = .returned (.string u)/\Rd R a cap ts w' l.tail)\/(skB l t=false/\skB l u=false/\skB l v=true/\e = .returned (.string v)/\Rd R a cap ts w' l.tail)):=by
 have A4:=h.lt;subst hn;refine (zjy R cap w.heap.size 3 a ts l [t,u,v] _ (h.alloc _) (by simp) (by omega) (by simp) (fun i hi=>?_) (fun i hi=>?_)).mono ?_
 . obtain rfl | rfl | rfl:i=0\/i=1\/i=2:=by simp at hi;omega
   all_goals simp
 . obtain rfl | rfl | rfl:i=0\/i=1\/i=2:=by simp at hi;omega
   . exact ht
   . exact hu
   . exact hv
 . rintro e w' ⟨hk,hr⟩
   refine ⟨((Keeps.refl R w).alloc _).trans hk,?_⟩;rw [z7k] at hr
   have Cy:∀ x:ByteArray,((some x).map fun t=>(t,l.tail))=some (x,l.tail):=fun _=>rfl
   cases hs:skB l t<;>cases AB:skB l u<;>cases Bj:skB l v<;>rw [hs,AB,Bj] at hr<;>simp only [vcu,if_false,if_true,Option.map_none,Option.map_some] at hr
   . rcases hr with ⟨_,rfl⟩ | ⟨x,l',y,hr,_⟩
     . exact Or.inl ⟨rfl,rfl,rfl,rfl⟩
     . cases hr
   all_goals
    rcases hr with ⟨hr,_⟩ | ⟨x,l',y,hr,rfl,rfl,hR⟩
    . cases hr
    . obtain ⟨rfl,rfl⟩:=vao (vab hr)
      simp [hR]
theorem z5i {R cap:Nat} {a:OA} {ts l l8:List Tk} {w w8 w9:World} {r:Option (St × List Tk)} {x y:Ex} {m n:ByteArray} {g9 c9:Nat} (h0:Rd R a cap ts w l) (hr:r=some (.mk 2 m n [x,y] [] [],l8)) (AN:Keeps R w w8) (Cc:Rd R a cap ts w8 l8)
 (hm:m.size<=maxLen) (Eq:n.size<=maxLen) (B7:Below (w.heap.size+2) w8 w9) (Dz:Row (w.heap.size+2) 174 5 w9 (.slice (some (qa g9 0)) 2 c9) 2 (x.ds++y.ds)) :
 zd4 R a cap ts w r (zf7 (w.heap.size<=·)) (.returned (.agg #[qi 2,.string m,.string n,.slice (some (qa g9 0)) 2 c9,qs,qs])) (set6 (w9.setCell ⟨w.heap.size+1,3,none⟩ (.slice (some (qa g9 0)) 2 c9)) w.heap.size (qi 2) (.string m) (.string n) (.slice (some (qa g9 0)) 2 c9) (qs) (qs)):=by
 have NS:Below w.heap.size w8 w9:=B7.mono (by omega)
 have hd:zbo [x,y]=x.ds++y.ds:=by simp [zbo]
 obtain ⟨a',c',hv,AH⟩:=Dz.slice
 injection hv with hv1 hv2 hv3
 rw [← hv1,← hd] at AH;have Mk:=AH.moves ((((zad.refl w9 (w.heap.size+2<=·)).set (p:=⟨w.heap.size+1,3,none⟩) (by intro b _ hb;show b≠w.heap.size+1;omega) (.slice (some (qa g9 0)) 2 c9)).set6 (b:=w.heap.size) (by intro b _ hb;omega) (qi 2) (.string m) (.string n) (.slice (some (qa g9 0)) 2 c9) (qs) (qs)).to (lo':=w.heap.size) (by omega))
 have Of:=(((AN.belowOf NS).set (p:=⟨w.heap.size+1,3,none⟩) (by show w.heap.size<=w.heap.size+1;omega) (.slice (some (qa g9 0)) 2 c9)).set6 (b:=w.heap.size) (vaa _) (qi 2) (.string m) (.string n) (.slice (some (qa g9 0)) 2 c9) (qs) (qs))
 have Q3:=((Cc.belowOf h0 NS).setAbove h0 (p:=⟨w.heap.size+1,3,none⟩) (by show w.heap.size<=w.heap.size+1;omega) (.slice (some (qa g9 0)) 2 c9)).set6 h0 (b:=w.heap.size) (vaa _) (qi 2) (.string m) (.string n) (.slice (some (qa g9 0)) 2 c9) (qs) (qs);exact znc (s:=.mk 2 m n [x,y] [] []) hr Of Q3 hm Eq Mk (Or.inl rfl) (Or.inl rfl)
theorem z5j:Enters Tryz.prog 283:=enters_of Tryz.func283 (by kernel_rfl) rfl
theorem zze (R cap:Nat) (a:OA) (ts l:List Tk) (w:World) (h:Rd R a cap ts w l) :
 qc 285 #[pq R 0] w (zd4 R a cap ts w (zbr l) (zf7 (w.heap.size<=·))):=by
 have HR:Hid (Rd R a cap ts w l):=h;have Cz:=h.lt;clear h;go_enter Tryz.func285,Tryz.ntmps285;go_wp2_with fail;refine (zy6 R cap a ts l _ ((HR.out.alloc _).alloc _)).mono ?_;rintro e w1 ⟨AF,⟨hn,rfl⟩ | ⟨⟨m,n⟩,l1,v,hn,rfl,⟨rfl,hm,Eq⟩,AZ⟩⟩
 . exact ⟨rfl,(((Keeps.refl R w).alloc _).alloc _).trans AF,Or.inl ⟨by unfold zbr;rw [hn],rfl⟩⟩
 have An:=AF.size;simp at An
 have Bb:Hid (zbr l=if skB l1 tEq then (match pX l1.tail with | none=>none | some (x,l2)=>some (.mk 1 m n [x] [] [],l2))
  else if skB l1 tLs then (match pX l1.tail with
   | none=>none
   | some (x,l2)=>if skB l2 tRs then (if skB l2.tail tEq then (match pX l2.tail.tail with | none=>none | some (y,l3)=>some (.mk 2 m n [x,y] [] [],l3)) else none) else none)
  else if skB l1 tLp then (match pAs l1.tail with | none=>none | some (xs,l2)=>some (.mk 3 m n xs [] [],l2))
  else none):=by show zbr l=_;unfold zbr;rw [hn];rfl
 have AX:Hid (Keeps R w w1):=(((Keeps.refl R w).alloc _).alloc _).trans AF;have A7:Hid (w1.heap[w.heap.size]? = some za1):=(AF.block w.heap.size (by simp;omega) (by omega)).trans (zab (heap_newP _ _));have Kl:Hid (w1.heap[w.heap.size+1]? = some za1):=(AF.block (w.heap.size+1) (by simp) (by omega)).trans (by have e:=heap_newP (w.alloc za1) za1;simpa using e);obtain ⟨h0,h1,h2,h3,h4,h5,h6⟩:=zam Kl.out;have Ao:Hid (Rd R a cap ts ((w1.setCell ⟨w.heap.size+1,1,none⟩ (.string m)).setCell ⟨w.heap.size+1,2,none⟩ (.string n)) l1):=(AZ.setAbove HR.out (by show _<=w.heap.size+1;omega) _).setAbove HR.out (by show _<=w.heap.size+1;omega) _;have AL:Hid (Keeps R w ((w1.setCell ⟨w.heap.size+1,1,none⟩ (.string m)).setCell ⟨w.heap.size+1,2,none⟩ (.string n))):=(AX.out.set (by show _<=w.heap.size+1;omega) _).set (by show _<=w.heap.size+1;omega) _
 have Af:Hid (((w1.setCell ⟨w.heap.size+1,1,none⟩ (.string m)).setCell ⟨w.heap.size+1,2,none⟩ (.string n)).heap[w.heap.size]? = some za1):=(heap_set_ne (by show w.heap.size≠w.heap.size+1;omega) _).trans ((heap_set_ne (by show w.heap.size≠w.heap.size+1;omega) _).trans A7.out);have Bn:Hid (((w1.setCell ⟨w.heap.size+1,1,none⟩ (.string m)).setCell ⟨w.heap.size+1,2,none⟩ (.string n)).heap[w.heap.size+1]? = some (.cells #[qi 0,.string m,.string n,qs,qs,qs] 176 (0,0))):=heap_set (heap_set Kl.out _) _
 have AA:((w1.setCell ⟨w.heap.size+1,1,none⟩ (.string m)).setCell ⟨w.heap.size+1,2,none⟩ (.string n)).heap.size=w1.heap.size:=by simp only [vaq]
 have Dl:w.heap.size+1<w1.heap.size:=by omega
 clear hn AZ AF A7 AX;go_wp2_with fail;generalize (w1.setCell ⟨w.heap.size+1,1,none⟩ (.string m)).setCell ⟨w.heap.size+1,2,none⟩ (.string n)=w2 at *;clear h0 h1 h2 h3 h4 h5 h6 Kl;refine (z7l R cap _ a ts l1 tEq tLs tLp w2 (by omega) Ao.out (by decide) (by decide) (by decide)).mono ?_;rintro e w3 ⟨Am,⟨s1,s2,s3,rfl⟩ | ⟨s1,rfl,Aq⟩ | ⟨s1,s2,rfl,Aq⟩ | ⟨s1,s2,s3,rfl,Aq⟩⟩
 . exact ⟨rfl,AL.out.trans Am,Or.inl ⟨by rw [Bb.out,s1,s2,s3];rfl,rfl⟩⟩
 . have Bw:=Am.size
   have Ae:Hid (w3.heap[w.heap.size]? = some za1):=(Am.block w.heap.size (by omega) (by omega)).trans Af.out;have BI:Hid (w3.heap[w.heap.size+1]? = some (.cells #[qi 0,.string m,.string n,qs,qs,qs] 176 (0,0))):=(Am.block (w.heap.size+1) (by omega) (by omega)).trans Bn.out;obtain ⟨h0,h1,h2,h3,h4,h5,h6⟩:=zam BI.out;have AW:Hid (Rd R a cap ts (w3.setCell ⟨w.heap.size+1,0,none⟩ (qi 1)) l1.tail):=Aq.setAbove HR.out (by show _<=w.heap.size+1;omega) _;have Ax:Hid (Keeps R w (w3.setCell ⟨w.heap.size+1,0,none⟩ (qi 1))):=(AL.out.trans Am).set (by show _<=w.heap.size+1;omega) _;have Ar:Hid ((w3.setCell ⟨w.heap.size+1,0,none⟩ (qi 1)).heap[w.heap.size]? = some za1):=(heap_set_ne (by show w.heap.size≠w.heap.size+1;omega) _).trans Ae.out;have D1:Hid ((w3.setCell ⟨w.heap.size+1,0,none⟩ (qi 1)).heap[w.heap.size+1]? = some (.cells #[qi 1,.string m,.string n,qs,qs,qs] 176 (0,0))):=heap_set BI.out _
   have CX:(w3.setCell ⟨w.heap.size+1,0,none⟩ (qi 1)).heap.size=w3.heap.size:=by simp only [vaq]
   clear Aq Am Ae Ao AL Af Bn;go_wp2_with fail;generalize w3.setCell ⟨w.heap.size+1,0,none⟩ (qi 1)=w4 at *;clear h0 h1 h2 h3 h4 h5 h6 BI;refine (zet R cap a ts l1.tail w4 AW.out).mono ?_;rintro e w5 ⟨Aw,⟨hn,rfl⟩ | ⟨x,l5,v,hn,rfl,⟨a5,c5,rfl,AR,AM,hx3⟩,Bs⟩⟩
   . exact ⟨rfl,Ax.out.trans Aw,Or.inl ⟨by rw [Bb.out,if_pos s1,hn],rfl⟩⟩
   have C2:=Aw.size
   have HP:Hid (zbr l=some (.mk 1 m n [x] [] [],l5)):=by show zbr l=_;rw [Bb.out,if_pos s1,hn]
   have Av:Hid (w5.heap[w.heap.size]? = some za1):=(Aw.block w.heap.size (by omega) (by omega)).trans Ar.out;have BR:Hid (w5.heap[w.heap.size+1]? = some (.cells #[qi 1,.string m,.string n,qs,qs,qs] 176 (0,0))):=(Aw.block (w.heap.size+1) (by omega) (by omega)).trans D1.out
   have HF:Hid (zd4 R a cap ts w (zbr l) (zf7 (w.heap.size<=·)) (.returned (.agg #[qi 1,.string m,.string n,.slice (some (qa w5.heap.size 0)) 1 1,qs,qs])) ((set6 (w5.setCell ⟨w.heap.size+1,3,none⟩ (.slice (some (qa w5.heap.size 0)) 1 1)) w.heap.size (qi 1) (.string m) (.string n) (.slice (some (qa w5.heap.size 0)) 1 1) (qs) (qs)).alloc (kzE x.op x.n x.mod x.name a5 x.args.length c5))):=by
    refine znc (s:=.mk 1 m n [x] [] []) HP.out ((((Ax.out.trans Aw).set (by show _<=w.heap.size+1;omega) _).set6 (vaa _) _ _ _ _ _ _).alloc _) (((Bs.setAbove HR.out (by show _<=w.heap.size+1;omega) _).set6 HR.out (vaa _) _ _ _ _ _ _).alloc _) hm Eq ?_ (Or.inl rfl) (Or.inl rfl);refine zkx (t:=174) (cap:=c5) AR AM hx3 (((((zad.refl w5 _).set (by intro b _ hb;show b≠w.heap.size+1;omega) _).set6 (b:=w.heap.size) (by intro b _ hb;omega) _ _ _ _ _ _).alloc _).to (by omega)) ?_ (by show w.heap.size<=w5.heap.size;omega);have e:=heap_newP (set6 (w5.setCell ⟨w.heap.size+1,3,none⟩ (.slice (some (qa w5.heap.size 0)) 1 1)) w.heap.size (qi 1) (.string m) (.string n) (.slice (some (qa w5.heap.size 0)) 1 1) (qs) (qs)) (kzE x.op x.n x.mod x.name a5 x.args.length c5);simp only [vaq] at e;exact e
   obtain ⟨h0,h1,h2,h3,h4,h5,h6⟩:=zam Av.out;obtain ⟨g0,g1,g2,g3,g4,g5,g6⟩:=zam BR.out
   have Q8:w.heap.size+1<w5.heap.size:=by omega
   have Q7:w.heap.size<w5.heap.size:=by omega
   clear hn Aw Bs AR AM hx3 Ar D1 AW Ax;go_wp2_with fail;refine bodyPost_ret (v:=.agg #[qi 1,.string m,.string n,.slice (some (qa w5.heap.size 0)) 1 1,qs,qs]) (by simp [results,Tryz.results285,go_sem,h0,h1,h2,h3,h4,h5,Q7]) rfl HF.out
 . have Bw:=Am.size
   have Ae:Hid (w3.heap[w.heap.size]? = some za1):=(Am.block w.heap.size (by omega) (by omega)).trans Af.out;have BI:Hid (w3.heap[w.heap.size+1]? = some (.cells #[qi 0,.string m,.string n,qs,qs,qs] 176 (0,0))):=(Am.block (w.heap.size+1) (by omega) (by omega)).trans Bn.out;obtain ⟨h0,h1,h2,h3,h4,h5,h6⟩:=zam BI.out;have AW:Hid (Rd R a cap ts (w3.setCell ⟨w.heap.size+1,0,none⟩ (qi 2)) l1.tail):=Aq.setAbove HR.out (by show _<=w.heap.size+1;omega) _;have Ax:Hid (Keeps R w (w3.setCell ⟨w.heap.size+1,0,none⟩ (qi 2))):=(AL.out.trans Am).set (by show _<=w.heap.size+1;omega) _;have Ar:Hid ((w3.setCell ⟨w.heap.size+1,0,none⟩ (qi 2)).heap[w.heap.size]? = some za1):=(heap_set_ne (by show w.heap.size≠w.heap.size+1;omega) _).trans Ae.out;have D1:Hid ((w3.setCell ⟨w.heap.size+1,0,none⟩ (qi 2)).heap[w.heap.size+1]? = some (.cells #[qi 2,.string m,.string n,qs,qs,qs] 176 (0,0))):=heap_set BI.out _
   have CX:(w3.setCell ⟨w.heap.size+1,0,none⟩ (qi 2)).heap.size=w3.heap.size:=by simp only [vaq]
   clear Aq Am Ae Ao AL Af Bn;go_wp2_with fail;generalize w3.setCell ⟨w.heap.size+1,0,none⟩ (qi 2)=w4 at *;clear h0 h1 h2 h3 h4 h5 h6 BI;refine (zet R cap a ts l1.tail w4 AW.out).mono ?_;rintro e w5 ⟨Aw,⟨hn,rfl⟩ | ⟨x,l5,v,hn,rfl,⟨a5,c5,rfl,AR,AM,hx3⟩,Bs⟩⟩
   . exact ⟨rfl,Ax.out.trans Aw,Or.inl ⟨by rw [Bb.out,if_neg (by simp [s1]),if_pos s2,hn],rfl⟩⟩
   have C2:=Aw.size
   have L0:Hid (zbr l=if skB l5 tRs then (if skB l5.tail tEq then (match pX l5.tail.tail with | none=>none | some (y,l3)=>some (.mk 2 m n [x,y] [] [],l3)) else none) else none):=by show zbr l=_;rw [Bb.out,if_neg (by simp [s1]),if_pos s2,hn]
   have Av:Hid (w5.heap[w.heap.size]? = some za1):=(Aw.block w.heap.size (by omega) (by omega)).trans Ar.out;have BR:Hid (w5.heap[w.heap.size+1]? = some (.cells #[qi 2,.string m,.string n,qs,qs,qs] 176 (0,0))):=(Aw.block (w.heap.size+1) (by omega) (by omega)).trans D1.out;have Co:Hid (Keeps R w w5):=Ax.out.trans Aw;have Dx:Hid (Rd R a cap ts w5 l5):=Bs;have CG:Hid (zau w5 (w4.heap.size<=·) x.ds (zfl x a5 c5)):=zfm AR AM hx3;obtain ⟨h0,h1,h2,h3,h4,h5,h6⟩:=zam BR.out
   have Q8:w.heap.size+1<w5.heap.size:=by omega
   clear hn Aw Bs AR AM hx3 Ar D1 AW Ax Bb;go_wp2_with fail;refine (zfk R cap _ a ts l5 tRs _ (by simp) ((Dx.out.setAbove HR.out (by show _<=w.heap.size+1;omega) _).alloc _) (by decide)).mono ?_;rintro e w6 ⟨Ew,⟨t6,rfl⟩ | ⟨t6,rfl,Hw⟩⟩
   . exact ⟨rfl,((Co.out.set (by show _<=w.heap.size+1;omega) _).alloc _).trans Ew,Or.inl ⟨by rw [L0.out,t6];rfl,rfl⟩⟩
   have GC:=Ew.size;simp at GC
   have IC:Hid (Row (w.heap.size+2) 174 5 w6 (.slice (some (qa w5.heap.size 0)) 1 1) 1 x.ds):=by
    have e:=Row.first (base:=w.heap.size+2) (e:=174) (size:=5) (w:=w5.setCell ⟨w.heap.size+1,3,none⟩ (.slice (some (qa w5.heap.size 0)) 1 1)) (A:=(w4.heap.size<=·)) (ds:=x.ds) (cs:=#[qi x.op,qi x.n,.string x.mod,.string x.name,.slice a5 x.args.length c5])
     (CG.out.moves ((zad.refl w5 _).set (by intro b _ hb;show b≠w.heap.size+1;omega) _)) (fun b _ hb=>by omega) (by simp;omega) rfl
    simp only [vaq] at e;exact Row.keeps e Ew (by omega)
   have Cw:Hid (w6.heap[w.heap.size]? = some za1):=(Ew.block w.heap.size (by simp;omega) (by omega)).trans (zab ((heap_set_ne (by show w.heap.size≠w.heap.size+1;omega) _).trans Av.out));have I8:Hid (w6.heap[w.heap.size+1]? = some (.cells #[qi 2,.string m,.string n,.slice (some (qa w5.heap.size 0)) 1 1,qs,qs] 176 (0,0))):=(Ew.block (w.heap.size+1) (by simp;omega) (by omega)).trans (zab (heap_set BR.out _));have I2:Hid (Keeps R w w6):=((Co.out.set (by show _<=w.heap.size+1;omega) _).alloc _).trans Ew;have JP:Hid (Rd R a cap ts w6 l5.tail):=Hw;clear Hw Ew Dx Co CG Av BR h0 h1 h2 h3 h4 h5 h6;go_wp2_with fail;refine (zfk R cap _ a ts l5.tail tEq _ (by simp) JP.out (by decide)).mono ?_;rintro e w7 ⟨CV,⟨t7,rfl⟩ | ⟨t7,rfl,HR7⟩⟩
   . exact ⟨rfl,I2.out.trans CV,Or.inl ⟨by rw [L0.out,t6,t7];rfl,rfl⟩⟩
   have Ii:=CV.size;have Gu:Hid (Row (w.heap.size+2) 174 5 w7 (.slice (some (qa w5.heap.size 0)) 1 1) 1 x.ds):=IC.out.keeps CV (by omega);have BB:Hid (w7.heap[w.heap.size]? = some za1):=(CV.block w.heap.size (by omega) (by omega)).trans Cw.out;have FB:Hid (w7.heap[w.heap.size+1]? = some (.cells #[qi 2,.string m,.string n,.slice (some (qa w5.heap.size 0)) 1 1,qs,qs] 176 (0,0))):=(CV.block (w.heap.size+1) (by omega) (by omega)).trans I8.out;have DB:Hid (Keeps R w w7):=I2.out.trans CV;have Dw:Hid (Rd R a cap ts w7 l5.tail.tail):=HR7
   have E0:Hid (zbr l=match pX l5.tail.tail with | none=>none | some (y,l3)=>some (.mk 2 m n [x,y] [] [],l3)):=by show zbr l=_;rw [L0.out,t6,t7];rfl
   obtain ⟨h0,h1,h2,h3,h4,h5,h6⟩:=zam FB.out;clear HR7 CV JP I2 Cw I8 IC L0 t6 t7
   cases hx:pX l5.tail.tail with
   | none=>
     have HE:Hid (∀ w',Rd R a cap ts w' l5.tail.tail->qc 283 #[pq R 0] w' fun e Az=>e = .panicked zag/\Keeps R w' Az):=fun w' h'=>by
      refine (zet R cap a ts _ w' h').mono ?_;rintro e Az ⟨hk,⟨_,rfl⟩ | ⟨_,_,_,h,_⟩⟩
      . exact ⟨rfl,hk⟩
      . rw [hx] at h;cases h
     have HP:Hid (zbr l=none):=by show zbr l=_;rw [E0.out,hx]
     clear hx E0;go_wp2_with fail;refine wp_region_any (by kernel_rfl) ?_
     change wpAny _ _ _ _ _ _ _ (World.drew _)
     refine wpAny_take (i:=2) (v:=pq R 0) rfl (by kernel_rfl) (by kernel_rfl) (by kernel_rfl) (fun c a w h=>h) (Or.inl ⟨by rfl,fun w=>by go_simp⟩) ?_;refine wpAny_take (i:=0) (v:=.pointer (some ⟨w.heap.size+1,3,none⟩)) rfl (by kernel_rfl) (by kernel_rfl) (by kernel_rfl) (fun c a w h=>h) (Or.inl ⟨by rfl,fun w=>by go_simp⟩) ?_;refine wpAny_ready (rs:=[1,3]) (by kernel_rfl) (by simp) ?_;refine veh rfl (fun K hK=>?_) (veh rfl (fun K hK=>?_) vej)
     . go_simp
       refine hK _ _ ?_;clear hK K;refine wpAny_ready (rs:=[3]) (by kernel_rfl) (by simp) ?_;refine veh rfl (fun K hK=>?_) vej;refine zbf (by rfl) 283 _ _ (by rfl) z5j _ (by rfl) zag (HE.out _ Dw.out.drew) ?_;intro w8 hk8;exact ⟨rfl,DB.out.drew.trans hk8,Or.inl ⟨HP.out,rfl⟩⟩
     . refine zbf (by rfl) 283 _ _ (by rfl) z5j _ (by rfl) zag (HE.out _ Dw.out.drew) ?_
       intro w8 hk8;exact ⟨rfl,DB.out.drew.trans hk8,Or.inl ⟨HP.out,rfl⟩⟩
   | some r=>
     obtain ⟨y,l8⟩:=r
     have HE:Hid (∀ w',Rd R a cap ts w' l5.tail.tail->qc 283 #[pq R 0] w' fun e Az=>∃ u,e = .returned u/\(Keeps R w' Az/\zgs (w'.heap.size<=·) y Az u/\Rd R a cap ts Az l8)):=fun w' h'=>by
      refine (zet R cap a ts _ w' h').mono ?_;rintro e Az ⟨hk,⟨h,_⟩ | ⟨y',l',u,h,rfl,hr,hd⟩⟩
      . rw [hx] at h;cases h
      . rw [hx] at h
        obtain ⟨rfl,rfl⟩:=vao (vab h);exact ⟨u,rfl,hk,hr,hd⟩
     have HP:Hid (zbr l=some (.mk 2 m n [x,y] [] [],l8)):=by show zbr l=_;rw [E0.out,hx]
     clear hx E0;go_wp2_with fail
     go_region_law (first
      | (refine zb9 (by rfl) 283 _ _ (by rfl) z5j _ (by rfl) (HE.out _ Dw.out.drew) ?_
         rintro u8 w8 ⟨AN,⟨a8,c8,rfl,D3,CJ,Dk⟩,Cc⟩;have Dj:w7.heap.size<=w8.heap.size:=AN.size
         have Il:w.heap.size+1<w8.heap.size:=by omega
         have Da:Hid (w8.heap[w.heap.size+1]? = some (.cells #[qi 2,.string m,.string n,.slice (some (qa w5.heap.size 0)) 1 1,qs,qs] 176 (0,0))):=(AN.block (w.heap.size+1) (show w.heap.size+1<w7.heap.size by omega) (by omega)).trans FB.out;have Bd:Hid (w8.heap[w.heap.size]? = some za1):=(AN.block w.heap.size (show w.heap.size<w7.heap.size by omega) (by omega)).trans BB.out;have Hd:w8.cell? ⟨w.heap.size+1,3,none⟩=some (.slice (some (qa w5.heap.size 0)) 1 1):=(AN.cell (show w.heap.size+1<w7.heap.size by omega) (by omega)).trans h3
         have CT:Hid (Row (w.heap.size+2) 174 5 w8 (.slice (some (qa w5.heap.size 0)) 1 1) 1 x.ds):=(Gu.out.keeps (Keeps.refl R w7).drew (by omega)).keeps AN (by omega))
      | (refine zbj (by rfl) _ _ 172 (by rfl) (w.heap.size+2) 174 _ 5 72 Tryz.underlying172 Tryz.infoP80 rfl (by decide) w8 _ 1 x.ds y.ds (by rfl) CT.out _ _ rfl (by rfl) rfl (w7.heap.size<=·) (zfm D3 CJ Dk) (fun b _ hb=>⟨by omega,fun h=>by have h':w5.heap.size=b:=vab h;omega⟩) (by omega) (by decide) (by omega) ?_
         intro g9 c9 w9 Dz B7 ED;have IK:Hid (w9.heap[w.heap.size+1]? = some (.cells #[qi 2,.string m,.string n,.slice (some (qa w5.heap.size 0)) 1 1,qs,qs] 176 (0,0))):=(B7.block (w.heap.size+1) (by omega)).trans Da.out;have RX:Hid (w9.heap[w.heap.size]? = some za1):=(B7.block w.heap.size (by omega)).trans Bd.out;obtain ⟨k0,k1,k2,k3,k4,k5,k6⟩:=zam IK.out;obtain ⟨m0,m1,m2,m3,m4,m5,m6⟩:=zam RX.out
         have Qd:w.heap.size≠w.heap.size+1:=by omega
         have HF:Hid (zd4 R a cap ts w (zbr l) (zf7 (w.heap.size<=·)) (.returned (.agg #[qi 2,.string m,.string n,.slice (some (qa g9 0)) 2 c9,qs,qs])) (set6 (w9.setCell ⟨w.heap.size+1,3,none⟩ (.slice (some (qa g9 0)) 2 c9)) w.heap.size (qi 2) (.string m) (.string n) (.slice (some (qa g9 0)) 2 c9) (qs) (qs))):=z5i HR.out HP.out (DB.out.drew.trans AN) Cc hm Eq B7 Dz))
     all_goals
      go_wp2_with fail;refine bodyPost_ret (v:=.agg #[qi 2,.string m,.string n,.slice (some (qa g9 0)) 2 c9,qs,qs]) (by simp [results,Tryz.results285,go_sem,m0,m1,m2,m3,m4,m5]) rfl HF.out
 . have Bw:=Am.size
   have Ae:Hid (w3.heap[w.heap.size]? = some za1):=(Am.block w.heap.size (by omega) (by omega)).trans Af.out;have BI:Hid (w3.heap[w.heap.size+1]? = some (.cells #[qi 0,.string m,.string n,qs,qs,qs] 176 (0,0))):=(Am.block (w.heap.size+1) (by omega) (by omega)).trans Bn.out;obtain ⟨h0,h1,h2,h3,h4,h5,h6⟩:=zam BI.out;have AW:Hid (Rd R a cap ts (w3.setCell ⟨w.heap.size+1,0,none⟩ (qi 3)) l1.tail):=Aq.setAbove HR.out (by show _<=w.heap.size+1;omega) _;have Ax:Hid (Keeps R w (w3.setCell ⟨w.heap.size+1,0,none⟩ (qi 3))):=(AL.out.trans Am).set (by show _<=w.heap.size+1;omega) _;have Ar:Hid ((w3.setCell ⟨w.heap.size+1,0,none⟩ (qi 3)).heap[w.heap.size]? = some za1):=(heap_set_ne (by show w.heap.size≠w.heap.size+1;omega) _).trans Ae.out;have D1:Hid ((w3.setCell ⟨w.heap.size+1,0,none⟩ (qi 3)).heap[w.heap.size+1]? = some (.cells #[qi 3,.string m,.string n,qs,qs,qs] 176 (0,0))):=heap_set BI.out _
   have CX:(w3.setCell ⟨w.heap.size+1,0,none⟩ (qi 3)).heap.size=w3.heap.size:=by simp only [vaq]
   clear Aq Am Ae Ao AL Af Bn;go_wp2_with fail;generalize w3.setCell ⟨w.heap.size+1,0,none⟩ (qi 3)=w4 at *;clear h0 h1 h2 h3 h4 h5 h6 BI;refine (z12 R cap a ts l1.tail w4 AW.out).mono ?_;rintro e w5 ⟨Aw,⟨hn,rfl⟩ | ⟨xs,l5,v,hn,rfl,⟨a5,c5,rfl,hx3⟩,Bs⟩⟩
   . exact ⟨rfl,Ax.out.trans Aw,Or.inl ⟨by rw [Bb.out,if_neg (by simp [s1]),if_neg (by simp [s2]),if_pos s3,hn],rfl⟩⟩
   have C2:=Aw.size
   have HP:Hid (zbr l=some (.mk 3 m n xs [] [],l5)):=by show zbr l=_;rw [Bb.out,if_neg (by simp [s1]),if_neg (by simp [s2]),if_pos s3,hn]
   have Av:Hid (w5.heap[w.heap.size]? = some za1):=(Aw.block w.heap.size (by omega) (by omega)).trans Ar.out;have BR:Hid (w5.heap[w.heap.size+1]? = some (.cells #[qi 3,.string m,.string n,qs,qs,qs] 176 (0,0))):=(Aw.block (w.heap.size+1) (by omega) (by omega)).trans D1.out
   have HF:Hid (zd4 R a cap ts w (zbr l) (zf7 (w.heap.size<=·)) (.returned (.agg #[qi 3,.string m,.string n,.slice a5 xs.length c5,qs,qs])) (set6 (w5.setCell ⟨w.heap.size+1,3,none⟩ (.slice a5 xs.length c5)) w.heap.size (qi 3) (.string m) (.string n) (.slice a5 xs.length c5) (qs) (qs))):=by
    refine znc (s:=.mk 3 m n xs [] []) HP.out (((Ax.out.trans Aw).set (by show _<=w.heap.size+1;omega) _).set6 (vaa _) _ _ _ _ _ _) ((Bs.setAbove HR.out (by show _<=w.heap.size+1;omega) _).set6 HR.out (vaa _) _ _ _ _ _ _) hm Eq ?_ (Or.inl rfl) (Or.inl rfl);exact hx3.moves ((((zad.refl w5 _).set (by intro b _ hb;show b≠w.heap.size+1;omega) _).set6 (b:=w.heap.size) (by intro b _ hb;omega) _ _ _ _ _ _).to (by omega))
   obtain ⟨h0,h1,h2,h3,h4,h5,h6⟩:=zam Av.out;obtain ⟨g0,g1,g2,g3,g4,g5,g6⟩:=zam BR.out;clear hn Aw Bs hx3 Ar D1 AW Ax;go_wp2_with fail;refine bodyPost_ret (v:=.agg #[qi 3,.string m,.string n,.slice a5 xs.length c5,qs,qs]) (by simp [results,Tryz.results285,go_sem,h0,h1,h2,h3,h4,h5]) rfl HF.out
set_option maxHeartbeats 1600000
theorem zzf {l l':List Tk} {s:St} (h:zbr l=some (s,l')):l'.length<l.length:=by
 unfold zbr at h
 split at h
 . cases h
 rename_i m n l1 h1
 have:=zru h1
 split at h
 . rename_i hs
   have:=zah (by decide) hs
   split at h
   . cases h
   rename_i x l2 h2
   have:=zn4 h2;obtain ⟨_,rfl⟩:=vao (vab h);omega
 split at h
 . rename_i hs
   have:=zah (by decide) hs
   split at h
   . cases h
   rename_i x l2 h2
   have:=zn4 h2
   split at h
   . rename_i AB
     have:=zah (by decide) AB
     split at h
     . rename_i Bj
       have:=zah (by decide) Bj
       split at h
       . cases h
       rename_i y l3 h3
       have:=zn4 h3;obtain ⟨_,rfl⟩:=vao (vab h);omega
     . cases h
   . cases h
 split at h
 . rename_i hs
   have:=zah (by decide) hs
   split at h
   . cases h
   rename_i x l2 h2
   have:=z60 h2;obtain ⟨_,rfl⟩:=vao (vab h);omega
 . cases h
theorem zkz {r:Option (St × List Tk)} {l':List Tk} {s:St} {n:Nat} (h:zdt r=some (s,l')) (hr:∀ s l,r=some (s,l)->l.length<n):l'.length<n:=by
 unfold zdt at h
 split at h
 . cases h
 . rename_i s1 l1
   have:=hr s1 l1 rfl
   split at h
   . rename_i hs
     have:=zah (by decide) hs;obtain ⟨_,rfl⟩:=vao (vab h);omega
   . cases h
def zco (f:Nat) (l:List Tk):Option (St × List Tk):=
 match pX l with
 | none=>none
 | some (x,l1)=>match zbt f l1 with
   | none=>none
   | some (b,l2)=>if skB l2 zrt then (match zbt f l2.tail with | none=>none | some (o,l3)=>if o.length=0 then none else some (.mk 4 ⟨#[]⟩ ⟨#[]⟩ [x] b o,l3))
     else some (.mk 4 ⟨#[]⟩ ⟨#[]⟩ [x] b [],l2)
theorem zuq {f:Nat} {l:List Tk} (h:skB l tIf=true):zce (f+1) l=zco f l.tail:=by
 unfold zce;rw [if_pos h];rfl
theorem zha {f:Nat} {l:List Tk} (h:skB l tIf=false) (h1:skB l zgw=true):zce (f+1) l=(match pX l.tail with
 | none=>none
 | some (x,l1)=>match zbt f l1 with | none=>none | some (b,l2)=>some (.mk 5 ⟨#[]⟩ ⟨#[]⟩ [x] b [],l2)):=by
 unfold zce;rw [if_neg (by simp [h]),if_pos h1];rfl
theorem zf8 {f:Nat} {l:List Tk} (h:skB l tIf=false) (h1:skB l zgw=false) (h2:skB l zfh=true):zce (f+1) l=zdt (match pX l.tail with | none=>none | some (x,l1)=>some (.mk 6 ⟨#[]⟩ ⟨#[]⟩ [x] [] [],l1)):=by
 unfold zce;rw [if_neg (by simp [h]),if_neg (by simp [h1]),if_pos h2];rfl
theorem zk0 {f:Nat} {l:List Tk} (h:skB l tIf=false) (h1:skB l zgw=false) (h2:skB l zfh=false) (h3:skB l z3s=true):zce (f+1) l=zdt (match pX l.tail with | none=>none | some (x,l1)=>some (.mk 7 ⟨#[]⟩ ⟨#[]⟩ [x] [] [],l1)):=by
 unfold zce;rw [if_neg (by simp [h]),if_neg (by simp [h1]),if_neg (by simp [h2]),if_pos h3];rfl
theorem zhb {f:Nat} {l:List Tk} (h:skB l tIf=false) (h1:skB l zgw=false) (h2:skB l zfh=false) (h3:skB l z3s=false):zce (f+1) l=zdt (zbr l):=by
 unfold zce;rw [if_neg (by simp [h]),if_neg (by simp [h1]),if_neg (by simp [h2]),if_neg (by simp [h3])]
mutual
theorem zot:∀ (f:Nat) (l l':List Tk) (s:St),zce f l=some (s,l')->l'.length<l.length
 | 0,_,_,_,h=>by simp [zce] at h
 | f + 1,l,l',s,h=>by
   unfold zce at h
   split at h
   . rename_i hs
     have:=zah (by decide) hs
     split at h
     . cases h
     rename_i x l1 h1
     have:=zn4 h1
     split at h
     . cases h
     rename_i b l2 h2
     have:=zf9 f _ _ _ h2
     split at h
     . rename_i AB
       have:=zah (by decide) AB
       split at h
       . cases h
       rename_i o l3 h3
       have:=zf9 f _ _ _ h3
       split at h
       . cases h
       . obtain ⟨_,rfl⟩:=vao (vab h)
         omega
     . obtain ⟨_,rfl⟩:=vao (vab h)
       omega
   split at h
   . rename_i hs
     have:=zah (by decide) hs
     split at h
     . cases h
     rename_i x l1 h1
     have:=zn4 h1
     split at h
     . cases h
     rename_i b l2 h2
     have:=zf9 f _ _ _ h2;obtain ⟨_,rfl⟩:=vao (vab h);omega
   split at h
   . rename_i hs
     have:=zah (by decide) hs;refine zkz h ?_;intro s l2 h2
     split at h2
     . cases h2
     rename_i x l1 h1
     have:=zn4 h1;obtain ⟨_,rfl⟩:=vao (vab h2);omega
   split at h
   . rename_i hs
     have:=zah (by decide) hs;refine zkz h ?_;intro s l2 h2
     split at h2
     . cases h2
     rename_i x l1 h1
     have:=zn4 h1;obtain ⟨_,rfl⟩:=vao (vab h2);omega
   . exact zkz h fun s l2 h2=>zzf h2
theorem zf9:∀ (f:Nat) (l l':List Tk) (b:List St),zbt f l=some (b,l')->l'.length<l.length
 | 0,_,_,_,h=>by simp [zbt] at h
 | f + 1,l,l',s,h=>by
   unfold zbt at h
   split at h
   . rename_i hs
     have:=zah (by decide) hs;have:=zqs f _ _ _ _ h;omega
   . cases h
theorem zqs:∀ (f:Nat) (A5:List St) (l l':List Tk) (b:List St),zeh f A5 l=some (b,l')->l'.length<l.length
 | 0,_,_,_,_,h=>by simp [zeh] at h
 | f + 1,A5,l,l',b,h=>by
   unfold zeh at h
   split at h
   . rename_i hs
     obtain ⟨_,rfl⟩:=vao (vab h);exact zah (by decide) hs
   split at h
   . cases h
   . rename_i s l1 h1
     have:=zot f _ _ _ h1;have:=zqs f _ _ _ _ h;omega
end
structure StC (R cap:Nat) (a:OA) (ts:List Tk) (f:Nat):Prop where
 stmt:∀ (l:List Tk) (w:World),Rd R a cap ts w l->3*l.length+1<=f->qc 254 #[pq R 0] w (zd4 R a cap ts w (zce f l) (zf7 (w.heap.size<=·)))
 block:∀ (l:List Tk) (w:World),Rd R a cap ts w l->3*l.length+1<=f->qc 201 #[pq R 0] w (zd4 R a cap ts w (zbt f l) (z84 (w.heap.size<=·)))
theorem zv7 (R cap:Nat) (a:OA) (ts:List Tk) (f:Nat) (IH:∀ g,g<=f->StC R cap a ts g) (l:List Tk) (w:World) (h:Rd R a cap ts w l) (hf:3*l.length+1<=f+1) :
 qc 201 #[pq R 0] w (zd4 R a cap ts w (zbt (f+1) l) (z84 (w.heap.size<=·))):=by
 have HI:Hid (∀ g,g<=f->StC R cap a ts g):=IH;have HR:Hid (Rd R a cap ts w l):=h;have Cz:=h.lt
 have GP:l.length<=4096:=by
  obtain ⟨k,_,rfl,_⟩:=h.idx;have:=h.len
  rw [vbv];omega
 clear IH h;go_enter Tryz.func201,Tryz.ntmps201;go_wp2_with fail;refine (zfk R cap _ a ts l tLb _ rfl HR.out (by decide)).mono ?_;rintro e w1 ⟨AF,⟨hs,rfl⟩ | ⟨hs,rfl,AZ⟩⟩
 . exact ⟨rfl,AF,Or.inl ⟨by unfold zbt;rw [if_neg (by simp [hs])],rfl⟩⟩
 have CF:=zah (by decide) hs
 have HP:Hid (zbt (f+1) l=zeh f [] l.tail):=by show zbt (f+1) l=_;unfold zbt;rw [if_pos hs]
 have BC:Hid (Rd R a cap ts w1 l.tail):=AZ;have AX:Hid (Keeps R w w1):=AF;have An:=AF.size;clear AZ AF hs;go_wp2_with fail
 go_loopw [3] (fun v wr=>∃ (g:Nat) (A5:List St) (l':List Tk),g<=f/\zbt (f+1) l=zeh g A5 l'/\3*l'.length+2<=g/\A5.length+l'.length<=l.length/\Row w.heap.size 176 6 wr v A5.length (zbp A5)/\Rd R a cap ts wr l'/\Keeps R w wr) (fun _ wr=>zhv R ts.length wr)
 case atStart=>exact ⟨f,[],l.tail,vaa _,HP.out,by omega,by simp,Row.nil _ _ _ _,BC.out,AX.out⟩
 case round=>
  obtain ⟨g,A5,l',hg,hpm,Ah,hacc,Aa,Dc,Bf⟩:=hrel;have HG:Hid (zbt (f+1) l=zeh g A5 l'):=hpm;have HO:Hid (Row w.heap.size 176 6 wr u3 A5.length (zbp A5)):=Aa;have HD:Hid (Rd R a cap ts wr l'):=Dc;have HE:Hid (Keeps R w wr):=Bf;have C9:=Bf.size
  obtain ⟨g,rfl⟩:∃ g',g=g'+1:=⟨g - 1,by omega⟩
  clear hpm Aa Dc Bf HP;go_wp2_with fail
  by_cases hs:skB l' tRb=true
  . have HP:Hid (zbt (f+1) l=some (A5,l'.tail)):=by show zbt (f+1) l=_;rw [HG.out];unfold zeh;rw [if_pos hs]
    refine (zbl R cap a ts l' tRb wr (by decide) HD.out hs).mono ?_;rintro e w3 ⟨rfl,Aq,Am⟩;have CU:Hid (Row w.heap.size 176 6 w3 u3 A5.length (zbp A5)):=HO.out.keeps Am Cz;go_wp2_with fail;go_ret;exact ⟨HE.out.trans Am,Or.inr ⟨A5,l'.tail,_,HP.out,rfl,CU.out.slice,Aq⟩⟩
  refine (zb2 R cap a ts l' tRb wr HD.out (by simpa using hs)).mono ?_;rintro e w3 ⟨rfl,Aq,Am⟩;have Bw:=Am.size;go_wp2_with fail;refine ((HI.out g (by omega)).stmt l' w3 Aq (by omega)).mono ?_;rintro e w4 ⟨Ax,⟨hn,rfl⟩ | ⟨y,l4,v,hn,rfl,⟨a1,c1,a2,c2,a3,c3,rfl,AR,AM,hx3,hx4,hx5⟩,AW⟩⟩
  . exact ⟨rfl,(HE.out.trans Am).trans Ax,Or.inl ⟨by rw [HG.out];unfold zeh;rw [if_neg hs,hn],rfl⟩⟩
  have EN:=zot _ _ _ _ hn
  have HP:Hid (zbt (f+1) l=zeh g (A5++[y]) l4):=by show zbt (f+1) l=_;rw [HG.out];unfold zeh;rw [if_neg hs,hn];cases g<;>rfl
  have DZ:Hid (zau w4 (w3.heap.size<=·) y.ds (zzd y a1 c1 a2 c2 a3 c3)):=z13 AR AM hx3 hx4 hx5;have BV:Hid (Rd R a cap ts w4 l4):=AW;have BF:Hid (Keeps R w w4):=(HE.out.trans Am).trans Ax;have Ee:Hid (Row w.heap.size 176 6 w4 u3 A5.length (zbp A5)):=(HO.out.keeps Am Cz).keeps Ax Cz;have CX:=Ax.size
  have HL:Hid (∀ k,u3.ownBlock=some k->k<w3.heap.size):=fun k hk=>((HO.out.keeps Am Cz).lt k hk).2
  have E8:=HD.out.left;clear hn Aq AW Am Ax AR AM hx3 hx4 hx5 hs
  go_wp2_with (at_builtin;refine zbs rfl (.tmp 10) (.tmp 13) 25 rfl w.heap.size 176 _ 6 112 Tryz.underlying25 Tryz.infoP48 rfl (by decide) w4 u3 A5.length (zbp A5) y.ds rfl Ee.out _ _ rfl rfl rfl (w3.heap.size<=·) DZ.out ?_ (by omega) (by decide) (by omega) ?_)
  . intro b _ hb
    exact ⟨by omega,fun h=>by have:=HL.out b h;omega⟩
  . intro g5 c5 w5 Bo Av C2
    have B4:Hid (Row w.heap.size 176 6 w5 (.slice (some (qa g5 0)) (A5.length+1) c5) (A5.length+1) (zbp A5++y.ds)):=Bo;have Bs:Hid (Rd R a cap ts w5 l4):=BV.out.belowOf HR.out Av;have Aw:Hid (Keeps R w w5):=BF.out.belowOf Av;have FN:=Bs.out.left;clear Bo Av Ee BV BF DZ;go_wp2_with fail;go_roundw
    case rel=>exact ⟨g,A5++[y],l4,by omega,HP.out,by omega,by simp;omega,by rw [zhg,zu0,vam];exact B4.out,Bs.out,Aw.out⟩
    case measure=>rw [FN,E8];omega
end Go.Proofs.YtndkhgakfodldaaGreatDoor
