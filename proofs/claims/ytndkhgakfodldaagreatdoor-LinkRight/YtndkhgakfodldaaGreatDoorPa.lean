import Derived.Test.YtndkhgakfodldaaGreatDoorCe
import Derived.BigQuiet
namespace Go.Proofs.YtndkhgakfodldaaGreatDoor
set_option maxRecDepth 100000
set_option maxHeartbeats 800000
open Go.RowKit
structure Keeps (R:Nat) (w w':World):Prop where
 os:w'.os=w.os
 tape:w'.tape=w.tape
 output:w'.output=w.output
 size:w.heap.size<=w'.heap.size
 block:∀ k,k<w.heap.size->k≠R->w'.heap[k]? = w.heap[k]?
theorem Keeps.refl (R:Nat) (w:World):Keeps R w w:=⟨rfl,rfl,rfl,vaa _,fun _ _ _=>rfl⟩
theorem Keeps.trans {R:Nat} {a b c:World} (h:Keeps R a b) (k:Keeps R b c):Keeps R a c:=
 ⟨k.os.trans h.os,k.tape.trans h.tape,k.output.trans h.output,vbc h.size k.size,fun i h1 h2=>(k.block i (vah h1 h.size) h2).trans (h.block i h1 h2)⟩
theorem Keeps.of_below {w w':World} (h:qb w w') (R:Nat):Keeps R w w':=⟨h.os,h.tape,h.output,h.size,fun k h1 _=>h.block k h1⟩
theorem Keeps.setCell (R:Nat) (w:World) (j:Nat) (u:Value):Keeps R w (w.setCell (qa R j) u):=
 ⟨rfl,rfl,rfl,by rw [vaq];exact vaa _,fun k _ h2=>Below.heap_setCell w (qa R j) u k h2⟩
theorem Keeps.stays {R lo:Nat} {w w':World} (h:Keeps R w w') (hR:R<lo):zfx lo w w':=⟨h.size,fun k h1 h2=>h.block k h2 (by omega)⟩
theorem Keeps.cell {R:Nat} {w w':World} (h:Keeps R w w') {b off:Nat} (h1:b<w.heap.size) (h2:b≠R):w'.cell? (qa b off)=w.cell? (qa b off):=
 vei (w:=w) (h.block b h1 h2)
theorem Keeps.later {R:Nat} {w w1 w2:World} (h:Keeps R w w1) (hb:qb w1 w2):Keeps R w w2:=h.trans (Keeps.of_below hb R)
theorem Keeps.alloc {R:Nat} {w w1:World} (h:Keeps R w w1) (o:Obj):Keeps R w (w1.alloc o):=h.later ((Below.refl _ _).alloc (vaa _) o)
theorem Keeps.own {R:Nat} {w w1:World} (h:Keeps R w w1) (j:Nat) (u:Value):Keeps R w (w1.setCell (qa R j) u):=h.trans (Keeps.setCell R w1 j u)
theorem Keeps.set {R:Nat} {w w1:World} (h:Keeps R w w1) {p:Addr} (hp:w.heap.size<=p.block) (u:Value):Keeps R w (w1.setCell p u):=
 ⟨h.os,h.tape,h.output,by rw [vaq];exact h.size,fun k h1 h2=>(Below.heap_setCell w1 p u k (by omega)).trans (h.block k h1 h2)⟩
structure Rd (R:Nat) (a:OA) (cap:Nat) (ts:List Tk) (w:World) (l:List Tk):Prop where
 idx:∃ k:Nat,k<=ts.length/\l=ts.drop k/\w.heap[R]? = some (.cells #[.slice a ts.length cap,qi k] 239 (0,0))
 toks:zc2 w a ts
 ne:ts=[]\/∀ b off,a=some (qa b off)->b≠R
 len:ts.length<=4096
theorem zc2.keeps {R:Nat} {w w':World} {a:OA} {ts:List Tk} (h:zc2 w a ts) (hk:Keeps R w w') (Ak:ts=[]\/∀ b off,a=some (qa b off)->b≠R):zc2 w' a ts:=by
 rcases Ak with h0 | Ak
 . exact Or.inl h0
 rcases h with h | ⟨b,off,ha,h⟩
 . exact Or.inl h
 . have hb:=Ak b off ha
   have hl:=h.lt;exact Or.inr ⟨b,off,ha,vah hl hk.size,fun i hi=>(hk.cell hl hb).trans (h.kind i hi),fun i hi=>(hk.cell hl hb).trans (h.num i hi),fun i hi=>(hk.cell hl hb).trans (h.text i hi),h.fits⟩
section
variable {R cap:Nat} {a:OA} {ts l:List Tk} {w w':World}
theorem Rd.lt (h:Rd R a cap ts w l):R<w.heap.size:=by obtain ⟨k,_,_,hb⟩:=h.idx;exact lt_of_heap hb
theorem Rd.later (h:Rd R a cap ts w l) (hb:qb w w'):Rd R a cap ts w' l:=by
 obtain ⟨k,h1,h2,h3⟩:=h.idx;exact ⟨⟨k,h1,h2,(hb.block R (lt_of_heap h3)).trans h3⟩,h.toks.later hb,h.ne,h.len⟩
theorem Rd.at_ {l':List Tk} {j:Nat} (h:Rd R a cap ts w l) (hk:Keeps R w w') (hj:j<=ts.length) (hl:l'=ts.drop j) (hb:w'.heap[R]? = some (.cells #[.slice a ts.length cap,qi j] 239 (0,0))):Rd R a cap ts w' l':=
 ⟨⟨j,hj,hl,hb⟩,h.toks.keeps hk h.ne,h.ne,h.len⟩
theorem Rd.still (h:Rd R a cap ts w l) (hk:Keeps R w w') (hb:w'.heap[R]? = w.heap[R]?):Rd R a cap ts w' l:=by
 obtain ⟨k,h1,h2,h3⟩:=h.idx;exact ⟨⟨k,h1,h2,hb.trans h3⟩,h.toks.keeps hk h.ne,h.ne,h.len⟩
theorem Rd.set (h:Rd R a cap ts w l) {p:Addr} (hp:p.block≠R) (ht:∀ b off,a=some (qa b off)->p.block≠b) (u:Value):Rd R a cap ts (w.setCell p u) l:=by
 obtain ⟨k,h1,h2,h3⟩:=h.idx;refine ⟨⟨k,h1,h2,(Below.heap_setCell w p u R (Ne.symm hp)).trans h3⟩,?_,h.ne,h.len⟩
 rcases h.toks with h4 | ⟨b,off,ha,h4⟩
 . exact Or.inl h4
 . have e:∀ j,(w.setCell p u).cell? (qa b j)=w.cell? (qa b j):=fun j=>vei (w:=w) (Below.heap_setCell w p u b (Ne.symm (ht b off ha)))
   exact Or.inr ⟨b,off,ha,by rw [vaq];exact h4.lt,fun i hi=>(e _).trans (h4.kind i hi),fun i hi=>(e _).trans (h4.num i hi),fun i hi=>(e _).trans (h4.text i hi),h4.fits⟩
theorem Rd.alloc (h:Rd R a cap ts w l) (o:Obj):Rd R a cap ts (w.alloc o) l:=h.later ((Below.refl _ _).alloc (vaa _) o)
theorem Rd.setAbove {w0:World} {l0:List Tk} (h:Rd R a cap ts w l) (h0:Rd R a cap ts w0 l0) {p:Addr} (hp:w0.heap.size<=p.block) (u:Value):Rd R a cap ts (w.setCell p u) l:=by
 refine ⟨?_,?_,h.ne,h.len⟩
 . obtain ⟨k,h1,h2,h3⟩:=h.idx
   exact ⟨k,h1,h2,(Below.heap_setCell w p u R (by have:=lt_of_heap h0.idx.choose_spec.2.2;omega)).trans h3⟩
 rcases h0.toks with h4 | ⟨b,off,ha,h4⟩
 . exact Or.inl h4
 . rcases h.toks with h5 | ⟨b',Cb,D3,h5⟩
   . exact Or.inl h5
   . have eq:b'=b:=by rw [ha] at D3;injection D3 with D3;injection D3 with e1 e2;exact e1.symm
     subst eq
     have e:∀ j,(w.setCell p u).cell? (qa b' j)=w.cell? (qa b' j):=fun j=>vei (w:=w) (Below.heap_setCell w p u b' (by have:=h4.lt;omega))
     exact Or.inr ⟨b',Cb,D3,by rw [vaq];exact h5.lt,fun i hi=>(e _).trans (h5.kind i hi),fun i hi=>(e _).trans (h5.num i hi),fun i hi=>(e _).trans (h5.text i hi),h5.fits⟩
theorem Rd.adv {k:Nat} (h:Rd R a cap ts w (ts.drop k)) (hk:k<ts.length) (hb:w.heap[R]? = some (.cells #[.slice a ts.length cap,qi k] 239 (0,0))) :
 Rd R a cap ts (w.setCell (qa R 1) (qi ((k:Int)+1))) (ts.drop (k+1)):=by
 refine ⟨⟨k+1,by omega,rfl,?_⟩,h.toks.keeps (Keeps.setCell R w 1 _) h.ne,h.ne,h.len⟩;simp [World.setCell,Array.getElem?_modify,hb]
end
theorem zqq (R cap n:Nat) (a:OA) (ts l:List Tk) (w:World) (hn:n<=1) (h:Rd R a cap ts w l) :
 qc 252 #[pq R 0,qi n] w fun e w'=>e = .returned (Tk.val (l.getD n noTk))/\qb w w':=by
 obtain ⟨k,hk,rfl,hb⟩:=h.idx
 have Cw:w.cell? (qa R 0)=some (.slice a ts.length cap):=by rw [vef hb];rfl
 have Bf:w.cell? (qa R 1)=some (qi k):=by rw [vef hb];rfl
 have A4:=h.lt;have Ah:=h.len
 by_cases KN:k+n<ts.length
 . have HV:Hid (Tk.val ((ts.drop k).getD n noTk) = .agg #[qi ts[k+n].kind,qi ts[k+n].n,.string ts[k+n].text]):=by
    show Tk.val _=_;rw [vay,vae (by rw [vbv];omega),Option.getD_some,vds]
    rfl
   obtain ⟨b,off,rfl,hT⟩:=h.toks.place KN;have G0:=hT.kind (k+n) KN;have C8:=hT.num (k+n) KN;have Dt:=hT.text (k+n) KN;have Au:=hT.lt;clear hT h hb;go_enter Tryz.func252,Tryz.ntmps252;go_wp2_with fail
   go_quiet ((fail))
   go_wp2_with fail
   go_region
   go_wp2_with fail;refine bodyPost_ret (v:=.agg #[qi ts[k+n].kind,qi ts[k+n].n,.string ts[k+n].text]) (by simp [results,Tryz.results252,go_sem]) rfl ⟨by rw [HV.out],?_⟩;exact (((C9 ((Below.refl _ _).alloc (vaa _) _) _).setCell (p:=(qa w.heap.size 0)) (vaa _) _).setCell (p:=(qa w.heap.size 1)) (vaa _) _).setCell (p:=(qa w.heap.size 2)) (vaa _) _
 . have HV:Hid (Tk.val ((ts.drop k).getD n noTk) = .agg #[qi 0,qi 0,.string ⟨#[]⟩]):=by
    show Tk.val _=_;rw [vay,vbq (by rw [vbv];omega)]
    rfl
   clear h hb;go_enter Tryz.func252,Tryz.ntmps252;go_wp2_with fail
   go_quiet ((fail))
   go_wp2_with fail;refine bodyPost_ret (v:=.agg #[qi 0,qi 0,.string ⟨#[]⟩]) (by simp [results,Tryz.results252,go_sem]) rfl ⟨by rw [HV.out],?_⟩;exact (((C9 ((Below.refl _ _).alloc (vaa _) _) _).setCell (p:=(qa w.heap.size 0)) (vaa _) _).setCell (p:=(qa w.heap.size 1)) (vaa _) _).setCell (p:=(qa w.heap.size 2)) (vaa _) _
set_option maxHeartbeats 1600000
theorem z5g {ts:List Tk} {k:Nat} (h:k<ts.length):hd (ts.drop k)=ts[k]:=by
 unfold hd;rw [vay,vae (by rw [vbv];omega),Option.getD_some,vds]
 rfl
theorem z33 {ts:List Tk} {k:Nat} (h:¬ k<ts.length):hd (ts.drop k)=noTk:=by
 rw [vct (by omega)];rfl
theorem z82 {ts:List Tk} {k:Nat} {t:ByteArray} (ht:0<t.size) (h:skB (ts.drop k) t=true):k<ts.length:=by
 by_cases hk:k<ts.length
 . exact hk
 . unfold skB at h
   rw [z33 hk,vax,vax] at h
   have:t.data.toList=[]:=by simpa [noTk] using (beq_iff_eq.1 h).symm
   have:=Lx.zaz t;simp_all
theorem zqr (R cap:Nat) (a:OA) (ts l:List Tk) (w:World) (h:Rd R a cap ts w l) :
 qc 252 #[pq R 0,qi 0] w fun e w'=>e = .returned (.agg #[qi (hd l).kind,qi (hd l).n,.string (hd l).text])/\qb w w':=
 zqq R cap 0 a ts l w (by omega) h
theorem z34 (k n:Int) (t:ByteArray):∀ w:World,(Instr.field 184 (.agg #[qi k,qi n,.string t]) 0).run Tryz.prog w = .ok (qi k) w:=fun _=>by kernel_rfl
theorem zup (k n:Int) (t:ByteArray):∀ w:World,(Instr.field 184 (.agg #[qi k,qi n,.string t]) 2).run Tryz.prog w = .ok (.string t) w:=fun _=>by kernel_rfl
theorem zbl (R cap:Nat) (a:OA) (ts l:List Tk) (t:ByteArray) (w:World) (ht:0<t.size) (h:Rd R a cap ts w l) (hs:skB l t=true) :
 qc 197 #[pq R 0,.string t] w fun e w'=>e = .returned (.bool true)/\Rd R a cap ts w' l.tail/\Keeps R w w':=by
 obtain ⟨k,hk,rfl,hb⟩:=h.idx;have A4:=z82 ht hs;have HR:Hid (Rd R a cap ts w (ts.drop k)):=h;have HA:Hid (qc 252 #[pq R 0,qi 0] w fun e w'=>e = .returned (.agg #[qi (hd (ts.drop k)).kind,qi (hd (ts.drop k)).n,.string (hd (ts.drop k)).text])/\qb w w'):=zqr R cap a ts (ts.drop k) w h
 have HT:Hid ((ts.drop k).tail=ts.drop (k+1)):=by show List.tail _=_;rw [List.tail_drop]
 have EW:=h.len;have EO:((hd (ts.drop k)).text.toList == t.toList)=true:=hs;have HB:Hid (w.heap[R]? = some (.cells #[.slice a ts.length cap,qi k] 239 (0,0))):=hb;clear h hs hb;generalize hd (ts.drop k)=T at *;have EA:=zup T.kind T.n T.text;go_enter Tryz.func197,Tryz.ntmps197;go_wp2_with fail;refine HA.out.mono ?_;rintro e w1 ⟨rfl,A6⟩;have A7:Hid (w1.heap[R]? = some (.cells #[.slice a ts.length cap,qi k] 239 (0,0))):=(A6.block R HR.out.lt).trans HB.out
 have Bf:w1.cell? (qa R 1)=some (qi k):=by rw [vef A7.out];rfl
 have E0:w1.frozen? (qa R 1)=false:=veg A7.out 1;clear HA;go_wp2_with fail;go_ret;refine ⟨rfl,?_,(Keeps.of_below A6 R).trans (Keeps.setCell R w1 1 _)⟩;rw [HT.out];exact (HR.out.later A6).adv A4 A7.out
theorem zb2 (R cap:Nat) (a:OA) (ts l:List Tk) (t:ByteArray) (w:World) (h:Rd R a cap ts w l) (hs:skB l t=false) :
 qc 197 #[pq R 0,.string t] w fun e w'=>e = .returned (.bool false)/\Rd R a cap ts w' l/\Keeps R w w':=by
 have HR:Hid (Rd R a cap ts w l):=h;have HA:Hid (qc 252 #[pq R 0,qi 0] w fun e w'=>e = .returned (.agg #[qi (hd l).kind,qi (hd l).n,.string (hd l).text])/\qb w w'):=zqr R cap a ts l w h;have EO:((hd l).text.toList == t.toList)=false:=hs;clear h hs;generalize hd l=T at *;have EA:=zup T.kind T.n T.text;go_enter Tryz.func197,Tryz.ntmps197;go_wp2_with fail;refine HA.out.mono ?_;rintro e w1 ⟨rfl,A6⟩;clear HA;go_wp2_with fail;go_ret;exact ⟨rfl,HR.out.later A6,Keeps.of_below A6 R⟩
theorem take_any (R cap:Nat) (a:OA) (ts l:List Tk) (w:World) (h:Rd R a cap ts w l) :
 qc 251 #[pq R 0] w fun e w'=>e = .returned (.agg #[qi (hd l).kind,qi (hd l).n,.string (hd l).text])/\(l≠[]->Rd R a cap ts w' l.tail)/\Keeps R w w':=by
 obtain ⟨k,hk,rfl,hb⟩:=h.idx;have HR:Hid (Rd R a cap ts w (ts.drop k)):=h;have EW:=h.len
 have HN:Hid (ts.drop k≠[]->k<ts.length):=fun Ak=>by
  by_cases hk:k<ts.length
  . exact hk
  . exact absurd (vct (by omega)) Ak
 have HT:Hid ((ts.drop k).tail=ts.drop (k+1)):=by show List.tail _=_;rw [List.tail_drop]
 have HB:Hid (w.heap[R]? = some (.cells #[.slice a ts.length cap,qi k] 239 (0,0))):=hb
 have HA:Hid (∀ w:World,Rd R a cap ts w (ts.drop k)->qc 252 #[pq R 0,qi 0] w fun e w'=>e = .returned (.agg #[qi (hd (ts.drop k)).kind,qi (hd (ts.drop k)).n,.string (hd (ts.drop k)).text])/\qb w w'):=fun w h=>zqr R cap a ts (ts.drop k) w h
 clear h hb;generalize hd (ts.drop k)=T at *;go_enter Tryz.func251,Tryz.ntmps251;go_wp2_with fail;refine (HA.out _ (HR.out.later ((Below.refl _ _).alloc (vaa _) _))).mono ?_;rintro e w1 ⟨rfl,A6⟩;have F4:qb w w1:=((Below.refl _ _).alloc (vaa _) _).trans (A6.mono (by simp));have Qa:=HR.out.lt;have An:=A6.size;simp at An;have A7:Hid (w1.heap[R]? = some (.cells #[.slice a ts.length cap,qi k] 239 (0,0))):=(F4.block R Qa).trans HB.out
 have Bf:w1.cell? (qa R 1)=some (qi k):=by rw [vef A7.out];rfl
 have E0:w1.frozen? (qa R 1)=false:=veg A7.out 1;have Gw:w1.heap[w.heap.size]? = some (.cells #[qi 0,qi 0,.string ⟨#[]⟩] 184):=(A6.block w.heap.size (by simp)).trans (_root_.Go.heap_alloc_new w _)
 have G0:w1.cell? (qa w.heap.size 0)=some (qi 0):=by rw [vef Gw];rfl
 have C8:w1.cell? (qa w.heap.size 1)=some (qi 0):=by rw [vef Gw];rfl
 have Dt:w1.cell? (qa w.heap.size 2)=some (.string ⟨#[]⟩):=by rw [vef Gw];rfl
 have OC:w1.frozen? (qa w.heap.size 0)=false:=veg Gw 0;have Mf:w1.frozen? (qa w.heap.size 1)=false:=veg Gw 1;have DZ:w1.frozen? (qa w.heap.size 2)=false:=veg Gw 2;clear Gw
 have Bi:R<w1.heap.size:=by omega
 have Q6:w.heap.size<w1.heap.size:=by omega
 have Ak:w.heap.size≠R:=by omega
 go_wp2_with fail;refine bodyPost_ret (v:=.agg #[qi T.kind,qi T.n,.string T.text]) (by simp [results,Tryz.results251,go_sem,G0,C8,Dt,Q6]) rfl ⟨rfl,fun LR=>?_,?_⟩
 . rw [HT.out]
   exact (((((HR.out.later F4).adv (HN.out LR) A7.out).setAbove HR.out (vaa _) _).setAbove HR.out (vaa _) _).setAbove HR.out (vaa _) _).alloc _
 . exact ((((Keeps.of_below F4 R).own 1 _).set (vaa _) _).set (vaa _) _).set (vaa _) _ |>.alloc _
theorem zkw (s:ByteArray) (w:World) :
 qc 237 #[.string s] w fun e w'=>e = .returned (.bool (zn3 s))/\w'=w:=by
 go_enter Tryz.func237,Tryz.ntmps237;go_wp2_with fail
 all_goals go_ret
 all_goals exact ⟨ret_bool (by simp_all [zn3,z4j]),rfl⟩
def zd4 {α:Type} (R:Nat) (a:OA) (cap:Nat) (ts:List Tk) (w:World) (r:Option (α × List Tk)) (AD:α->World->Value->Prop) (e:Ending) (w':World):Prop:=
 Keeps R w w'/\((r=none/\e = .panicked zag)\/∃ x l v,r=some (x,l)/\e = .returned v/\AD x w' v/\Rd R a cap ts w' l)
theorem Rd.fit {R cap:Nat} {a:OA} {ts l:List Tk} {w:World} (h:Rd R a cap ts w l):(hd l).text.size<=maxLen:=by
 obtain ⟨k,hk,rfl,hb⟩:=h.idx
 by_cases A4:k<ts.length
 . rw [z5g A4]
   obtain ⟨b,off,_,hT⟩:=h.toks.place A4;exact hT.fits k A4
 . rw [z33 A4];exact vag _
theorem zbv (R cap:Nat) (a:OA) (ts l:List Tk) (w:World) (h:Rd R a cap ts w l) :
 qc 196 #[pq R 0] w (zd4 R a cap ts w (zde l) fun x _ v=>v = .string x/\x.size<=maxLen):=by
 have HT:Hid (qc 251 #[pq R 0] w fun e w'=>e = .returned (.agg #[qi (hd l).kind,qi (hd l).n,.string (hd l).text])/\(l≠[]->Rd R a cap ts w' l.tail)/\Keeps R w w'):=take_any R cap a ts l w h;have HF:Hid ((hd l).text.size<=maxLen):=h.fit;go_enter Tryz.func196,Tryz.ntmps196;go_wp2_with fail;refine HT.out.mono ?_;rintro e w1 ⟨rfl,B3,AF⟩
 by_cases hk:(hd l).kind=1
 . have HN:Hid (zde l=if !zn3 (hd l).text then some ((hd l).text,l.tail) else none):=by show zde l=_;unfold zde;simp [hk]
   have HL:Hid (l≠[]):=zj8 (by rw [hk];decide)
   by_cases hp:zn3 (hd l).text=true
   . go_wp2_with (go_at_call 237;refine (zkw _ _).mono ?_;rintro e w' ⟨rfl,rfl⟩)
     exact ⟨rfl,AF.alloc _,Or.inl ⟨by rw [HN.out,hp];rfl,rfl⟩⟩
   . have GT:zn3 (hd l).text=false:=by simpa using hp
     clear hp
     go_wp2_with (go_at_call 237;refine (zkw _ _).mono ?_;rintro e w' ⟨rfl,rfl⟩)
     go_ret;exact ⟨AF.alloc _,Or.inr ⟨_,_,_,by rw [HN.out,GT];rfl,rfl,⟨rfl,HF.out⟩,(B3 HL.out).alloc _⟩⟩
 . have HN:Hid (zde l=none):=by show zde l=_;unfold zde;simp [hk]
   go_wp2_with fail;exact ⟨rfl,AF.alloc _,Or.inl ⟨HN.out,rfl⟩⟩
theorem zg9 (R cap:Nat) (a:OA) (ts l:List Tk) (w:World) (h:Rd R a cap ts w l) :
 qc 253 #[pq R 0] w (zd4 R a cap ts w (pNum l) fun x _ v=>v=qi x):=by
 have HT:Hid (qc 251 #[pq R 0] w fun e w'=>e = .returned (.agg #[qi (hd l).kind,qi (hd l).n,.string (hd l).text])/\(l≠[]->Rd R a cap ts w' l.tail)/\Keeps R w w'):=take_any R cap a ts l w h;go_enter Tryz.func253,Tryz.ntmps253;go_wp2_with fail;refine HT.out.mono ?_;rintro e w1 ⟨rfl,B3,AF⟩
 by_cases hk:(hd l).kind=2
 . have HN:Hid (pNum l=some ((hd l).n,l.tail)):=by show pNum l=_;unfold pNum;simp [hk]
   have HL:Hid (l≠[]):=zj8 (by rw [hk];decide);go_wp2_with fail;go_ret;exact ⟨AF.alloc _,Or.inr ⟨_,_,_,HN.out,rfl,rfl,(B3 HL.out).alloc _⟩⟩
 . have HN:Hid (pNum l=none):=by show pNum l=_;unfold pNum;simp [hk]
   go_wp2_with fail;exact ⟨rfl,AF.alloc _,Or.inl ⟨HN.out,rfl⟩⟩
theorem zy5 {α:Type} {p:α->Bool}:∀ {l:List α},(l.take l.length).all (fun x=>!p x)=true->l.find? p=none:=by
 intro l h;rw [vau] at h;rw [List.find?_eq_none];intro x hx;have:=vas.1 h x hx;simpa using this
theorem zst {α:Type} {p:α->Bool}:∀ {l:List α} {k:Nat} (hk:k<l.length),(l.take k).all (fun x=>!p x)=true->p l[k]=true->l.find? p=some l[k]
 | [],k,hk,_,_=>by simp at hk
 | x :: r,0,hk,_,h=>by simp at h;simp [h]
 | x :: r,k+1,hk,ha,h=>by
   simp only [List.take_succ_cons,vcr,vac] at ha
   have hx:p x=false:=by simpa using ha.1
   rw [vcq,hx];exact zst (by simpa using hk) ha.2 h
theorem zjy (R cap b c:Nat) (a:OA) (ts l:List Tk) (At:List ByteArray) (w:World) (h:Rd R a cap ts w l) (hb:b<w.heap.size) (Mv:b≠R) (hn:At.length<=100)
 (hc:∀ i (h:i<At.length),w.cell? (qa b i)=some (.string At[i])) (hp:∀ i (h:i<At.length),0<At[i].size) :
 qc 195 #[pq R 0,.slice (some (qa b 0)) At.length c] w (zd4 R a cap ts w ((zjg l At).map fun t=>(t,l.tail)) fun x _ v=>v = .string x):=by
 have HR:Hid (Rd R a cap ts w l):=h;have HC:Hid (∀ i (h:i<At.length),w.cell? (qa b i)=some (.string At[i])):=hc;have HP:Hid (∀ i (h:i<At.length),0<At[i].size):=hp;clear h hc hp;go_enter Tryz.func195,Tryz.ntmps195;go_wp2_with fail
 go_loopw [9,6] (fun i _ wr=>∃ k:Nat,k<=At.length/\i=qi k/\(At.take k).all (fun t=>!skB l t)=true/\Rd R a cap ts wr l/\Keeps R w wr) (fun i _ _=>At.length - (intOf i).toNat)
 case atStart=>exact ⟨0,vag _,rfl,rfl,HR.out,Keeps.refl _ _⟩
 case round=>
  obtain ⟨k,hk,rfl,A8,Dj,Bg⟩:=hrel;have HA:Hid ((At.take k).all (fun t=>!skB l t)=true):=A8;have HD:Hid (Rd R a cap ts wr l):=Dj;clear A8 Dj
  by_cases A4:k<At.length
  . have Gx:wr.cell? (qa b k)=some (.string At[k]):=(Bg.cell hb Mv).trans (HC.out k A4)
    by_cases hs:skB l At[k]=true
    . have HS:Hid (qc 197 #[pq R 0,.string At[k]] wr fun e w'=>e = .returned (.bool true)/\Rd R a cap ts w' l.tail/\Keeps R wr w'):=zbl R cap a ts l At[k] wr (HP.out k A4) HD.out hs
      have HM:Hid (zjg l At=some At[k]):=zst A4 HA.out hs
      go_wp2_with (go_at_call 197;refine HS.out.mono ?_;rintro e w2 ⟨rfl,Ao,AL⟩)
      go_ret;exact ⟨Bg.trans AL,Or.inr ⟨_,_,_,by rw [HM.out];rfl,rfl,rfl,Ao⟩⟩
    . have EO:skB l At[k]=false:=by simpa using hs
      have HS:Hid (qc 197 #[pq R 0,.string At[k]] wr fun e w'=>e = .returned (.bool false)/\Rd R a cap ts w' l/\Keeps R wr w'):=zb2 R cap a ts l At[k] wr HD.out EO
      go_wp2_with (go_at_call 197;refine HS.out.mono ?_;rintro e w2 ⟨rfl,Ao,AL⟩)
      go_roundw
      case rel=>exact ⟨k+1,by omega,by go_num,by rw [all_snoc At _ k A4,HA.out,EO];rfl,Ao,Bg.trans AL⟩
      case measure=>simp [intOf];omega
  . have M8:k=At.length:=by omega
    subst M8;have HM:Hid (zjg l At=none):=zy5 HA.out;go_wp2_with fail;exact ⟨rfl,Bg,Or.inl ⟨by rw [HM.out];rfl,rfl⟩⟩
theorem zfk (R cap n:Nat) (a:OA) (ts l:List Tk) (t:ByteArray) (w:World) (hn:n=w.heap.size) (h:Rd R a cap ts w l) (ht:0<t.size) :
 qc 195 #[pq R 0,.slice (some (qa n 0)) 1 1] (w.alloc (.cells #[.string t] 9)) fun e w'=>Keeps R w w'/\((skB l t=false/\e = .panicked zag)\/(skB l t=true/\e = .returned (.string t)/\Rd R a cap ts w' l.tail)):=by
 have A4:=h.lt;subst hn;refine (zjy R cap w.heap.size 1 a ts l [t] _ (h.alloc _) (by simp) (by omega) (by simp) (fun i hi=>?_) (fun i hi=>?_)).mono ?_
 . obtain rfl:i=0:=by simp at hi;omega
   simp
 . obtain rfl:i=0:=by simp at hi;omega
   exact ht
 . rintro e w' ⟨hk,hr⟩
   refine ⟨((Keeps.refl R w).alloc _).trans hk,?_⟩
   have hm:zjg l [t]=if skB l t then some t else none:=by unfold zjg;rw [vcq];cases skB l t<;>rfl
   rw [hm] at hr
   cases hs:skB l t
   . rw [hs] at hr
     rcases hr with ⟨_,rfl⟩ | ⟨x,l',v,hr,_⟩
     . exact Or.inl ⟨rfl,rfl⟩
     . simp at hr
   . rw [hs] at hr
     rcases hr with ⟨hr,_⟩ | ⟨x,l',v,hr,rfl,rfl,hR⟩
     . simp at hr
     . simp at hr
       obtain ⟨rfl,rfl⟩:=hr;exact Or.inr ⟨rfl,rfl,hR⟩
theorem zos (R cap:Nat) (a:OA) (ts l:List Tk) (t:ByteArray) (w:World) (ht:0<t.size) (h:Rd R a cap ts w l) :
 qc 197 #[pq R 0,.string t] w fun e w'=>e = .returned (.bool (skB l t))/\Rd R a cap ts w' (if skB l t then l.tail else l)/\Keeps R w w':=by
 cases hs:skB l t
 . exact zb2 R cap a ts l t w h hs
 . exact zbl R cap a ts l t w ht h hs
set_option maxHeartbeats 800000
theorem heap_set {w:World} {b i:Nat} {cs:Array Value} {t:TypeId} {f:Nat × Nat} (h:w.heap[b]? = some (.cells cs t f)) (u:Value):(w.setCell (qa b i) u).heap[b]? = some (.cells (cs.setIfInBounds i u) t f):=by
 simp [World.setCell,Array.getElem?_modify,h]
theorem heap_set_ne {w:World} {b:Nat} {p:Addr} (h:b≠p.block) (u:Value):(w.setCell p u).heap[b]? = w.heap[b]?:=Below.heap_setCell w p u b h
theorem zab {w:World} {b:Nat} {x o:Obj} (h:w.heap[b]? = some x):(w.alloc o).heap[b]? = some x:=((Below.refl w.heap.size w).alloc (vaa _) o |>.block b (lt_of_heap h)).trans h
theorem heap_newP (w:World) (o:Obj):(w.alloc o).heap[w.heap.size]? = some o:=_root_.Go.heap_alloc_new w o
theorem zaa {w:World} {b:Nat} {x0 x1 x2 x3 x4:Value} {t:TypeId} (h:w.heap[b]? = some (.cells #[x0,x1,x2,x3,x4] t (0,0))) :
 w.cell? (qa b 0)=some x0/\w.cell? (qa b 1)=some x1/\w.cell? (qa b 2)=some x2/\w.cell? (qa b 3)=some x3/\w.cell? (qa b 4)=some x4/\∀ i,w.frozen? (qa b i)=false:=by
 refine ⟨?_,?_,?_,?_,?_,fun i=>veg h i⟩<;>(rw [vef h];rfl)
theorem zam {w:World} {b:Nat} {x0 x1 x2 x3 x4 x5:Value} {t:TypeId} (h:w.heap[b]? = some (.cells #[x0,x1,x2,x3,x4,x5] t (0,0))) :
 w.cell? (qa b 0)=some x0/\w.cell? (qa b 1)=some x1/\w.cell? (qa b 2)=some x2/\w.cell? (qa b 3)=some x3/\w.cell? (qa b 4)=some x4/\w.cell? (qa b 5)=some x5/\∀ i,w.frozen? (qa b i)=false:=by
 refine ⟨?_,?_,?_,?_,?_,?_,fun i=>veg h i⟩<;>(rw [vef h];rfl)
theorem zcj {w:World} {b:Nat} {x0 x1 x2 x3:Value} {t:TypeId} (h:w.heap[b]? = some (.cells #[x0,x1,x2,x3] t (0,0))) :
 w.cell? (qa b 0)=some x0/\w.cell? (qa b 1)=some x1/\w.cell? (qa b 2)=some x2/\w.cell? (qa b 3)=some x3/\∀ i,w.frozen? (qa b i)=false:=by
 refine ⟨?_,?_,?_,?_,fun i=>veg h i⟩<;>(rw [vef h];rfl)
theorem zad.keeps {R:Nat} {w w1 w2:World} {A A':Nat->Prop} (h:zad w A w1 A') (hk:Keeps R w1 w2) (hR:∀ b,b<w.heap.size->A b->b≠R):zad w A w2 A':=
 ⟨vbc h.1 hk.size,fun b hb ha=>⟨(h.2 b hb ha).1,(hk.block b (vah hb h.1) (hR b hb ha)).trans (h.2 b hb ha).2⟩⟩
theorem zad.set {w w1:World} {A A':Nat->Prop} (h:zad w A w1 A') {p:Addr} (hp:∀ b,b<w.heap.size->A b->b≠p.block) (u:Value):zad w A (w1.setCell p u) A':=
 ⟨by rw [vaq];exact h.1,fun b hb ha=>⟨(h.2 b hb ha).1,(Below.heap_setCell w1 p u b (hp b hb ha)).trans (h.2 b hb ha).2⟩⟩
theorem zad.to {w w1:World} {lo lo':Nat} (h:zad w (lo<=·) w1 (lo<=·)) (hl:lo'<=lo):zad w (lo<=·) w1 (lo'<=·):=h.trans (zad.lower hl)
theorem Keeps.drew {R:Nat} {w w1:World} (h:Keeps R w w1):Keeps R w w1.drew:=⟨h.os,h.tape,h.output,h.size,h.block⟩
theorem Rd.drew {R cap:Nat} {a:OA} {ts l:List Tk} {w:World} (h:Rd R a cap ts w l):Rd R a cap ts w.drew l:=h.still (Keeps.refl R w).drew rfl
theorem zad.drew {w w1:World} {A A':Nat->Prop} (h:zad w A w1 A'):zad w A w1.drew A':=⟨h.1,h.2⟩
abbrev set5 (w:World) (b:Nat) (v0 v1 v2 v3 v4:Value):World:=((((w.setCell (qa b 0) v0).setCell (qa b 1) v1).setCell (qa b 2) v2).setCell (qa b 3) v3).setCell (qa b 4) v4
abbrev set6 (w:World) (b:Nat) (v0 v1 v2 v3 v4 v5:Value):World:=(set5 w b v0 v1 v2 v3 v4).setCell (qa b 5) v5
section
variable {R cap b:Nat} {w w0 w1:World} {a:OA} {ts l l0:List Tk} {A A':Nat->Prop}
theorem Keeps.set5 (h:Keeps R w w1) (hp:w.heap.size<=b) (v0 v1 v2 v3 v4:Value):Keeps R w (set5 w1 b v0 v1 v2 v3 v4):=((((h.set hp v0).set hp v1).set hp v2).set hp v3).set hp v4
theorem Keeps.set6 (h:Keeps R w w1) (hp:w.heap.size<=b) (v0 v1 v2 v3 v4 v5:Value):Keeps R w (set6 w1 b v0 v1 v2 v3 v4 v5):=(h.set5 hp v0 v1 v2 v3 v4).set hp v5
theorem Rd.set5 (h:Rd R a cap ts w1 l) (h0:Rd R a cap ts w0 l0) (hp:w0.heap.size<=b) (v0 v1 v2 v3 v4:Value):Rd R a cap ts (set5 w1 b v0 v1 v2 v3 v4) l:=((((h.setAbove h0 hp v0).setAbove h0 hp v1).setAbove h0 hp v2).setAbove h0 hp v3).setAbove h0 hp v4
theorem Rd.set6 (h:Rd R a cap ts w1 l) (h0:Rd R a cap ts w0 l0) (hp:w0.heap.size<=b) (v0 v1 v2 v3 v4 v5:Value):Rd R a cap ts (set6 w1 b v0 v1 v2 v3 v4 v5) l:=(h.set5 h0 hp v0 v1 v2 v3 v4).setAbove h0 hp v5
theorem zad.set5 (h:zad w A w1 A') (hp:∀ k,k<w.heap.size->A k->k≠b) (v0 v1 v2 v3 v4:Value):zad w A (set5 w1 b v0 v1 v2 v3 v4) A':=((((h.set hp v0).set hp v1).set hp v2).set hp v3).set hp v4
theorem zad.set6 (h:zad w A w1 A') (hp:∀ k,k<w.heap.size->A k->k≠b) (v0 v1 v2 v3 v4 v5:Value):zad w A (set6 w1 b v0 v1 v2 v3 v4 v5) A':=(h.set5 hp v0 v1 v2 v3 v4).set hp v5
end
def zgs (A:Nat->Prop) (x:Ex) (w:World) (v:Value):Prop:=∃ a cap,v = .agg #[qi x.op,qi x.n,.string x.mod,.string x.name,.slice a x.args.length cap]/\x.mod.size<=maxLen/\x.name.size<=maxLen/\EAt w A a x.args.length (zbo x.args)
def zfl (x:Ex) (a:OA) (cap:Nat):List Value:=[qi x.op,qi x.n,.string x.mod,.string x.name,.slice a x.args.length cap]
theorem zfm {A:Nat->Prop} {x:Ex} {w:World} {a:OA} {cap:Nat} (h1:x.mod.size<=maxLen) (h2:x.name.size<=maxLen) (h3:EAt w A a x.args.length (zbo x.args)):zau w A x.ds (zfl x a cap):=by
 cases x
 unfold Ex.ds;exact .cons zpw (.cons zpw (.cons (zw9 h1) (.cons (zw9 h2) (.cons h3.val .nil))))
theorem zkx {A A':Nat->Prop} {x:Ex} {w w':World} {a:OA} {cap g:Nat} {t:TypeId} (h1:x.mod.size<=maxLen) (h2:x.name.size<=maxLen) (h3:EAt w A a x.args.length (zbo x.args))
 (hm:zad w A w' A') (hg:w'.heap[g]? = some (.cells #[qi x.op,qi x.n,.string x.mod,.string x.name,.slice a x.args.length cap] t (0,0))) (hA:A' g):EAt w' A' (some (qa g 0)) 1 (zbo [x]):=by
 rw [zjz];refine Or.inr ⟨g,0,zfl x a cap,rfl,hA,lt_of_heap hg,fun j u hj=>?_,zfm h1 h2 (h3.moves hm)⟩;rw [vba,vef hg];simpa [zfl] using hj
theorem z7h {A B A':Nat->Prop} {x y:Ex} {w u w':World} {a b:OA} {cap dap g:Nat} {t:TypeId} (h:x.mod.size<=maxLen/\x.name.size<=maxLen/\EAt w A a x.args.length (zbo x.args)) (k:y.mod.size<=maxLen/\y.name.size<=maxLen/\EAt u B b y.args.length (zbo y.args))
 (hm:zad w A w' A') (km:zad u B w' A') (hg:w'.heap[g]? = some (.cells #[qi x.op,qi x.n,.string x.mod,.string x.name,.slice a x.args.length cap,qi y.op,qi y.n,.string y.mod,.string y.name,.slice b y.args.length dap] t (0,0))) (hA:A' g):EAt w' A' (some (qa g 0)) 2 (zbo [x,y]):=by
 have e:zbo [x,y]=x.ds++y.ds:=by simp [zbo]
 rw [e];refine Or.inr ⟨g,0,zfl x a cap++zfl y b dap,rfl,hA,lt_of_heap hg,fun j u hj=>?_,(zfm h.1 h.2.1 (h.2.2.moves hm)).append (zfm k.1 k.2.1 (k.2.2.moves km))⟩;rw [vba,vef hg];simpa [zfl] using hj
theorem zy6 (R cap:Nat) (a:OA) (ts l:List Tk) (w:World) (h:Rd R a cap ts w l) :
 qc 294 #[pq R 0] w (zd4 R a cap ts w (zw7 l) fun x _ v=>v = .tuple #[.string x.1,.string x.2]/\x.1.size<=maxLen/\x.2.size<=maxLen):=by
 have HN:Hid (qc 196 #[pq R 0] w (zd4 R a cap ts w (zde l) fun x _ v=>v = .string x/\x.size<=maxLen)):=zbv R cap a ts l w h;clear h;go_enter Tryz.func294,Tryz.ntmps294;go_wp2_with fail;refine HN.out.mono ?_;rintro e w1 ⟨AF,⟨hn,rfl⟩ | ⟨x,l1,v,hn,rfl,⟨rfl,hx⟩,B3⟩⟩
 . exact ⟨rfl,AF,Or.inl ⟨by unfold zw7;rw [hn],rfl⟩⟩
 have ED:Hid (zde l=some (x,l1)):=hn;have HD:Hid (Rd R a cap ts w1 l1):=B3;clear HN hn B3;go_wp2_with fail
 by_cases hs:skB l1 z4i=true
 . refine (zbl R cap a ts l1 z4i w1 (by decide) HD.out hs).mono ?_
   rintro e w2 ⟨rfl,Ao,AL⟩;go_wp2_with fail;refine (zbv R cap a ts l1.tail w2 Ao).mono ?_;rintro e w3 ⟨Am,⟨FB,rfl⟩ | ⟨y,l3,v,FB,rfl,⟨rfl,hy⟩,Aq⟩⟩
   . exact ⟨rfl,(AF.trans AL).trans Am,Or.inl ⟨by unfold zw7;rw [ED.out];simp only [];rw [if_pos hs,FB],rfl⟩⟩
   go_wp2_with fail;go_ret2;exact ⟨(AF.trans AL).trans Am,Or.inr ⟨(x,y),l3,_,by unfold zw7;rw [ED.out];simp only [];rw [if_pos hs,FB],rfl,⟨rfl,hx,hy⟩,Aq⟩⟩
 . have EO:skB l1 z4i=false:=by simpa using hs
   refine (zb2 R cap a ts l1 z4i w1 HD.out EO).mono ?_;rintro e w2 ⟨rfl,Ao,AL⟩;go_wp2_with fail;go_ret2;exact ⟨AF.trans AL,Or.inr ⟨(⟨#[]⟩,x),l1,_,by unfold zw7;rw [ED.out];simp only [];rw [if_neg hs],rfl,⟨rfl,vag _,hx⟩,Ao⟩⟩
theorem zy7 (l:List Tk):(zjg l opTexts=none/\zxf l=none)\/∃ k:Nat,∃ h:k<opTexts.length,zjg l opTexts=some opTexts[k]/\zxf l=some k:=by
 unfold zxf zjg
 cases hf:opTexts.findIdx? (fun t=>skB l t) with
 | none=>
   left
   rw [vcx] at hf;refine ⟨List.find?_eq_none.2 fun x hx=>by simpa using hf x hx,rfl⟩
 | some k=>
   right
   obtain ⟨hk,h2,h3⟩:=vbo.1 hf;refine ⟨k,hk,?_,rfl⟩;refine zst hk ?_ h2;rw [vas];intro x hx;obtain ⟨j,hj,rfl⟩:=List.mem_take_iff_getElem.1 hx
   have QF:j<k:=by omega
   simpa using h3 j QF
abbrev opSigns:ByteArray:=⟨#[38,124,43,45,42,47,37,61,60]⟩
theorem zy8 (w:World):qc 298 #[.string opSigns,.string ⟨#[]⟩] w fun e w'=>∃ b,e = .returned (.slice (some (qa b 0)) 9 9)/\w.heap.size<=b/\b<w'.heap.size/\(∀ i (h:i<opTexts.length),w'.cell? (qa b i)=some (.string opTexts[i]))/\qb w w':=by
 have Dy:∀ (j:Nat) b,opSigns.data.toList[j]? = some b->b.toNat<128:=by
  intro j b hj;have hm:=vdh hj
  have A8:∀ x ∈ opSigns.data.toList,x.toNat<128:=by decide
  exact A8 b hm
 refine (Tryz.strings_Split_chars opSigns ⟨#[]⟩ w rfl (by decide) Dy).mono ?_;rintro e w' ⟨rfl,rfl⟩;refine ⟨_,rfl,by simp [World.iter],by simp [World.iter],fun i hi=>?_,?_⟩
 . have e9:Lib.charsB opSigns=opTexts:=by decide +kernel
   rw [e9,vef (heap_newP _ _)];simp [hi]
 . exact ((Below.refl w.heap.size w).alloc (vaa _) _).alloc (by simp) _
theorem z11 (R cap b:Nat) (a:OA) (ts l:List Tk) (w:World) (h:Rd R a cap ts w l) (hb:b<w.heap.size) (Mv:b≠R) (hc:∀ i (h:i<opTexts.length),w.cell? (qa b i)=some (.string opTexts[i])) :
 qc 195 #[pq R 0,.slice (some (qa b 0)) 9 9] w fun e w'=>Keeps R w w'/\((zxf l=none/\e = .panicked zag)\/∃ (k:Nat) (c:UInt8),zxf l=some k/\k<9/\Lib.indexByte opSigns.data.toList c=k/\e = .returned (.string ⟨#[c]⟩)/\Rd R a cap ts w' l.tail):=by
 refine (zjy R cap b 9 a ts l opTexts w h hb Mv (by decide) hc (by decide)).mono ?_;rintro e w' ⟨hk,hr⟩;refine ⟨hk,?_⟩
 rcases zy7 l with ⟨hm,ho⟩ | ⟨k,hk,hm,ho⟩
 . rw [hm] at hr
   rcases hr with ⟨_,rfl⟩ | ⟨_,_,_,h0,_⟩
   . exact Or.inl ⟨ho,rfl⟩
   . cases h0
 . rw [hm] at hr
   rcases hr with ⟨h0,_⟩ | ⟨t3,l3,v3,h0,rfl,rfl,Aq⟩
   . cases h0
   . obtain ⟨rfl,rfl⟩:=vao (vab h0)
     right
     have hs:∀ k (h:k<opTexts.length),∃ c:UInt8,opTexts[k]=⟨#[c]⟩/\Lib.indexByte opSigns.data.toList c=k:=by
      intro k hk;have FE:k<9:=hk
      obtain rfl | rfl | rfl | rfl | rfl | rfl | rfl | rfl | rfl:k=0\/k=1\/k=2\/k=3\/k=4\/k=5\/k=6\/k=7\/k=8:=by omega
      all_goals exact ⟨_,rfl,by decide +kernel⟩
     obtain ⟨c,Bf,BW⟩:=hs k hk;exact ⟨k,c,ho,hk,BW,by rw [Bf],Aq⟩
theorem Tryz.infoP80:(Tryz.prog.info? 174).map (fun i=>(i.zero,i.size,i.bytes))=some (some (.agg #[qi 0,qi 0,.string ⟨#[]⟩,.string ⟨#[]⟩,qs]),5,72):=by kernel_rfl
theorem Tryz.infoP48:(Tryz.prog.info? 176).map (fun i=>(i.zero,i.size,i.bytes))=some (some (.agg #[qi 0,.string ⟨#[]⟩,.string ⟨#[]⟩,qs,qs,qs]),6,112):=by kernel_rfl
theorem Tryz.infoP56:(Tryz.prog.info? 170).map (fun i=>(i.zero,i.size,i.bytes))=some (some (.agg #[qi 0,.string ⟨#[]⟩,.bool false,qi 0]),4,40):=by kernel_rfl
theorem Tryz.infoP60:(Tryz.prog.info? 118).map (fun i=>(i.zero,i.size,i.bytes))=some (some (.agg #[.string ⟨#[]⟩,.bool false,qs,qs,qs]),5,96):=by kernel_rfl
theorem Tryz.infoP9:(Tryz.prog.info? 9).map (fun i=>(i.zero,i.size,i.bytes))=some (some (.string ⟨#[]⟩),1,16):=by kernel_rfl
theorem zy9 {R:Nat} {w w':World} {base:Nat} {e:TypeId} {size:Nat} {v:Value} {n:Nat} {xs:List Value} (h:w.ownsRow base e size v n xs) (hk:Keeps R w w') (hR:R<base):w'.ownsRow base e size v n xs:=by
 refine ⟨h.1,?_⟩
 rcases h.2 with h2 | ⟨g,cap,AC,h1,hb,hg,hr⟩
 . exact Or.inl h2
 . exact Or.inr ⟨g,cap,AC,h1,hb,(hk.block g (lt_of_heap hg) (by omega)).trans hg,hr⟩
def zes (lo:Nat) (v:Value) (b:Nat):Prop:=lo<=b/\v.ownBlock≠some b
def Row (base:Nat) (e:TypeId) (size:Nat) (w:World) (v:Value) (n:Nat) (ds:List D):Prop:=∃ xs,w.ownsRow base e size v n xs/\zau w (zes base v) ds xs
section
variable {base:Nat} {e:TypeId} {size:Nat} {w w':World} {v:Value} {n R:Nat} {ds:List D}
theorem Row.nil (base:Nat) (e:TypeId) (size:Nat) (w:World):Row base e size w (qs) 0 []:=⟨[],vek _ _ _ _,.nil⟩
theorem Row.keeps (h:Row base e size w v n ds) (hk:Keeps R w w') (hR:R<base):Row base e size w' v n ds:=by
 obtain ⟨xs,h1,h2⟩:=h;refine ⟨xs,zy9 h1 hk hR,h2.moves ((zad.refl w _).keeps hk ?_)⟩
 intro b _ hb;have:=hb.1;omega
theorem Row.later (h:Row base e size w v n ds) (hb:qb w w'):Row base e size w' v n ds:=by
 obtain ⟨xs,h1,h2⟩:=h;exact ⟨xs,ownsRow_later h1 hb,h2.moves (zad.of_below hb _)⟩
theorem Row.alloc (h:Row base e size w v n ds) (o:Obj):Row base e size (w.alloc o) v n ds:=h.later ((Below.refl _ _).alloc (vaa _) o)
theorem Row.set (h:Row base e size w v n ds) {p:Addr} (hp:p.block<base) (u:Value):Row base e size (w.setCell p u) v n ds:=by
 obtain ⟨xs,h1,h2⟩:=h;refine ⟨xs,ownsRow_setCell_below h1 hp u,h2.moves ((zad.refl w _).set ?_ u)⟩
 intro b _ hb;have:=hb.1;omega
theorem Row.slice (h:Row base e size w v n ds):∃ a cap,v = .slice a n cap/\EAt w (base<=·) a n ds:=by
 obtain ⟨xs,h1,h2⟩:=h
 have hm:zad w (zes base v) w (base<=·):=⟨vaa _,fun b _ hb=>⟨hb.1,rfl⟩⟩
 rcases h1.2 with ⟨rfl,rfl⟩ | ⟨g,cap,AC,rfl,_⟩
 . exact ⟨none,0,rfl,Or.inl rfl⟩
 . exact ⟨_,cap,rfl,EAt.of_own h1 (fun _ h=>h) (h2.moves hm)⟩
theorem Row.lt (h:Row base e size w v n ds):∀ k,v.ownBlock=some k->base<=k/\k<w.heap.size:=by
 obtain ⟨xs,h1,_⟩:=h;exact h1.lt
theorem Row.one {A:Nat->Prop} {cs:Array Value} {g:Nat} (hg:w.heap[g]? = some (.cells cs e (0,0))) (hb:base<=g) (hs:cs.size=size) (hd:zau w A ds cs.toList) (hA:∀ b,b<w.heap.size->A b->base<=b/\b≠g) :
 Row base e size w (.slice (some (qa g 0)) 1 1) 1 ds:=by
 refine ⟨cs.toList,⟨by simp [hs],Or.inr ⟨g,1,cs,rfl,hb,hg,vaa _,by unfold maxLen;omega,by omega,by rw [vdm,← hs];exact vaw (by simp)⟩⟩,hd.moves ⟨vaa _,fun b h1 h2=>⟨⟨(hA b h1 h2).1,fun h=>(hA b h1 h2).2 ?_⟩,rfl⟩⟩⟩;simp only [Value.ownBlock] at h;exact (vab h).symm
theorem Row.first {A:Nat->Prop} {cs:Array Value} (hd:zau w A ds cs.toList) (hA:∀ b,b<w.heap.size->A b->base<=b) (hb:base<=w.heap.size) (hs:cs.size=size) :
 Row base e size (w.alloc (.cells cs e)) (.slice (some (qa w.heap.size 0)) 1 1) 1 ds:=by
 refine Row.one (heap_newP w _) hb hs (A:=fun b=>A b/\b<w.heap.size) (hd.moves ⟨by simp,fun b h1 h2=>⟨⟨h2,h1⟩,((Below.refl w.heap.size w).alloc (vaa _) (.cells cs e)).block b h1⟩⟩) ?_;intro b _ h2;exact ⟨hA b h2.2 h2.1,by omega⟩
end
theorem zbs {P:Program} {ops:Array Oper} {rest:List Oper} {o:Oper} {a:Act} {Q:Exit->Act->World->Prop} (BC:o.guard=none) (s x:Operand) (t:TypeId)
 (ho:o.op = .call { callee:=.builtin .append,args:=#[s,x],argTypes:=#[t,t] }) (base:Nat) (e:TypeId) (z:Value) (size bytes:Nat) (ht:P.underlying t=some (.slice e))
 (hi:(P.info? e).map (fun i=>(i.zero,i.size,i.bytes))=some (some z,size,bytes)) (FO:z.cells.size=size) (Ch:0<size) (w:World) (v:Value) (n:Nat) (ds nd:List D) (hs:a.eval s=v) (Aa:Row base e size w v n ds)
 (cs:Array Value) (H:Nat) (hH:H=w.heap.size) (hx:a.eval x = .slice (some (qa H 0)) 1 1) (Bn:cs.size=size) (A:Nat->Prop) (IA:zau w A nd cs.toList) (hA:∀ b,b<w.heap.size->A b->zes base v b)
 (hn:n<=5000) (Dw:bytes<=200) (AO:base<=w.heap.size)
 (h:∀ g cap w',Row base e size w' (.slice (some (qa g 0)) (n+1) cap) (n+1) (ds++nd)->Below base w w'->w.heap.size<w'.heap.size->wpList P ops Q rest (a.put o.dst (.slice (some (qa g 0)) (n+1) cap)) w') :
 wpList P ops Q (o :: rest) a (w.alloc (.cells cs e)):=by
 obtain ⟨i0,hi,Bs,An,AA⟩:=info_parts hi;obtain ⟨xs,Ag,Jv⟩:=Aa
 have C5:(w.alloc (.cells cs e)).heap.size=w.heap.size+1:=by simp
 refine wpList_append_lies (w.alloc (.cells cs e)) BC s x t ho base e i0 z size bytes ht hi Bs An AA FO Ch v n xs hs (Ag.alloc _) (qa H 0) 1 1 cs.toList hx (by simp [Bn]) ?_ IA.one (by omega) (by unfold maxLen;omega) ?_ (by omega) _ rfl ?_
 . intro j u hj
   subst hH
   have:((qa w.heap.size 0):Addr).add j=(qa w.heap.size j):=by unfold Addr.add;split<;>simp_all
   rw [this,vef (heap_newP w _)];simpa using hj
 . have:(n+1)*bytes<=5001*200:=vdr (by omega) Dw
   omega
 . intro g cap w' Ci AJ AH A4
   have Hr:Below base w w':=((Below.refl base w).alloc AO _).grown AJ (by omega) (fun k hk=>(Ag.lt k hk).1);have Md:=AJ.size;refine h g cap w' ⟨xs++cs.toList,Ci,?_⟩ Hr (by omega)
   have FV:∀ A':Nat->Prop,(∀ b,b<w.heap.size->A' b->zes base v b)->zad w A' w' (zes base (.slice (some (qa g 0)) (n+1) cap)):=by
    intro A' hA';refine ⟨by omega,fun b hb ha=>⟨⟨(hA' b hb ha).1,fun Me=>?_⟩,?_⟩⟩
    . have Hf:g=b:=by simpa [Value.ownBlock] using Me
      rcases AH with h1 | h1
      . exact (hA' b hb ha).2 (by rw [h1,Hf])
      . omega
    . refine (AJ.block b (by omega) (fun h=>(hA' b hb ha).2 h.symm)).trans ?_
      exact ((Below.refl w.heap.size w).alloc (vaa _) (.cells cs e)).block b hb
   exact (Jv.moves (FV _ (fun _ _ h=>h))).append (IA.moves (FV A hA))
theorem zbj {P:Program} {ops:Array Oper} {o:Oper} {a:Act} {K:Act->World->Prop} {Q:Exit->Act->World->Prop} {E:Prop} (BC:o.guard=none) (s x:Operand) (t:TypeId)
 (ho:o.op = .call { callee:=.builtin .append,args:=#[s,x],argTypes:=#[t,t] }) (base:Nat) (e:TypeId) (z:Value) (size bytes:Nat) (ht:P.underlying t=some (.slice e))
 (hi:(P.info? e).map (fun i=>(i.zero,i.size,i.bytes))=some (some z,size,bytes)) (FO:z.cells.size=size) (Ch:0<size) (w:World) (v:Value) (n:Nat) (ds nd:List D) (hs:a.eval s=v) (Aa:Row base e size w v n ds)
 (cs:Array Value) (H:Nat) (hH:H=w.heap.size) (hx:a.eval x = .slice (some (qa H 0)) 1 1) (Bn:cs.size=size) (A:Nat->Prop) (IA:zau w A nd cs.toList) (hA:∀ b,b<w.heap.size->A b->zes base v b)
 (hn:n<=5000) (Dw:bytes<=200) (AO:base<=w.heap.size)
 (h:∀ g cap w',Row base e size w' (.slice (some (qa g 0)) (n+1) cap) (n+1) (ds++nd)->Below base w w'->w.heap.size<w'.heap.size->K (a.put o.dst (.slice (some (qa g 0)) (n+1) cap)) w') :
 if Region.wanted o (yielded ops a.tmps)=true then Oper.wp P o a (w.alloc (.cells cs e)) K Q else E:=by
 obtain ⟨i0,hi,Bs,An,AA⟩:=info_parts hi;obtain ⟨xs,Ag,Jv⟩:=Aa
 have C5:(w.alloc (.cells cs e)).heap.size=w.heap.size+1:=by simp
 refine step_append_lies (w.alloc (.cells cs e)) BC s x t ho base e i0 z size bytes ht hi Bs An AA FO Ch v n xs hs (Ag.alloc _) (qa H 0) 1 1 cs.toList hx (by simp [Bn]) ?_ IA.one (by omega) (by unfold maxLen;omega) ?_ (by omega) _ rfl ?_
 . intro j u hj
   subst hH
   have:((qa w.heap.size 0):Addr).add j=(qa w.heap.size j):=by unfold Addr.add;split<;>simp_all
   rw [this,vef (heap_newP w _)];simpa using hj
 . have:(n+1)*bytes<=5001*200:=vdr (by omega) Dw
   omega
 . intro g cap w' Ci AJ AH A4
   have Hr:Below base w w':=((Below.refl base w).alloc AO _).grown AJ (by omega) (fun k hk=>(Ag.lt k hk).1);have Md:=AJ.size;refine h g cap w' ⟨xs++cs.toList,Ci,?_⟩ Hr (by omega)
   have FV:∀ A':Nat->Prop,(∀ b,b<w.heap.size->A' b->zes base v b)->zad w A' w' (zes base (.slice (some (qa g 0)) (n+1) cap)):=by
    intro A' hA';refine ⟨by omega,fun b hb ha=>⟨⟨(hA' b hb ha).1,fun Me=>?_⟩,?_⟩⟩
    . have Hf:g=b:=by simpa [Value.ownBlock] using Me
      rcases AH with h1 | h1
      . exact (hA' b hb ha).2 (by rw [h1,Hf])
      . omega
    . refine (AJ.block b (by omega) (fun h=>(hA' b hb ha).2 h.symm)).trans ?_
      exact ((Below.refl w.heap.size w).alloc (vaa _) (.cells cs e)).block b hb
   exact (Jv.moves (FV _ (fun _ _ h=>h))).append (IA.moves (FV A hA))
section
variable {R cap:Nat} {a:OA} {ts l l0:List Tk} {w w0 w':World}
theorem Rd.belowOf (h:Rd R a cap ts w l) (h0:Rd R a cap ts w0 l0) (hb:Below w0.heap.size w w'):Rd R a cap ts w' l:=by
 refine ⟨?_,?_,h.ne,h.len⟩
 . obtain ⟨k,h1,h2,h3⟩:=h.idx
   exact ⟨k,h1,h2,(hb.block R h0.lt).trans h3⟩
 . rcases h0.toks with h4 | ⟨b,off,ha,h4⟩
   . exact Or.inl h4
   . rcases h.toks with h5 | ⟨b',Cb,D3,h5⟩
     . exact Or.inl h5
     . have eq:b'=b:=by rw [ha] at D3;injection D3 with D3;injection D3 with e1 e2;exact e1.symm
       subst eq;exact Or.inr ⟨b',Cb,D3,h5.below hb h4.lt⟩
theorem Keeps.belowOf (h:Keeps R w0 w) (hb:Below w0.heap.size w w'):Keeps R w0 w':=
 ⟨hb.os.trans h.os,hb.tape.trans h.tape,hb.output.trans h.output,vbc h.size hb.size,fun k h1 h2=>(hb.block k h1).trans (h.block k h1 h2)⟩
end
def zhv (R n:Nat) (w:World):Nat:=match w.cell? ⟨R,1,none⟩ with | some (.int _ k)=>n - k.toNat | _=>0
theorem Rd.left {R cap:Nat} {a:OA} {ts l:List Tk} {w:World} (h:Rd R a cap ts w l):zhv R ts.length w=l.length:=by
 obtain ⟨k,hk,rfl,hb⟩:=h.idx;unfold zhv;rw [vef hb];simp
set_option maxHeartbeats 1600000
def z83 (A:Nat->Prop) (xs:List Ex) (w:World) (v:Value):Prop:=∃ a cap,v = .slice a xs.length cap/\EAt w A a xs.length (zbo xs)
structure ExC (R cap:Nat) (a:OA) (ts:List Tk) (f:Nat):Prop where
 expr:∀ (l:List Tk) (w:World),Rd R a cap ts w l->3*l.length+1<=f->qc 283 #[pq R 0] w (zd4 R a cap ts w (zbm f l) (zgs (w.heap.size<=·)))
 pair:∀ (l:List Tk) (w:World),Rd R a cap ts w l->3*l.length+2<=f->qc 293 #[pq R 0] w (zd4 R a cap ts w (zfz f l) (zgs (w.heap.size<=·)))
 args:∀ (l:List Tk) (w:World),Rd R a cap ts w l->3*l.length+2<=f->qc 295 #[pq R 0] w (zd4 R a cap ts w (zeg f l) (z83 (w.heap.size<=·)))
theorem zza (R cap:Nat) (a:OA) (ts:List Tk) (f:Nat) (IH:ExC R cap a ts f) (l:List Tk) (w:World) (h:Rd R a cap ts w l) (hf:3*l.length+2<=f+1) :
 qc 293 #[pq R 0] w (zd4 R a cap ts w (zfz (f+1) l) (zgs (w.heap.size<=·))):=by
 have HI:Hid (ExC R cap a ts f):=IH;have HR:Hid (Rd R a cap ts w l):=h;have CC:=h.lt;clear IH h;go_enter Tryz.func293,Tryz.ntmps293;go_wp2_with fail;refine (HI.out.expr l _ (HR.out.alloc _) (by omega)).mono ?_;rintro e w1 ⟨AF,⟨hn,rfl⟩ | ⟨x,l1,v,hn,rfl,⟨a1,c1,rfl,AU,AM,hx3⟩,B3⟩⟩
 . exact ⟨rfl,((Keeps.refl R w).alloc _).trans AF,Or.inl ⟨by unfold zfz;rw [hn],rfl⟩⟩
 have ED:Hid (zbm f l=some (x,l1)):=hn
 have AG:Hid (x.mod.size<=maxLen/\x.name.size<=maxLen/\EAt w1 ((w.heap.size+1)<=·) a1 x.args.length (zbo x.args)):=⟨AU,AM,by simpa using hx3⟩
 have BF:Hid (Rd R a cap ts w1 l1):=B3;have FW:=zci _ _ _ _ hn;have An:=AF.size;simp at An;clear hn AU AM hx3 B3;have AY:Hid (Keeps R w w1):=((Keeps.refl R w).alloc _).trans AF;have A7:Hid (w1.heap[w.heap.size]? = some (.cells #[qi 0,qi 0,.string ⟨#[]⟩,.string ⟨#[]⟩,qs] 174 (0,0))):=(AF.block w.heap.size (by simp) (by omega)).trans (heap_newP _ _);clear AF;go_wp2_with fail;refine (zy8 _).mono ?_;rintro e w2 ⟨b,rfl,A6,Ab,hbc,Af⟩;have AL:Hid (Keeps R w1 w2):=((Keeps.refl R w1).alloc _).later Af;have Ao:Hid (Rd R a cap ts w2 l1):=(BF.out.alloc _).later Af;have Bp:Hid (w2.heap[w1.heap.size]? = some (.cells #[qi x.op,qi x.n,.string x.mod,.string x.name,.slice a1 x.args.length c1] 174 (0,0))):=(Af.block w1.heap.size (by simp)).trans (heap_newP _ _);have AA:=Af.size;simp at AA A6;clear Af;go_wp2_with fail
 refine (z11 R cap b a ts l1 w2 Ao.out Ab (by omega) hbc).mono ?_;rintro e w3 ⟨Am,⟨ho,rfl⟩ | ⟨k,c,ho,Ot,KP,rfl,Aq⟩⟩
 . exact ⟨rfl,(AY.out.trans AL.out).trans Am,Or.inl ⟨by unfold zfz;rw [ED.out];simp only [];rw [ho],rfl⟩⟩
 have Bz:=Am.size;have HM:Hid (zxf l1=some k):=ho;have Px:Hid (Lib.indexByte opSigns.data.toList c=k):=KP;have Co:=zih (zxi ho);have C0:Hid (Keeps R w w3):=(AY.out.trans AL.out).trans Am;have BK:Hid (w3.heap[w1.heap.size]? = some (.cells #[qi x.op,qi x.n,.string x.mod,.string x.name,.slice a1 x.args.length c1] 174 (0,0))):=(Am.block w1.heap.size (by omega) (by omega)).trans Bp.out;have L5:Hid (zad w1 (w.heap.size+1<=·) w3 (w.heap.size+1<=·)):=((zad.refl w1 _).keeps AL.out (by intro b;omega)).keeps Am (by intro b;omega);clear ho hbc Bp Ao KP;have CD:Hid (Rd R a cap ts w3 l1.tail):=Aq;clear Aq;go_wp2_with fail;refine (HI.out.expr l1.tail w3 CD.out (by omega)).mono ?_;rintro e w4 ⟨Ax,⟨hn,rfl⟩ | ⟨y,l4,v,hn,rfl,⟨a4,c4,rfl,D8,CN,Dp⟩,AX⟩⟩
 . exact ⟨rfl,C0.out.trans Ax,Or.inl ⟨by unfold zfz;rw [ED.out];simp only [];rw [HM.out];simp only [];rw [hn],rfl⟩⟩
 have Pl:Hid (zbm f l1.tail=some (y,l4)):=hn
 have E6:Hid (y.mod.size<=maxLen/\y.name.size<=maxLen/\EAt w4 (w3.heap.size<=·) a4 y.args.length (zbo y.args)):=⟨D8,CN,Dp⟩
 have BX:Hid (Rd R a cap ts w4 l4):=AX;have BH:Hid (Keeps R w w4):=C0.out.trans Ax;have Pe:Hid (zad w1 (w.heap.size+1<=·) w4 (w.heap.size+1<=·)):=L5.out.keeps Ax (by intro b;omega);have D5:Hid (w4.heap[w1.heap.size]? = some (.cells #[qi x.op,qi x.n,.string x.mod,.string x.name,.slice a1 x.args.length c1] 174 (0,0))):=(Ax.block w1.heap.size (by omega) (by omega)).trans BK.out;have D1:=Ax.size;have Ar:Hid (w4.heap[w.heap.size]? = some (.cells #[qi 0,qi 0,.string ⟨#[]⟩,.string ⟨#[]⟩,qs] 174 (0,0))):=(Ax.block w.heap.size (by omega) (by omega)).trans ((Am.block w.heap.size (by omega) (by omega)).trans ((AL.out.block w.heap.size (by omega) (by omega)).trans A7.out));clear hn D8 CN Dp AX Ax BK L5 C0 CD;go_wp2_with fail;refine (zfk R cap _ a ts l4 tRp _ (by simp) (BX.out.alloc _) (by decide)).mono ?_;rintro e w5 ⟨Aw,⟨Gq,rfl⟩ | ⟨Gq,rfl,Bu⟩⟩
 . exact ⟨rfl,(BH.out.alloc _).trans Aw,Or.inl ⟨by unfold zfz;rw [ED.out];simp only [];rw [HM.out];simp only [];rw [Pl.out];simp only [];rw [if_neg (by simp [Gq])],rfl⟩⟩
 have HP:Hid (zfz (f+1) l=some (.mk (7+k) 0 ⟨#[]⟩ ⟨#[]⟩ [x,y],l4.tail)):=by show zfz (f+1) l=_;unfold zfz;rw [ED.out];simp only [];rw [HM.out];simp only [];rw [Pl.out];simp only [];rw [if_pos Gq]
 have C4:=Aw.size;simp at C4;have BU:Hid (w5.heap[w1.heap.size]? = some (.cells #[qi x.op,qi x.n,.string x.mod,.string x.name,.slice a1 x.args.length c1] 174 (0,0))):=(Aw.block w1.heap.size (by simp;omega) (by omega)).trans (zab D5.out);have Sb:Hid (w5.heap[w4.heap.size]? = some (.cells #[qi y.op,qi y.n,.string y.mod,.string y.name,.slice a4 y.args.length c4] 174 (0,0))):=(Aw.block w4.heap.size (by simp) (by omega)).trans (heap_newP _ _);have Av:Hid (w5.heap[w.heap.size]? = some (.cells #[qi 0,qi 0,.string ⟨#[]⟩,.string ⟨#[]⟩,qs] 174 (0,0))):=(Aw.block w.heap.size (by simp;omega) (by omega)).trans (zab Ar.out);obtain ⟨f0,f1,f2,f3,f4,f5⟩:=zaa BU.out;obtain ⟨g0,g1,g2,g3,g4,g5⟩:=zaa Sb.out;obtain ⟨h0,h1,h2,h3,h4,h5⟩:=zaa Av.out;have Gz:Hid (zad w1 (w.heap.size+1<=·) w5 (w.heap.size+1<=·)):=(Pe.out.alloc _).keeps Aw (by intro b;omega)
 have IK:Hid (zad w4 (w3.heap.size<=·) w5 (w3.heap.size<=·)):=((zad.refl w4 _).alloc _).keeps Aw (by intro b;omega);have DD:Hid (Rd R a cap ts w5 l4.tail):=Bu;have Cs:Hid (Keeps R w w5):=(BH.out.alloc _).trans Aw;clear Aw Bu Gq D5 Pe BX
 have RZ:Hid (∀ w:World,qc 299 #[.string opSigns,.string ⟨#[c]⟩] w fun e w'=>e = .returned (qi k)/\w'=w):=fun w=>by rw [← Px.out];exact Tryz.strings_Index_one opSigns c w
 have Dr:w.heap.size<w5.heap.size:=by omega
 have Dq:w1.heap.size<w5.heap.size:=by omega
 have LM:w4.heap.size<w5.heap.size:=by omega
 clear Px
 have J7:IntKind.i64.wrap (7+(k:Int))=7+k:=by simp only [IntKind.wrap,IntKind.bits,IntKind.signed];simp;omega
 have FIN:∀ W:World,W=(((((w5.setCell (qa w.heap.size 0) (qi (7+k))).setCell (qa w.heap.size 1) (qi 0)).setCell (qa w.heap.size 2) (.string ⟨#[]⟩)).setCell (qa w.heap.size 3) (.string ⟨#[]⟩)).setCell (qa w.heap.size 4) (.slice (some (qa w5.heap.size 0)) 2 2)).alloc (.cells #[qi x.op,qi x.n,.string x.mod,.string x.name,.slice a1 x.args.length c1,qi y.op,qi y.n,.string y.mod,.string y.name,.slice a4 y.args.length c4] 174)->
  zd4 R a cap ts w (zfz (f+1) l) (zgs (w.heap.size<=·)) (.returned (.agg #[qi (7+k),qi 0,.string ⟨#[]⟩,.string ⟨#[]⟩,.slice (some (qa w5.heap.size 0)) 2 2])) W.drew:=by
  rintro W rfl;refine ⟨Keeps.drew (Keeps.alloc (((((Cs.out.set (vaa _) _).set (vaa _) _).set (vaa _) _).set (vaa _) _).set (vaa _) _) _),Or.inr ⟨_,_,_,HP.out,rfl,⟨some (qa w5.heap.size 0),2,rfl,vag _,vag _,?_⟩,Rd.drew (Rd.alloc (((((DD.out.setAbove HR.out (vaa _) _).setAbove HR.out (vaa _) _).setAbove HR.out (vaa _) _).setAbove HR.out (vaa _) _).setAbove HR.out (vaa _) _) _)⟩⟩;refine z7h (t:=174) (cap:=c1) (dap:=c4) AG.out E6.out (zad.drew (zad.alloc (zad.set (zad.set (zad.set (zad.set (zad.set (Gz.out.to (by omega)) ?_ _) ?_ _) ?_ _) ?_ _) ?_ _) _)) (zad.drew (zad.alloc (zad.set (zad.set (zad.set (zad.set (zad.set (IK.out.to (by omega)) ?_ _) ?_ _) ?_ _) ?_ _) ?_ _) _)) ?_ (by omega)
  all_goals first | (intro b;simp only [];omega) | J0
  have e:=heap_newP (((((w5.setCell (qa w.heap.size 0) (qi (7+k))).setCell (qa w.heap.size 1) (qi 0)).setCell (qa w.heap.size 2) (.string ⟨#[]⟩)).setCell (qa w.heap.size 3) (.string ⟨#[]⟩)).setCell (qa w.heap.size 4) (.slice (some (qa w5.heap.size 0)) 2 2)) (.cells #[qi x.op,qi x.n,.string x.mod,.string x.name,.slice a1 x.args.length c1,qi y.op,qi y.n,.string y.mod,.string y.name,.slice a4 y.args.length c4] 174);simp only [vaq] at e;exact e
 have Nu:Hid _:=FIN;clear FIN;go_wp2_with fail
 go_region_with (go_at_call 299;refine (RZ.out _).mono ?_;rintro e w' ⟨rfl,rfl⟩)
 all_goals go_wp2_with fail
 all_goals refine bodyPost_ret (v:=.agg #[qi (7+k),qi 0,.string ⟨#[]⟩,.string ⟨#[]⟩,.slice (some (qa w5.heap.size 0)) 2 2]) (by simp [results,Tryz.results293,go_sem,h0,h1,h2,h3,h4,Dr]) rfl ?_
 all_goals exact Nu.out _ rfl
theorem z7i (l:List Tk) (t u:ByteArray):zjg l [t,u]=if skB l t then some t else if skB l u then some u else none:=by
 unfold zjg;rw [vcq,vcq];cases skB l t<;>cases skB l u<;>rfl
theorem z7j (R cap n:Nat) (a:OA) (ts l:List Tk) (t u:ByteArray) (w:World) (hn:n=w.heap.size) (h:Rd R a cap ts w l) (ht:0<t.size) (hu:0<u.size) :
 qc 195 #[pq R 0,.slice (some (qa n 0)) 2 2] (w.alloc (.cells #[.string t,.string u] 9)) fun e w'=>Keeps R w w'/\((skB l t=false/\skB l u=false/\e = .panicked zag)\/(skB l t=true/\e = .returned (.string t)/\Rd R a cap ts w' l.tail)\/(skB l t=false/\skB l u=true/\e = .returned (.string u)/\Rd R a cap ts w' l.tail)):=by
 have A4:=h.lt;subst hn;refine (zjy R cap w.heap.size 2 a ts l [t,u] _ (h.alloc _) (by simp) (by omega) (by simp) (fun i hi=>?_) (fun i hi=>?_)).mono ?_
 . obtain rfl | rfl:i=0\/i=1:=by simp at hi;omega
   all_goals simp
 . obtain rfl | rfl:i=0\/i=1:=by simp at hi;omega
   . exact ht
   . exact hu
 . rintro e w' ⟨hk,hr⟩
   refine ⟨((Keeps.refl R w).alloc _).trans hk,?_⟩;rw [z7i] at hr
   cases hs:skB l t<;>cases AB:skB l u<;>rw [hs,AB] at hr<;>simp only [vcu,if_false,if_true,Option.map_none,Option.map_some] at hr
   . rcases hr with ⟨_,rfl⟩ | ⟨x,l',v,hr,_⟩
     . exact Or.inl ⟨rfl,rfl,rfl⟩
     . cases hr
   . rcases hr with ⟨hr,_⟩ | ⟨x,l',v,hr,rfl,rfl,hR⟩
     . cases hr
     . obtain ⟨rfl,rfl⟩:=vao (vab hr)
       exact Or.inr (Or.inr ⟨rfl,rfl,rfl,hR⟩)
   all_goals
    rcases hr with ⟨hr,_⟩ | ⟨x,l',v,hr,rfl,rfl,hR⟩
    . cases hr
    . obtain ⟨rfl,rfl⟩:=vao (vab hr)
      exact Or.inr (Or.inl ⟨rfl,rfl,hR⟩)
theorem zzb (R cap:Nat) (a:OA) (ts:List Tk) (f:Nat) (IH:∀ g,g<=f->ExC R cap a ts g) (l:List Tk) (w:World) (h:Rd R a cap ts w l) (hf:3*l.length+2<=f+1) :
 qc 295 #[pq R 0] w (zd4 R a cap ts w (zeg (f+1) l) (z83 (w.heap.size<=·))):=by
 have HI:Hid (∀ g,g<=f->ExC R cap a ts g):=IH;have HR:Hid (Rd R a cap ts w l):=h;have CC:=h.lt
 have GZ:l.length<=4096:=by
  obtain ⟨k,_,rfl,_⟩:=h.idx;have:=h.len
  rw [vbv];omega
 clear IH h;go_enter Tryz.func295,Tryz.ntmps295;go_wp2_with fail
 by_cases hs:skB l tRp=true
 . refine (zbl R cap a ts l tRp w (by decide) HR.out hs).mono ?_
   rintro e w1 ⟨rfl,B3,AF⟩;go_wp2_with fail;go_ret;exact ⟨AF,Or.inr ⟨[],l.tail,_,by unfold zeg;rw [if_pos hs],rfl,⟨none,0,rfl,Or.inl rfl⟩,B3⟩⟩
 have EO:skB l tRp=false:=by simpa using hs
 refine (zb2 R cap a ts l tRp w HR.out EO).mono ?_;rintro e w1 ⟨rfl,B3,AF⟩;have BF:Hid (Rd R a cap ts w1 l):=B3;have AY:Hid (Keeps R w w1):=AF;have An:=AF.size;clear B3 AF;go_wp2_with fail;refine ((HI.out f (vaa _)).expr l w1 BF.out (by omega)).mono ?_;rintro e w2 ⟨AL,⟨hn,rfl⟩ | ⟨x,l2,v,hn,rfl,⟨a2,c2,rfl,AU,AM,hx3⟩,Ao⟩⟩
 . exact ⟨rfl,AY.out.trans AL,Or.inl ⟨by unfold zeg;rw [if_neg hs,hn],rfl⟩⟩
 have Ce:=zci _ _ _ _ hn
 have HP:Hid (zeg (f+1) l=zgq f [x] l2):=by show zeg (f+1) l=_;unfold zeg;rw [if_neg hs,hn]
 have CW:Hid (Rd R a cap ts w2 l2):=Ao;have BM:Hid (Keeps R w w2):=AY.out.trans AL;have HX:Hid (zau w2 (w1.heap.size<=·) x.ds (zfl x a2 c2)):=zfm AU AM hx3;have AA:=AL.size;clear hn Ao AL AU AM hx3 hs EO BF AY;go_wp2_with fail
 go_loopw [3] (fun v wr=>∃ (g:Nat) (A5:List Ex) (l':List Tk),g<=f/\zeg (f+1) l=zgq g A5 l'/\3*l'.length+3<=g/\A5.length+l'.length<=l.length/\Row w.heap.size 174 5 wr v A5.length (zbo A5)/\Rd R a cap ts wr l'/\Keeps R w wr) (fun _ wr=>zhv R ts.length wr)
 case atStart=>
  refine ⟨f,[x],l2,vaa _,HP.out,by omega,by simp;omega,?_,CW.out.alloc _,BM.out.alloc _⟩;rw [zjz];exact Row.first (cs:=#[qi x.op,qi x.n,.string x.mod,.string x.name,.slice a2 x.args.length c2]) HX.out (fun b _ h=>by omega) (by omega) rfl
 case round=>
  obtain ⟨g,A5,l',hg,hpm,Ah,hacc,Aa,Dj,Bg⟩:=hrel;have HG:Hid (zeg (f+1) l=zgq g A5 l'):=hpm;have HO:Hid (Row w.heap.size 174 5 wr u3 A5.length (zbo A5)):=Aa;have HD:Hid (Rd R a cap ts wr l'):=Dj;have HE:Hid (Keeps R w wr):=Bg;have Cd:=Bg.size
  obtain ⟨g,rfl⟩:∃ g',g=g'+1:=⟨g - 1,by omega⟩
  clear hpm Aa Dj Bg HP HX;go_wp2_with fail;refine (z7j R cap _ a ts l' z06 tRp _ (by simp) HD.out (by decide) (by decide)).mono ?_;rintro e w3 ⟨Am,⟨h1,h2,rfl⟩ | ⟨h1,rfl,Aq⟩ | ⟨h1,h2,rfl,Aq⟩⟩
  . exact ⟨rfl,HE.out.trans Am,Or.inl ⟨by rw [HG.out];unfold zgq;rw [if_neg (by simp [h1]),if_neg (by simp [h2])],rfl⟩⟩
  . have Co:=zah (by decide) h1
    have Bz:=Am.size;go_wp2_with fail;refine ((HI.out g (by omega)).expr l'.tail w3 Aq (by omega)).mono ?_;rintro e w4 ⟨Ax,⟨hn,rfl⟩ | ⟨y,l4,v,hn,rfl,⟨a4,c4,rfl,AU,AM,hx3⟩,AX⟩⟩
    . exact ⟨rfl,(HE.out.trans Am).trans Ax,Or.inl ⟨by rw [HG.out];unfold zgq;rw [if_pos h1,hn],rfl⟩⟩
    have EW:=zci _ _ _ _ hn
    have HP:Hid (zeg (f+1) l=zgq g (A5++[y]) l4):=by show zeg (f+1) l=_;rw [HG.out];unfold zgq;rw [if_pos h1,hn];cases g<;>rfl
    have E6:Hid (zau w4 (w3.heap.size<=·) y.ds (zfl y a4 c4)):=zfm AU AM hx3;have BX:Hid (Rd R a cap ts w4 l4):=AX;have BH:Hid (Keeps R w w4):=(HE.out.trans Am).trans Ax;have Em:Hid (Row w.heap.size 174 5 w4 u3 A5.length (zbo A5)):=(HO.out.keeps Am CC).keeps Ax CC;have D1:=Ax.size
    have HL:Hid (∀ k,u3.ownBlock=some k->k<w3.heap.size):=fun k hk=>((HO.out.keeps Am CC).lt k hk).2
    have Eg:=HD.out.left;clear hn Aq AX Am Ax AU AM hx3
    go_wp2_with (at_builtin;refine zbs rfl (.tmp 13) (.tmp 16) 172 rfl w.heap.size 174 _ 5 72 Tryz.underlying172 Tryz.infoP80 rfl (by decide) w4 u3 A5.length (zbo A5) y.ds rfl Em.out _ _ rfl rfl rfl (w3.heap.size<=·) E6.out ?_ (by omega) (by decide) (by omega) ?_)
    . intro b _ hb
      exact ⟨by omega,fun h=>by have:=HL.out b h;omega⟩
    . intro g5 c5 w5 Bq Av C4
      have B5:Hid (Row w.heap.size 174 5 w5 (.slice (some (qa g5 0)) (A5.length+1) c5) (A5.length+1) (zbo A5++y.ds)):=Bq;have Bu:Hid (Rd R a cap ts w5 l4):=BX.out.belowOf HR.out Av;have Aw:Hid (Keeps R w w5):=BH.out.belowOf Av;have FX:=Bu.out.left;clear Bq Av Em BX BH E6;go_wp2_with fail;go_roundw
      case rel=>exact ⟨g,A5++[y],l4,by omega,HP.out,by omega,by simp;omega,by rw [zhf,zjz,vam];exact B5.out,Bu.out,Aw.out⟩
      case measure=>rw [FX,Eg];omega
  . have HP:Hid (zeg (f+1) l=some (A5,l'.tail)):=by show zeg (f+1) l=_;rw [HG.out];unfold zgq;rw [if_neg (by simp [h1]),if_pos h2]
    have CY:Hid (Row w.heap.size 174 5 w3 u3 A5.length (zbo A5)):=HO.out.keeps Am CC;go_wp2_with fail;go_ret;exact ⟨HE.out.trans Am,Or.inr ⟨A5,l'.tail,_,HP.out,rfl,CY.out.slice,Aq⟩⟩
set_option maxHeartbeats 3200000
abbrev zcg:Obj:=.cells #[qi 0,qi 0,.string ⟨#[]⟩,.string ⟨#[]⟩,qs] 174 (0,0)
theorem zna {R cap:Nat} {a:OA} {ts l l':List Tk} {w w1:World} {r:Option (Ex × List Tk)} {x:Ex} {a1:OA} {c1:Nat} (h0:Rd R a cap ts w l) (hr:r=some (x,l')) (hk:Keeps R w w1) (Dj:Rd R a cap ts w1 l')
 (AU:x.mod.size<=maxLen) (AM:x.name.size<=maxLen) {lo:Nat} (hx:EAt w1 (lo<=·) a1 x.args.length (zbo x.args)) (CT:w.heap.size<lo) :
 zd4 R a cap ts w r (zgs (w.heap.size<=·)) (.returned (.agg #[qi x.op,qi x.n,.string x.mod,.string x.name,.slice a1 x.args.length c1])) (set5 w1 w.heap.size (qi x.op) (qi x.n) (.string x.mod) (.string x.name) (.slice a1 x.args.length c1)):=by
 refine ⟨hk.set5 (vaa _) _ _ _ _ _,Or.inr ⟨x,l',_,hr,rfl,⟨a1,c1,rfl,AU,AM,?_⟩,Dj.set5 h0 (vaa _) _ _ _ _ _⟩⟩;exact hx.moves (((zad.refl w1 (lo<=·)).set5 (by intro b _ hb;omega) _ _ _ _ _).to (by omega))
theorem z5h {R cap:Nat} {a:OA} {ts l l':List Tk} {w w1:World} {r:Option (Ex × List Tk)} {op n:Int} {mod name:ByteArray} {y:Ex} {a1:OA} {c1:Nat} (h0:Rd R a cap ts w l) (hr:r=some (.mk op n mod name [y],l')) (hk:Keeps R w w1) (Dj:Rd R a cap ts w1 l')
 (AU:mod.size<=maxLen) (AM:name.size<=maxLen) {lo:Nat} (D8:y.mod.size<=maxLen) (CN:y.name.size<=maxLen) (hy:EAt w1 (lo<=·) a1 y.args.length (zbo y.args)) (CT:w.heap.size<lo) (Qt:lo<=w1.heap.size) :
 zd4 R a cap ts w r (zgs (w.heap.size<=·)) (.returned (.agg #[qi op,qi n,.string mod,.string name,.slice (some (qa w1.heap.size 0)) 1 1])) ((set5 w1 w.heap.size (qi op) (qi n) (.string mod) (.string name) (.slice (some (qa w1.heap.size 0)) 1 1)).alloc (kzE y.op y.n y.mod y.name a1 y.args.length c1)):=by
 refine ⟨(hk.set5 (vaa _) _ _ _ _ _).alloc _,Or.inr ⟨.mk op n mod name [y],l',_,hr,rfl,⟨_,_,rfl,AU,AM,?_⟩,(Dj.set5 h0 (vaa _) _ _ _ _ _).alloc _⟩⟩;refine zkx (t:=174) (cap:=c1) D8 CN hy ((((zad.refl w1 (lo<=·)).set5 (b:=w.heap.size) (by intro b _ hb;omega) _ _ _ _ _).alloc _).to (by omega)) ?_ (by omega);have e:=heap_newP (set5 w1 w.heap.size (qi op) (qi n) (.string mod) (.string name) (.slice (some (qa w1.heap.size 0)) 1 1)) (kzE y.op y.n y.mod y.name a1 y.args.length c1);simp only [vaq] at e;exact e
theorem zzc (R cap:Nat) (a:OA) (ts:List Tk) (f:Nat) (IH:ExC R cap a ts f) (l:List Tk) (w:World) (h:Rd R a cap ts w l) (hf:3*l.length+1<=f+1) :
 qc 283 #[pq R 0] w (zd4 R a cap ts w (zbm (f+1) l) (zgs (w.heap.size<=·))):=by
 have HI:Hid (ExC R cap a ts f):=IH;have HR:Hid (Rd R a cap ts w l):=h;have CC:=h.lt;have OG:=z34 (hd l).kind (hd l).n (hd l).text;clear IH h;go_enter Tryz.func283,Tryz.ntmps283;go_wp2_with fail;refine (zqr R cap a ts l _ (HR.out.alloc _)).mono ?_;rintro e w1 ⟨rfl,A6⟩;have B3:Hid (Rd R a cap ts w1 l):=(HR.out.alloc _).later A6;have AF:Hid (Keeps R w w1):=((Keeps.refl R w).alloc _).later A6;have A7:Hid (w1.heap[w.heap.size]? = some zcg):=(A6.block w.heap.size (by simp)).trans (heap_newP _ _);have An:=A6.size;simp at An;clear A6
 by_cases hk:(hd l).kind=2
 . have HP:Hid (zbm (f+1) l=some (.mk 1 (hd l).n ⟨#[]⟩ ⟨#[]⟩ [],l.tail)):=by show zbm (f+1) l=_;unfold zbm;rw [if_pos hk]
   have HQ:Hid (pNum l=some ((hd l).n,l.tail)):=by show pNum l=_;unfold pNum;rw [if_pos hk]
   have QP:=z34 2 (hd l).n (hd l).text;go_wp2_with fail;refine (zg9 R cap a ts l w1 B3.out).mono ?_;rintro e w2 ⟨AL,⟨hn,rfl⟩ | ⟨n,l2,v,hn,rfl,rfl,Ao⟩⟩
   . rw [HQ.out] at hn;cases hn
   rw [HQ.out] at hn;obtain ⟨rfl,rfl⟩:=vao (vab hn);have Af:Hid (w2.heap[w.heap.size]? = some zcg):=(AL.block w.heap.size (by omega) (by omega)).trans A7.out;obtain ⟨h0,h1,h2,h3,h4,h5⟩:=zaa Af.out;have AA:=AL.size
   have Dr:w.heap.size<w2.heap.size:=by omega
   have HF:Hid (zd4 R a cap ts w (zbm (f+1) l) (zgs (w.heap.size<=·)) (.returned (.agg #[qi 1,qi (hd l).n,.string ⟨#[]⟩,.string ⟨#[]⟩,qs])) (set5 w2 w.heap.size (qi 1) (qi (hd l).n) (.string ⟨#[]⟩) (.string ⟨#[]⟩) (qs))):=
    zna (x:=.mk 1 (hd l).n ⟨#[]⟩ ⟨#[]⟩ []) HR.out HP.out (AF.out.trans AL) Ao (vag _) (vag _) (lo:=w2.heap.size) (Or.inl rfl) Dr
   clear hn Ao AL;go_wp2_with fail;refine bodyPost_ret (v:=.agg #[qi 1,qi (hd l).n,.string ⟨#[]⟩,.string ⟨#[]⟩,qs]) (by simp [results,Tryz.results283,go_sem,h0,h1,h2,h3,h4]) rfl HF.out
 go_wp2_with fail
 by_cases AB:skB l tIn=true
 . refine (zbl R cap a ts l tIn w1 (by decide) B3.out AB).mono ?_
   rintro e w2 ⟨rfl,Ao,AL⟩;have Af:Hid (w2.heap[w.heap.size]? = some zcg):=(AL.block w.heap.size (by omega) (by omega)).trans A7.out;obtain ⟨h0,h1,h2,h3,h4,h5⟩:=zaa Af.out;have AA:=AL.size
   have Dr:w.heap.size<w2.heap.size:=by omega
   have HF:Hid (zd4 R a cap ts w (zbm (f+1) l) (zgs (w.heap.size<=·)) (.returned (.agg #[qi 2,qi 0,.string ⟨#[]⟩,.string ⟨#[]⟩,qs])) (set5 w2 w.heap.size (qi 2) (qi 0) (.string ⟨#[]⟩) (.string ⟨#[]⟩) (qs))):=
    zna (x:=.mk 2 0 ⟨#[]⟩ ⟨#[]⟩ []) HR.out (by unfold zbm;rw [if_neg hk,if_pos AB]) (AF.out.trans AL) Ao (vag _) (vag _) (lo:=w2.heap.size) (Or.inl rfl) Dr
   clear Ao AL;go_wp2_with fail;refine bodyPost_ret (v:=.agg #[qi 2,qi 0,.string ⟨#[]⟩,.string ⟨#[]⟩,qs]) (by simp [results,Tryz.results283,go_sem,h0,h1,h2,h3,h4]) rfl HF.out
 refine (zb2 R cap a ts l tIn w1 B3.out (by simpa using AB)).mono ?_;rintro e w2 ⟨rfl,Ao,AL⟩;have CW:Hid (Rd R a cap ts w2 l):=Ao;have BM:Hid (Keeps R w w2):=AF.out.trans AL;have Af:Hid (w2.heap[w.heap.size]? = some zcg):=(AL.block w.heap.size (by omega) (by omega)).trans A7.out;have AA:=AL.size;clear Ao AL B3 AF A7;go_wp2_with fail
 by_cases Bl:skB l z6z=true
 . have Co:=zah (by decide) Bl
   refine (zbl R cap a ts l z6z w2 (by decide) CW.out Bl).mono ?_;rintro e w3 ⟨rfl,Aq,Am⟩;have Bz:=Am.size;have Ae:Hid (w3.heap[w.heap.size]? = some zcg):=(Am.block w.heap.size (by omega) (by omega)).trans Af.out;go_wp2_with fail;refine (HI.out.expr l.tail w3 Aq (by omega)).mono ?_;rintro e w4 ⟨Ax,⟨hn,rfl⟩ | ⟨y,l4,v,hn,rfl,⟨a4,c4,rfl,D8,CN,Dp⟩,AX⟩⟩
   . exact ⟨rfl,(BM.out.trans Am).trans Ax,Or.inl ⟨by unfold zbm;rw [if_neg hk,if_neg AB,if_pos Bl,hn],rfl⟩⟩
   have Ar:Hid (w4.heap[w.heap.size]? = some zcg):=(Ax.block w.heap.size (by omega) (by omega)).trans Ae.out;obtain ⟨h0,h1,h2,h3,h4,h5⟩:=zaa Ar.out;have D1:=Ax.size
   have Dr:w.heap.size<w4.heap.size:=by omega
   have HF:Hid (zd4 R a cap ts w (zbm (f+1) l) (zgs (w.heap.size<=·)) (.returned (.agg #[qi 6,qi 0,.string ⟨#[]⟩,.string ⟨#[]⟩,.slice (some (qa w4.heap.size 0)) 1 1])) ((set5 w4 w.heap.size (qi 6) (qi 0) (.string ⟨#[]⟩) (.string ⟨#[]⟩) (.slice (some (qa w4.heap.size 0)) 1 1)).alloc (kzE y.op y.n y.mod y.name a4 y.args.length c4))):=
    z5h HR.out (by unfold zbm;rw [if_neg hk,if_neg AB,if_pos Bl,hn]) ((BM.out.trans Am).trans Ax) AX (vag _) (vag _) D8 CN Dp (by omega) D1
   clear hn Aq AX Am Ax D8 CN Dp;go_wp2_with fail;refine bodyPost_ret (v:=.agg #[qi 6,qi 0,.string ⟨#[]⟩,.string ⟨#[]⟩,.slice (some (qa w4.heap.size 0)) 1 1]) (by simp [results,Tryz.results283,go_sem,h0,h1,h2,h3,h4,Dr]) rfl HF.out
 refine (zb2 R cap a ts l z6z w2 CW.out (by simpa using Bl)).mono ?_;rintro e w3 ⟨rfl,Aq,Am⟩;have CD:Hid (Rd R a cap ts w3 l):=Aq;have C0:Hid (Keeps R w w3):=BM.out.trans Am;have Ae:Hid (w3.heap[w.heap.size]? = some zcg):=(Am.block w.heap.size (by omega) (by omega)).trans Af.out;have Bz:=Am.size;clear Aq Am CW BM Af;go_wp2_with fail
 by_cases CH:skB l tLp=true
 . have EW:=zah (by decide) CH
   refine (zbl R cap a ts l tLp w3 (by decide) CD.out CH).mono ?_;rintro e w4 ⟨rfl,AX,Ax⟩;have D1:=Ax.size;have Ar:Hid (w4.heap[w.heap.size]? = some zcg):=(Ax.block w.heap.size (by omega) (by omega)).trans Ae.out;go_wp2_with fail;refine (HI.out.pair l.tail w4 AX (by omega)).mono ?_;rintro e w5 ⟨Aw,⟨hn,rfl⟩ | ⟨y,l5,v,hn,rfl,⟨a5,c5,rfl,D8,CN,Dp⟩,Bu⟩⟩
   . exact ⟨rfl,(C0.out.trans Ax).trans Aw,Or.inl ⟨by unfold zbm;rw [if_neg hk,if_neg AB,if_neg Bl,if_pos CH,hn],rfl⟩⟩
   have Av:Hid (w5.heap[w.heap.size]? = some zcg):=(Aw.block w.heap.size (by omega) (by omega)).trans Ar.out;obtain ⟨h0,h1,h2,h3,h4,h5⟩:=zaa Av.out;have C4:=Aw.size
   have HF:Hid (zd4 R a cap ts w (zbm (f+1) l) (zgs (w.heap.size<=·)) (.returned (.agg #[qi y.op,qi y.n,.string y.mod,.string y.name,.slice a5 y.args.length c5])) (set5 w5 w.heap.size (qi y.op) (qi y.n) (.string y.mod) (.string y.name) (.slice a5 y.args.length c5))):=
    zna (x:=y) HR.out (by unfold zbm;rw [if_neg hk,if_neg AB,if_neg Bl,if_pos CH,hn]) ((C0.out.trans Ax).trans Aw) Bu D8 CN (lo:=w4.heap.size) Dp (by omega)
   clear hn AX Bu Ax Aw D8 CN Dp;go_wp2_with fail;refine bodyPost_ret (v:=.agg #[qi y.op,qi y.n,.string y.mod,.string y.name,.slice a5 y.args.length c5]) (by simp [results,Tryz.results283,go_sem,h0,h1,h2,h3,h4]) rfl HF.out
 refine (zb2 R cap a ts l tLp w3 CD.out (by simpa using CH)).mono ?_;rintro e w4 ⟨rfl,AX,Ax⟩;have BX:Hid (Rd R a cap ts w4 l):=AX;have BH:Hid (Keeps R w w4):=C0.out.trans Ax;have Ar:Hid (w4.heap[w.heap.size]? = some zcg):=(Ax.block w.heap.size (by omega) (by omega)).trans Ae.out;have D1:=Ax.size
 have Nb:Hid (zbm (f+1) l=match zw7 l with
  | none=>none
  | some ((m,n),l1)=>
    if skB l1 tLs then (match zbm f l1.tail with | none=>none | some (x,l2)=>if skB l2 tRs then some (.mk 4 0 m n [x],l2.tail) else none)
    else if skB l1 tLp then (match zeg f l1.tail with | none=>none | some (xs,l2)=>some (.mk 5 0 m n xs,l2))
    else some (.mk 3 0 m n [],l1)):=by
  show zbm (f+1) l=_
  conv=>lhs;unfold zbm
  rw [if_neg hk,if_neg AB,if_neg Bl,if_neg CH]
  rfl
 clear AX Ax CD C0 Ae hk AB Bl CH;go_wp2_with fail;refine (zy6 R cap a ts l _ (BX.out.alloc _)).mono ?_;rintro e w5 ⟨Aw,⟨hn,rfl⟩ | ⟨⟨m,n⟩,l5,v,hn,rfl,⟨rfl,hm,Ez⟩,Bu⟩⟩
 . exact ⟨rfl,(BH.out.alloc _).trans Aw,Or.inl ⟨by rw [Nb.out,hn],rfl⟩⟩
 have FX:=zru hn
 have IM:Hid (zbm (f+1) l=if skB l5 tLs then (match zbm f l5.tail with | none=>none | some (x,l2)=>if skB l2 tRs then some (.mk 4 0 m n [x],l2.tail) else none)
  else if skB l5 tLp then (match zeg f l5.tail with | none=>none | some (xs,l2)=>some (.mk 5 0 m n xs,l2))
  else some (.mk 3 0 m n [],l5)):=by
  show zbm (f+1) l=_;rw [Nb.out,hn]
 have DD:Hid (Rd R a cap ts w5 l5):=Bu;have Cs:Hid (Keeps R w w5):=(BH.out.alloc _).trans Aw;have Av:Hid (w5.heap[w.heap.size]? = some zcg):=(Aw.block w.heap.size (by simp;omega) (by omega)).trans (zab Ar.out);have BU:Hid (w5.heap[w4.heap.size]? = some (.cells #[qi 3,qi 0,.string ⟨#[]⟩,.string ⟨#[]⟩,qs] 174 (0,0))):=(Aw.block w4.heap.size (by simp) (by omega)).trans (heap_newP _ _);have C4:=Aw.size;simp at C4;obtain ⟨h0,h1,h2,h3,h4,h5⟩:=zaa BU.out;clear hn Bu Aw Nb BX Ar BH;have I5:Hid (Rd R a cap ts ((w5.setCell (qa w4.heap.size 2) (.string m)).setCell (qa w4.heap.size 3) (.string n)) l5):=(DD.out.setAbove HR.out (by show _<=w4.heap.size;omega) _).setAbove HR.out (by show _<=w4.heap.size;omega) _;have EF:Hid (Keeps R w ((w5.setCell (qa w4.heap.size 2) (.string m)).setCell (qa w4.heap.size 3) (.string n))):=(Cs.out.set (by show _<=w4.heap.size;omega) _).set (by show _<=w4.heap.size;omega) _
 have CA:Hid (((w5.setCell (qa w4.heap.size 2) (.string m)).setCell (qa w4.heap.size 3) (.string n)).heap[w.heap.size]? = some zcg):=(heap_set_ne (by show w.heap.size≠w4.heap.size;omega) _).trans ((heap_set_ne (by show w.heap.size≠w4.heap.size;omega) _).trans Av.out);have Ij:Hid (((w5.setCell (qa w4.heap.size 2) (.string m)).setCell (qa w4.heap.size 3) (.string n)).heap[w4.heap.size]? = some (.cells #[qi 3,qi 0,.string m,.string n,qs] 174 (0,0))):=heap_set (heap_set BU.out _) _
 have GM:((w5.setCell (qa w4.heap.size 2) (.string m)).setCell (qa w4.heap.size 3) (.string n)).heap.size=w5.heap.size:=by simp only [vaq]
 clear DD Cs Av;go_wp2_with fail;generalize (w5.setCell (qa w4.heap.size 2) (.string m)).setCell (qa w4.heap.size 3) (.string n)=w6 at *;clear h0 h1 h2 h3 h4 h5 BU
 by_cases FR:skB l5 tLs=true
 . have On:=zah (by decide) FR
   refine (zbl R cap a ts l5 tLs w6 (by decide) I5.out FR).mono ?_;rintro e w7 ⟨rfl,HR7,CZ⟩;have Iu:=CZ.size;have BE:Hid (w7.heap[w.heap.size]? = some zcg):=(CZ.block w.heap.size (by omega) (by omega)).trans CA.out;have FL:Hid (w7.heap[w4.heap.size]? = some (.cells #[qi 3,qi 0,.string m,.string n,qs] 174 (0,0))):=(CZ.block w4.heap.size (by omega) (by omega)).trans Ij.out;obtain ⟨h0,h1,h2,h3,h4,h5⟩:=zaa FL.out;have Cf:Hid (Rd R a cap ts (w7.setCell (qa w4.heap.size 0) (qi 4)) l5.tail):=HR7.setAbove HR.out (by show _<=w4.heap.size;omega) _;have AN:Hid (Keeps R w (w7.setCell (qa w4.heap.size 0) (qi 4))):=(EF.out.trans CZ).set (by show _<=w4.heap.size;omega) _;have Be:Hid ((w7.setCell (qa w4.heap.size 0) (qi 4)).heap[w.heap.size]? = some zcg):=(heap_set_ne (by show w.heap.size≠w4.heap.size;omega) _).trans BE.out
   have Dh:Hid ((w7.setCell (qa w4.heap.size 0) (qi 4)).heap[w4.heap.size]? = some (.cells #[qi 4,qi 0,.string m,.string n,qs] 174 (0,0))):=heap_set FL.out _
   have Do:(w7.setCell (qa w4.heap.size 0) (qi 4)).heap.size=w7.heap.size:=by simp only [vaq]
   clear HR7 CZ BE I5 EF CA Ij;go_wp2_with fail;generalize w7.setCell (qa w4.heap.size 0) (qi 4)=w8 at *;clear h0 h1 h2 h3 h4 h5 FL;refine (HI.out.expr l5.tail w8 Cf.out (by omega)).mono ?_;rintro e w9 ⟨Gd,⟨hn,rfl⟩ | ⟨y,l9,v,hn,rfl,⟨a9,c9,rfl,D8,CN,Dp⟩,L7⟩⟩
   . exact ⟨rfl,AN.out.trans Gd,Or.inl ⟨by rw [IM.out,if_pos FR,hn],rfl⟩⟩
   have EM:=Gd.size;have B8:Hid (w9.heap[w.heap.size]? = some zcg):=(Gd.block w.heap.size (by omega) (by omega)).trans Be.out;have IX:Hid (w9.heap[w4.heap.size]? = some (.cells #[qi 4,qi 0,.string m,.string n,qs] 174 (0,0))):=(Gd.block w4.heap.size (by omega) (by omega)).trans Dh.out;obtain ⟨h0,h1,h2,h3,h4,h5⟩:=zaa IX.out
   have LM:w4.heap.size<w9.heap.size:=by omega
   have IQ:Hid (zbm f l5.tail=some (y,l9)):=hn
   have Hz:Hid (y.mod.size<=maxLen/\y.name.size<=maxLen/\EAt w9 (w8.heap.size<=·) a9 y.args.length (zbo y.args)):=⟨D8,CN,Dp⟩
   have N6:Hid (Rd R a cap ts w9 l9):=L7;have Km:Hid (Keeps R w w9):=AN.out.trans Gd;clear hn L7 Gd D8 CN Dp Be Dh Cf AN;go_wp2_with fail;refine (zfk R cap _ a ts l9 tRs _ (by simp) ((N6.out.setAbove HR.out (by show _<=w4.heap.size;omega) _).alloc _) (by decide)).mono ?_;rintro e Dn ⟨BI,⟨Gq,rfl⟩ | ⟨Gq,rfl,HR10⟩⟩
   . exact ⟨rfl,((Km.out.set (by show _<=w4.heap.size;omega) _).alloc _).trans BI,Or.inl ⟨by rw [IM.out,if_pos FR,IQ.out];simp [Gq],rfl⟩⟩
   have HP:Hid (zbm (f+1) l=some (.mk 4 0 m n [y],l9.tail)):=by show zbm (f+1) l=_;rw [IM.out,if_pos FR,IQ.out];simp [Gq]
   have FP:=BI.size;simp at FP;have Fu:Hid (Dn.heap[w.heap.size]? = some zcg):=(BI.block w.heap.size (by simp;omega) (by omega)).trans (zab ((heap_set_ne (by show w.heap.size≠w4.heap.size;omega) _).trans B8.out));have Ik:Hid (Dn.heap[w4.heap.size]? = some (.cells #[qi 4,qi 0,.string m,.string n,.slice (some (qa w9.heap.size 0)) 1 1] 174 (0,0))):=(BI.block w4.heap.size (by simp;omega) (by omega)).trans (zab (heap_set IX.out _))
   have NB:Hid (Dn.heap[w9.heap.size]? = some (.cells #[qi y.op,qi y.n,.string y.mod,.string y.name,.slice a9 y.args.length c9] 174 (0,0))):=(BI.block w9.heap.size (by simp) (by omega)).trans (by
    have e:=heap_newP (w9.setCell (qa w4.heap.size 4) (.slice (some (qa w9.heap.size 0)) 1 1)) (kzE y.op y.n y.mod y.name a9 y.args.length c9);simp only [vaq] at e
    exact e)
   have Kc:zad w9 (w8.heap.size<=·) Dn (w8.heap.size<=·):=(((zad.refl w9 _).set (by intro b _ hb;show b≠w4.heap.size;omega) _).alloc _).keeps BI (by intro b _ hb;omega)
   have HF:Hid (zd4 R a cap ts w (zbm (f+1) l) (zgs (w.heap.size<=·)) (.returned (.agg #[qi 4,qi 0,.string m,.string n,.slice (some (qa w9.heap.size 0)) 1 1])) (set5 Dn w.heap.size (qi 4) (qi 0) (.string m) (.string n) (.slice (some (qa w9.heap.size 0)) 1 1))):=
    zna (x:=.mk 4 0 m n [y]) HR.out HP.out (((Km.out.set (by show _<=w4.heap.size;omega) _).alloc _).trans BI) HR10 hm Ez (lo:=w8.heap.size) (zkx Hz.out.1 Hz.out.2.1 Hz.out.2.2 Kc NB.out (by omega)) (by omega)
   obtain ⟨h0,h1,h2,h3,h4,h5⟩:=zaa Fu.out;obtain ⟨g0,g1,g2,g3,g4,g5⟩:=zaa Ik.out;clear BI HR10 Kc;go_wp2_with fail;refine bodyPost_ret (v:=.agg #[qi 4,qi 0,.string m,.string n,.slice (some (qa w9.heap.size 0)) 1 1]) (by simp [results,Tryz.results283,go_sem,h0,h1,h2,h3,h4]) rfl HF.out
 refine (zb2 R cap a ts l5 tLs w6 I5.out (by simpa using FR)).mono ?_;rintro e w7 ⟨rfl,HR7,CZ⟩;have Iu:=CZ.size;have DC:Hid (Rd R a cap ts w7 l5):=HR7;have DH:Hid (Keeps R w w7):=EF.out.trans CZ;have BE:Hid (w7.heap[w.heap.size]? = some zcg):=(CZ.block w.heap.size (by omega) (by omega)).trans CA.out;have FL:Hid (w7.heap[w4.heap.size]? = some (.cells #[qi 3,qi 0,.string m,.string n,qs] 174 (0,0))):=(CZ.block w4.heap.size (by omega) (by omega)).trans Ij.out;clear HR7 CZ I5 EF CA Ij;go_wp2_with fail
 by_cases Iv:skB l5 tLp=true
 . have QA:=zah (by decide) Iv
   refine (zbl R cap a ts l5 tLp w7 (by decide) DC.out Iv).mono ?_;rintro e w8 ⟨rfl,Cf,AN⟩;have Do:=AN.size;have Be:Hid (w8.heap[w.heap.size]? = some zcg):=(AN.block w.heap.size (by omega) (by omega)).trans BE.out;have Dh:Hid (w8.heap[w4.heap.size]? = some (.cells #[qi 3,qi 0,.string m,.string n,qs] 174 (0,0))):=(AN.block w4.heap.size (by omega) (by omega)).trans FL.out;obtain ⟨h0,h1,h2,h3,h4,h5⟩:=zaa Dh.out;have L7:Hid (Rd R a cap ts (w8.setCell (qa w4.heap.size 0) (qi 5)) l5.tail):=Cf.setAbove HR.out (by show _<=w4.heap.size;omega) _;have Gd:Hid (Keeps R w (w8.setCell (qa w4.heap.size 0) (qi 5))):=(DH.out.trans AN).set (by show _<=w4.heap.size;omega) _;have B8:Hid ((w8.setCell (qa w4.heap.size 0) (qi 5)).heap[w.heap.size]? = some zcg):=(heap_set_ne (by show w.heap.size≠w4.heap.size;omega) _).trans Be.out
   have IX:Hid ((w8.setCell (qa w4.heap.size 0) (qi 5)).heap[w4.heap.size]? = some (.cells #[qi 5,qi 0,.string m,.string n,qs] 174 (0,0))):=heap_set Dh.out _
   have EM:(w8.setCell (qa w4.heap.size 0) (qi 5)).heap.size=w8.heap.size:=by simp only [vaq]
   clear Cf AN Be DC DH BE FL;go_wp2_with fail;generalize w8.setCell (qa w4.heap.size 0) (qi 5)=w9 at *;clear h0 h1 h2 h3 h4 h5 Dh;refine (HI.out.args l5.tail w9 L7.out (by omega)).mono ?_;rintro e Dn ⟨BI,⟨hn,rfl⟩ | ⟨xs,l10,v,hn,rfl,⟨a10,c10,rfl,hx10⟩,HR10⟩⟩
   . exact ⟨rfl,Gd.out.trans BI,Or.inl ⟨by rw [IM.out,if_neg FR,if_pos Iv,hn],rfl⟩⟩
   have FP:=BI.size
   have HP:Hid (zbm (f+1) l=some (.mk 5 0 m n xs,l10)):=by show zbm (f+1) l=_;rw [IM.out,if_neg FR,if_pos Iv,hn]
   have Fu:Hid (Dn.heap[w.heap.size]? = some zcg):=(BI.block w.heap.size (by omega) (by omega)).trans B8.out;have Ik:Hid (Dn.heap[w4.heap.size]? = some (.cells #[qi 5,qi 0,.string m,.string n,qs] 174 (0,0))):=(BI.block w4.heap.size (by omega) (by omega)).trans IX.out
   have HF:Hid (zd4 R a cap ts w (zbm (f+1) l) (zgs (w.heap.size<=·)) (.returned (.agg #[qi 5,qi 0,.string m,.string n,.slice a10 xs.length c10])) (set5 (Dn.setCell (qa w4.heap.size 4) (.slice a10 xs.length c10)) w.heap.size (qi 5) (qi 0) (.string m) (.string n) (.slice a10 xs.length c10))):=
    zna (x:=.mk 5 0 m n xs) HR.out HP.out ((Gd.out.trans BI).set (by show _<=w4.heap.size;omega) _) (HR10.setAbove HR.out (by show _<=w4.heap.size;omega) _) hm Ez (lo:=w9.heap.size) (hx10.moves ((zad.refl Dn _).set (by intro b _ hb;show b≠w4.heap.size;omega) _)) (by omega)
   obtain ⟨h0,h1,h2,h3,h4,h5⟩:=zaa Fu.out;obtain ⟨g0,g1,g2,g3,g4,g5⟩:=zaa Ik.out
   have Ak:w.heap.size≠w4.heap.size:=by omega
   clear BI HR10 hn;go_wp2_with fail;refine bodyPost_ret (v:=.agg #[qi 5,qi 0,.string m,.string n,.slice a10 xs.length c10]) (by simp [results,Tryz.results283,go_sem,h0,h1,h2,h3,h4]) rfl HF.out
 refine (zb2 R cap a ts l5 tLp w7 DC.out (by simpa using Iv)).mono ?_;rintro e w8 ⟨rfl,Cf,AN⟩;have Do:=AN.size;have Be:Hid (w8.heap[w.heap.size]? = some zcg):=(AN.block w.heap.size (by omega) (by omega)).trans BE.out;have Dh:Hid (w8.heap[w4.heap.size]? = some (.cells #[qi 3,qi 0,.string m,.string n,qs] 174 (0,0))):=(AN.block w4.heap.size (by omega) (by omega)).trans FL.out
 have HF:Hid (zd4 R a cap ts w (zbm (f+1) l) (zgs (w.heap.size<=·)) (.returned (.agg #[qi 3,qi 0,.string m,.string n,qs])) (set5 w8 w.heap.size (qi 3) (qi 0) (.string m) (.string n) (qs))):=
  zna (x:=.mk 3 0 m n []) HR.out (by rw [IM.out,if_neg FR,if_neg Iv]) (DH.out.trans AN) Cf hm Ez (lo:=w8.heap.size) (Or.inl rfl) (by omega)
 obtain ⟨h0,h1,h2,h3,h4,h5⟩:=zaa Be.out;obtain ⟨g0,g1,g2,g3,g4,g5⟩:=zaa Dh.out;clear AN Cf;go_wp2_with fail;refine bodyPost_ret (v:=.agg #[qi 3,qi 0,.string m,.string n,qs]) (by simp [results,Tryz.results283,go_sem,h0,h1,h2,h3,h4]) rfl HF.out
theorem z35 (R cap:Nat) (a:OA) (ts:List Tk):∀ f,ExC R cap a ts f:=by
 intro f
 induction f using Nat.strongRecOn with
 | PU f ih=>
   cases f with
   | zero=>exact ⟨fun _ _ _ h=>by omega,fun _ _ _ h=>by omega,fun _ _ _ h=>by omega⟩
   | succ f=>
     exact ⟨fun l w h hf=>zzc R cap a ts f (ih f (by omega)) l w h hf,fun l w h hf=>zza R cap a ts f (ih f (by omega)) l w h hf,fun l w h hf=>zzb R cap a ts f (fun g hg=>ih g (by omega)) l w h hf⟩
theorem zet (R cap:Nat) (a:OA) (ts l:List Tk) (w:World) (h:Rd R a cap ts w l) :
 qc 283 #[pq R 0] w (zd4 R a cap ts w (pX l) (zgs (w.heap.size<=·))):=(z35 R cap a ts _).expr l w h (by omega)
theorem z12 (R cap:Nat) (a:OA) (ts l:List Tk) (w:World) (h:Rd R a cap ts w l) :
 qc 295 #[pq R 0] w (zd4 R a cap ts w (pAs l) (z83 (w.heap.size<=·))):=(z35 R cap a ts _).args l w h (by omega)
end Go.Proofs.YtndkhgakfodldaaGreatDoor

namespace Go.Proofs.YtndkhgakfodldaaGreatDoor
set_option maxRecDepth 100000
set_option maxHeartbeats 3200000
open Go.RowKit Go.Shelf
section
variable {P:Program} {ops:Array Oper} {o:Oper} {a:Act} {w:World} {K:Act->World->Prop} {Q:Exit->Act->World->Prop} {E:Prop}
theorem znb (f:FuncId) (x:Operand) (ty:TypeId) (ho:o.op = .call { callee:=.value (.func f),args:=#[x],argTypes:=#[ty] })
 (C7:Enters P f) (v:Value) (hx:a.eval x=v):(execOp a.eval o).run P w = .ok (.enter f #[v]) w:=by
 have h:=C7 #[v] w;have hf:a.eval (.func f) = .func (.func f) #[] #[]:=rfl;simp [execOp,ho,resolve,invoke,hx,hf,h,Deferred.ofValue]
theorem zb9 (BC:o.guard=none) (f:FuncId) (x:Operand) (ty:TypeId) (ho:o.op = .call { callee:=.value (.func f),args:=#[x],argTypes:=#[ty] })
 (C7:Enters P f) (v:Value) (hx:a.eval x=v) {R:Value->World->Prop} (hC:Calls P f #[v] w fun e w'=>∃ u,e = .returned u/\R u w')
 (h:∀ u w',R u w'->K (a.put o.dst u) w'):if Region.wanted o (yielded ops a.tmps)=true then Oper.wp P o a w K Q else E:=by
 have hw:Region.wanted o (yielded ops a.tmps)=true:=by simp [Region.wanted,BC]
 rw [if_pos hw];unfold Oper.wp;rw [znb f x ty ho C7 v hx,vdn];refine hC.mono ?_;rintro e w' ⟨u,rfl,hR⟩;exact h u w' hR
theorem zbf (BC:o.guard=none) (f:FuncId) (x:Operand) (ty:TypeId) (ho:o.op = .call { callee:=.value (.func f),args:=#[x],argTypes:=#[ty] })
 (C7:Enters P f) (v:Value) (hx:a.eval x=v) (c:List PanicEntry) {R:World->Prop} (hC:Calls P f #[v] w fun e w'=>e = .panicked c/\R w')
 (h:∀ w',R w'->Q (.panic c) a w'):if Region.wanted o (yielded ops a.tmps)=true then Oper.wp P o a w K Q else E:=by
 have hw:Region.wanted o (yielded ops a.tmps)=true:=by simp [Region.wanted,BC]
 rw [if_pos hw];unfold Oper.wp;rw [znb f x ty ho C7 v hx,vdn];refine hC.mono ?_;rintro e w' ⟨rfl,hR⟩;exact h w' hR
end
def zf7 (A:Nat->Prop) (s:St) (w:World) (v:Value):Prop:=∃ a1 c1 a2 c2 a3 c3,v = .agg #[qi s.op,.string s.mod,.string s.name,.slice a1 s.args.length c1,.slice a2 s.body.length c2,.slice a3 s.other.length c3]/\s.mod.size<=maxLen/\s.name.size<=maxLen/\
 EAt w A a1 s.args.length (zbo s.args)/\EAt w A a2 s.body.length (zbp s.body)/\EAt w A a3 s.other.length (zbp s.other)
def z84 (A:Nat->Prop) (xs:List St) (w:World) (v:Value):Prop:=∃ a cap,v = .slice a xs.length cap/\EAt w A a xs.length (zbp xs)
def zzd (s:St) (a1:OA) (c1:Nat) (a2:OA) (c2:Nat) (a3:OA) (c3:Nat):List Value:=[qi s.op,.string s.mod,.string s.name,.slice a1 s.args.length c1,.slice a2 s.body.length c2,.slice a3 s.other.length c3]
theorem z13 {A:Nat->Prop} {s:St} {w:World} {a1 a2 a3:OA} {c1 c2 c3:Nat} (h1:s.mod.size<=maxLen) (h2:s.name.size<=maxLen) (h3:EAt w A a1 s.args.length (zbo s.args)) (h4:EAt w A a2 s.body.length (zbp s.body)) (h5:EAt w A a3 s.other.length (zbp s.other)):zau w A s.ds (zzd s a1 c1 a2 c2 a3 c3):=by
 cases s
 unfold St.ds;exact .cons zpw (.cons (zw9 h1) (.cons (zw9 h2) (.cons h3.val (.cons h4.val (.cons h5.val .nil)))))
abbrev za1:Obj:=.cells #[qi 0,.string ⟨#[]⟩,.string ⟨#[]⟩,qs,qs,qs] 176 (0,0)
theorem st_end {R cap:Nat} {a:OA} {ts l l':List Tk} {w w1:World} {r:Option (St × List Tk)} {s:St} {a1 a2 a3:OA} {c1 c2 c3:Nat} (h0:Rd R a cap ts w l) (hr:r=some (s,l')) (hk:Keeps R w w1) (Dj:Rd R a cap ts w1 l')
 (AU:s.mod.size<=maxLen) (AM:s.name.size<=maxLen) {lo:Nat} (h1:EAt w1 (lo<=·) a1 s.args.length (zbo s.args)) (h2:EAt w1 (lo<=·) a2 s.body.length (zbp s.body)) (h3:EAt w1 (lo<=·) a3 s.other.length (zbp s.other)) (CT:w.heap.size<lo) :
 zd4 R a cap ts w r (zf7 (w.heap.size<=·)) (.returned (.agg #[qi s.op,.string s.mod,.string s.name,.slice a1 s.args.length c1,.slice a2 s.body.length c2,.slice a3 s.other.length c3])) (set6 w1 w.heap.size (qi s.op) (.string s.mod) (.string s.name) (.slice a1 s.args.length c1) (.slice a2 s.body.length c2) (.slice a3 s.other.length c3)):=by
 have hm:zad w1 (lo<=·) (set6 w1 w.heap.size (qi s.op) (.string s.mod) (.string s.name) (.slice a1 s.args.length c1) (.slice a2 s.body.length c2) (.slice a3 s.other.length c3)) (w.heap.size<=·):=((zad.refl w1 (lo<=·)).set6 (by intro b _ hb;omega) _ _ _ _ _ _).to (by omega);exact ⟨hk.set6 (vaa _) _ _ _ _ _ _,Or.inr ⟨s,l',_,hr,rfl,⟨a1,c1,a2,c2,a3,c3,rfl,AU,AM,h1.moves hm,h2.moves hm,h3.moves hm⟩,Dj.set6 h0 (vaa _) _ _ _ _ _ _⟩⟩
theorem zky (R cap:Nat) (a:OA) (ts l:List Tk) (w:World) (h:Rd R a cap ts w l) (op:Int) (mod name:ByteArray) (a1 a2 a3:OA) (n1 n2 n3 c1 c2 c3:Nat) :
 qc 284 #[pq R 0,.agg #[qi op,.string mod,.string name,.slice a1 n1 c1,.slice a2 n2 c2,.slice a3 n3 c3]] w fun e w'=>Keeps R w w'/\
  ((skB l zhj=false/\e = .panicked zag)\/(skB l zhj=true/\e = .returned (.agg #[qi op,.string mod,.string name,.slice a1 n1 c1,.slice a2 n2 c2,.slice a3 n3 c3])/\Rd R a cap ts w' l.tail)):=by
 have HR:Hid (Rd R a cap ts w l):=h;have CC:=h.lt;clear h;go_enter Tryz.func284,Tryz.ntmps284;go_wp2_with fail;refine (zfk R cap _ a ts l zhj _ (by simp) ((HR.out.alloc _).alloc _) (by decide)).mono ?_;rintro e w1 ⟨AF,⟨hs,rfl⟩ | ⟨hs,rfl,B3⟩⟩
 . exact ⟨rfl,(((Keeps.refl R w).alloc _).alloc _).trans AF,Or.inl ⟨hs,rfl⟩⟩
 have An:=AF.size;simp at An;have A7:Hid (w1.heap[w.heap.size]? = some (.cells #[qi op,.string mod,.string name,.slice a1 n1 c1,.slice a2 n2 c2,.slice a3 n3 c3] 176 (0,0))):=(AF.block w.heap.size (by simp;omega) (by omega)).trans (zab (heap_newP _ _));have Kz:Hid (w1.heap[w.heap.size+1]? = some za1):=(AF.block (w.heap.size+1) (by simp) (by omega)).trans (by have e:=heap_newP (w.alloc (kzB op mod name a1 n1 c1 a2 n2 c2 a3 n3 c3)) za1;simpa using e);have AY:Hid (Keeps R w w1):=(((Keeps.refl R w).alloc _).alloc _).trans AF;have BF:Hid (Rd R a cap ts w1 l.tail):=B3;obtain ⟨f0,f1,f2,f3,f4,f5,f6⟩:=zam A7.out;obtain ⟨g0,g1,g2,g3,g4,g5,g6⟩:=zam Kz.out;clear AF B3;go_wp2_with fail;refine bodyPost_ret (v:=.agg #[qi op,.string mod,.string name,.slice a1 n1 c1,.slice a2 n2 c2,.slice a3 n3 c3]) (by simp [results,Tryz.results284,go_sem,g0,g1,g2,g3,g4,g5]) rfl ⟨AY.out.set6 (by omega) _ _ _ _ _ _,Or.inr ⟨hs,rfl,BF.out.set6 HR.out (by omega) _ _ _ _ _ _⟩⟩
theorem znc {R cap:Nat} {a:OA} {ts l':List Tk} {w w':World} {r:Option (St × List Tk)} {s:St} {a1 a2 a3:OA} {c1 c2 c3:Nat} (hr:r=some (s,l')) (hk:Keeps R w w') (Dj:Rd R a cap ts w' l')
 (AU:s.mod.size<=maxLen) (AM:s.name.size<=maxLen) (h1:EAt w' (w.heap.size<=·) a1 s.args.length (zbo s.args)) (h2:EAt w' (w.heap.size<=·) a2 s.body.length (zbp s.body)) (h3:EAt w' (w.heap.size<=·) a3 s.other.length (zbp s.other)) :
 zd4 R a cap ts w r (zf7 (w.heap.size<=·)) (.returned (.agg #[qi s.op,.string s.mod,.string s.name,.slice a1 s.args.length c1,.slice a2 s.body.length c2,.slice a3 s.other.length c3])) w':=
 ⟨hk,Or.inr ⟨s,l',_,hr,rfl,⟨a1,c1,a2,c2,a3,c3,rfl,AU,AM,h1,h2,h3⟩,Dj⟩⟩
theorem z7k (l:List Tk) (t u v:ByteArray):zjg l [t,u,v]=if skB l t then some t else if skB l u then some u else if skB l v then some v else none:=by
 unfold zjg;rw [vcq,vcq,vcq];cases skB l t<;>cases skB l u<;>cases skB l v<;>rfl
theorem z7l (R cap n:Nat) (a:OA) (ts l:List Tk) (t u v:ByteArray) (w:World) (hn:n=w.heap.size) (h:Rd R a cap ts w l) (ht:0<t.size) (hu:0<u.size) (hv:0<v.size) :
 qc 195 #[pq R 0,.slice (some (qa n 0)) 3 3] (w.alloc (.cells #[.string t,.string u,.string v] 9)) fun e w'=>Keeps R w w'/\((skB l t=false/\skB l u=false/\skB l v=false/\e = .panicked zag)\/(skB l t=true/\e = .returned (.string t)/\Rd R a cap ts w' l.tail)\/(skB l t=false/\skB l u=true/\e = .returned (.string u)/\Rd R a cap ts w' l.tail)\/(skB l t=false/\skB l u=false/\skB l v=true/\e = .returned (.string v)/\Rd R a cap ts w' l.tail)):=by
 have A4:=h.lt;subst hn;refine (zjy R cap w.heap.size 3 a ts l [t,u,v] _ (h.alloc _) (by simp) (by omega) (by simp) (fun i hi=>?_) (fun i hi=>?_)).mono ?_
 . obtain rfl | rfl | rfl:i=0\/i=1\/i=2:=by simp at hi;omega
   all_goals simp
 . obtain rfl | rfl | rfl:i=0\/i=1\/i=2:=by simp at hi;omega
   . exact ht
   . exact hu
   . exact hv
 . rintro e w' ⟨hk,hr⟩
   refine ⟨((Keeps.refl R w).alloc _).trans hk,?_⟩;rw [z7k] at hr
   have CB:∀ x:ByteArray,((some x).map fun t=>(t,l.tail))=some (x,l.tail):=fun _=>rfl
   cases hs:skB l t<;>cases AB:skB l u<;>cases Bl:skB l v<;>rw [hs,AB,Bl] at hr<;>simp only [vcu,if_false,if_true,Option.map_none,Option.map_some] at hr
   . rcases hr with ⟨_,rfl⟩ | ⟨x,l',y,hr,_⟩
     . exact Or.inl ⟨rfl,rfl,rfl,rfl⟩
     . cases hr
   all_goals
    rcases hr with ⟨hr,_⟩ | ⟨x,l',y,hr,rfl,rfl,hR⟩
    . cases hr
    . obtain ⟨rfl,rfl⟩:=vao (vab hr)
      simp [hR]
theorem z5i {R cap:Nat} {a:OA} {ts l l8:List Tk} {w w8 w9:World} {r:Option (St × List Tk)} {x y:Ex} {m n:ByteArray} {g9 c9:Nat} (h0:Rd R a cap ts w l) (hr:r=some (.mk 2 m n [x,y] [] [],l8)) (AN:Keeps R w w8) (Cf:Rd R a cap ts w8 l8)
 (hm:m.size<=maxLen) (Ez:n.size<=maxLen) (B8:Below (w.heap.size+2) w8 w9) (DF:Row (w.heap.size+2) 174 5 w9 (.slice (some (qa g9 0)) 2 c9) 2 (x.ds++y.ds)) :
 zd4 R a cap ts w r (zf7 (w.heap.size<=·)) (.returned (.agg #[qi 2,.string m,.string n,.slice (some (qa g9 0)) 2 c9,qs,qs])) (set6 (w9.setCell ⟨w.heap.size+1,3,none⟩ (.slice (some (qa g9 0)) 2 c9)) w.heap.size (qi 2) (.string m) (.string n) (.slice (some (qa g9 0)) 2 c9) (qs) (qs)):=by
 have O3:Below w.heap.size w8 w9:=B8.mono (by omega)
 have hd:zbo [x,y]=x.ds++y.ds:=by simp [zbo]
 obtain ⟨a',c',hv,AH⟩:=DF.slice
 injection hv with hv1 hv2 hv3
 rw [← hv1,← hd] at AH;have Mw:=AH.moves ((((zad.refl w9 (w.heap.size+2<=·)).set (p:=⟨w.heap.size+1,3,none⟩) (by intro b _ hb;show b≠w.heap.size+1;omega) (.slice (some (qa g9 0)) 2 c9)).set6 (b:=w.heap.size) (by intro b _ hb;omega) (qi 2) (.string m) (.string n) (.slice (some (qa g9 0)) 2 c9) (qs) (qs)).to (lo':=w.heap.size) (by omega))
 have Ot:=(((AN.belowOf O3).set (p:=⟨w.heap.size+1,3,none⟩) (by show w.heap.size<=w.heap.size+1;omega) (.slice (some (qa g9 0)) 2 c9)).set6 (b:=w.heap.size) (vaa _) (qi 2) (.string m) (.string n) (.slice (some (qa g9 0)) 2 c9) (qs) (qs))
 have Qe:=((Cf.belowOf h0 O3).setAbove h0 (p:=⟨w.heap.size+1,3,none⟩) (by show w.heap.size<=w.heap.size+1;omega) (.slice (some (qa g9 0)) 2 c9)).set6 h0 (b:=w.heap.size) (vaa _) (qi 2) (.string m) (.string n) (.slice (some (qa g9 0)) 2 c9) (qs) (qs);exact znc (s:=.mk 2 m n [x,y] [] []) hr Ot Qe hm Ez Mw (Or.inl rfl) (Or.inl rfl)
theorem z5j:Enters Tryz.prog 283:=enters_of Tryz.func283 (by kernel_rfl) rfl
theorem zze (R cap:Nat) (a:OA) (ts l:List Tk) (w:World) (h:Rd R a cap ts w l) :
 qc 285 #[pq R 0] w (zd4 R a cap ts w (zbr l) (zf7 (w.heap.size<=·))):=by
 have HR:Hid (Rd R a cap ts w l):=h;have CC:=h.lt;clear h;go_enter Tryz.func285,Tryz.ntmps285;go_wp2_with fail;refine (zy6 R cap a ts l _ ((HR.out.alloc _).alloc _)).mono ?_;rintro e w1 ⟨AF,⟨hn,rfl⟩ | ⟨⟨m,n⟩,l1,v,hn,rfl,⟨rfl,hm,Ez⟩,B3⟩⟩
 . exact ⟨rfl,(((Keeps.refl R w).alloc _).alloc _).trans AF,Or.inl ⟨by unfold zbr;rw [hn],rfl⟩⟩
 have An:=AF.size;simp at An
 have Bc:Hid (zbr l=if skB l1 tEq then (match pX l1.tail with | none=>none | some (x,l2)=>some (.mk 1 m n [x] [] [],l2))
  else if skB l1 tLs then (match pX l1.tail with
   | none=>none
   | some (x,l2)=>if skB l2 tRs then (if skB l2.tail tEq then (match pX l2.tail.tail with | none=>none | some (y,l3)=>some (.mk 2 m n [x,y] [] [],l3)) else none) else none)
  else if skB l1 tLp then (match pAs l1.tail with | none=>none | some (xs,l2)=>some (.mk 3 m n xs [] [],l2))
  else none):=by show zbr l=_;unfold zbr;rw [hn];rfl
 have AY:Hid (Keeps R w w1):=(((Keeps.refl R w).alloc _).alloc _).trans AF;have A7:Hid (w1.heap[w.heap.size]? = some za1):=(AF.block w.heap.size (by simp;omega) (by omega)).trans (zab (heap_newP _ _));have Kz:Hid (w1.heap[w.heap.size+1]? = some za1):=(AF.block (w.heap.size+1) (by simp) (by omega)).trans (by have e:=heap_newP (w.alloc za1) za1;simpa using e);obtain ⟨h0,h1,h2,h3,h4,h5,h6⟩:=zam Kz.out;have Ao:Hid (Rd R a cap ts ((w1.setCell ⟨w.heap.size+1,1,none⟩ (.string m)).setCell ⟨w.heap.size+1,2,none⟩ (.string n)) l1):=(B3.setAbove HR.out (by show _<=w.heap.size+1;omega) _).setAbove HR.out (by show _<=w.heap.size+1;omega) _;have AL:Hid (Keeps R w ((w1.setCell ⟨w.heap.size+1,1,none⟩ (.string m)).setCell ⟨w.heap.size+1,2,none⟩ (.string n))):=(AY.out.set (by show _<=w.heap.size+1;omega) _).set (by show _<=w.heap.size+1;omega) _
 have Af:Hid (((w1.setCell ⟨w.heap.size+1,1,none⟩ (.string m)).setCell ⟨w.heap.size+1,2,none⟩ (.string n)).heap[w.heap.size]? = some za1):=(heap_set_ne (by show w.heap.size≠w.heap.size+1;omega) _).trans ((heap_set_ne (by show w.heap.size≠w.heap.size+1;omega) _).trans A7.out);have Bp:Hid (((w1.setCell ⟨w.heap.size+1,1,none⟩ (.string m)).setCell ⟨w.heap.size+1,2,none⟩ (.string n)).heap[w.heap.size+1]? = some (.cells #[qi 0,.string m,.string n,qs,qs,qs] 176 (0,0))):=heap_set (heap_set Kz.out _) _
 have AA:((w1.setCell ⟨w.heap.size+1,1,none⟩ (.string m)).setCell ⟨w.heap.size+1,2,none⟩ (.string n)).heap.size=w1.heap.size:=by simp only [vaq]
 have Dq:w.heap.size+1<w1.heap.size:=by omega
 clear hn B3 AF A7 AY;go_wp2_with fail;generalize (w1.setCell ⟨w.heap.size+1,1,none⟩ (.string m)).setCell ⟨w.heap.size+1,2,none⟩ (.string n)=w2 at *;clear h0 h1 h2 h3 h4 h5 h6 Kz;refine (z7l R cap _ a ts l1 tEq tLs tLp w2 (by omega) Ao.out (by decide) (by decide) (by decide)).mono ?_;rintro e w3 ⟨Am,⟨s1,s2,s3,rfl⟩ | ⟨s1,rfl,Aq⟩ | ⟨s1,s2,rfl,Aq⟩ | ⟨s1,s2,s3,rfl,Aq⟩⟩
 . exact ⟨rfl,AL.out.trans Am,Or.inl ⟨by rw [Bc.out,s1,s2,s3];rfl,rfl⟩⟩
 . have Bz:=Am.size
   have Ae:Hid (w3.heap[w.heap.size]? = some za1):=(Am.block w.heap.size (by omega) (by omega)).trans Af.out;have BK:Hid (w3.heap[w.heap.size+1]? = some (.cells #[qi 0,.string m,.string n,qs,qs,qs] 176 (0,0))):=(Am.block (w.heap.size+1) (by omega) (by omega)).trans Bp.out;obtain ⟨h0,h1,h2,h3,h4,h5,h6⟩:=zam BK.out;have AX:Hid (Rd R a cap ts (w3.setCell ⟨w.heap.size+1,0,none⟩ (qi 1)) l1.tail):=Aq.setAbove HR.out (by show _<=w.heap.size+1;omega) _;have Ax:Hid (Keeps R w (w3.setCell ⟨w.heap.size+1,0,none⟩ (qi 1))):=(AL.out.trans Am).set (by show _<=w.heap.size+1;omega) _;have Ar:Hid ((w3.setCell ⟨w.heap.size+1,0,none⟩ (qi 1)).heap[w.heap.size]? = some za1):=(heap_set_ne (by show w.heap.size≠w.heap.size+1;omega) _).trans Ae.out;have D5:Hid ((w3.setCell ⟨w.heap.size+1,0,none⟩ (qi 1)).heap[w.heap.size+1]? = some (.cells #[qi 1,.string m,.string n,qs,qs,qs] 176 (0,0))):=heap_set BK.out _
   have D1:(w3.setCell ⟨w.heap.size+1,0,none⟩ (qi 1)).heap.size=w3.heap.size:=by simp only [vaq]
   clear Aq Am Ae Ao AL Af Bp;go_wp2_with fail;generalize w3.setCell ⟨w.heap.size+1,0,none⟩ (qi 1)=w4 at *;clear h0 h1 h2 h3 h4 h5 h6 BK;refine (zet R cap a ts l1.tail w4 AX.out).mono ?_;rintro e w5 ⟨Aw,⟨hn,rfl⟩ | ⟨x,l5,v,hn,rfl,⟨a5,c5,rfl,AU,AM,hx3⟩,Bu⟩⟩
   . exact ⟨rfl,Ax.out.trans Aw,Or.inl ⟨by rw [Bc.out,if_pos s1,hn],rfl⟩⟩
   have C4:=Aw.size
   have HP:Hid (zbr l=some (.mk 1 m n [x] [] [],l5)):=by show zbr l=_;rw [Bc.out,if_pos s1,hn]
   have Av:Hid (w5.heap[w.heap.size]? = some za1):=(Aw.block w.heap.size (by omega) (by omega)).trans Ar.out;have BU:Hid (w5.heap[w.heap.size+1]? = some (.cells #[qi 1,.string m,.string n,qs,qs,qs] 176 (0,0))):=(Aw.block (w.heap.size+1) (by omega) (by omega)).trans D5.out
   have HF:Hid (zd4 R a cap ts w (zbr l) (zf7 (w.heap.size<=·)) (.returned (.agg #[qi 1,.string m,.string n,.slice (some (qa w5.heap.size 0)) 1 1,qs,qs])) ((set6 (w5.setCell ⟨w.heap.size+1,3,none⟩ (.slice (some (qa w5.heap.size 0)) 1 1)) w.heap.size (qi 1) (.string m) (.string n) (.slice (some (qa w5.heap.size 0)) 1 1) (qs) (qs)).alloc (kzE x.op x.n x.mod x.name a5 x.args.length c5))):=by
    refine znc (s:=.mk 1 m n [x] [] []) HP.out ((((Ax.out.trans Aw).set (by show _<=w.heap.size+1;omega) _).set6 (vaa _) _ _ _ _ _ _).alloc _) (((Bu.setAbove HR.out (by show _<=w.heap.size+1;omega) _).set6 HR.out (vaa _) _ _ _ _ _ _).alloc _) hm Ez ?_ (Or.inl rfl) (Or.inl rfl);refine zkx (t:=174) (cap:=c5) AU AM hx3 (((((zad.refl w5 _).set (by intro b _ hb;show b≠w.heap.size+1;omega) _).set6 (b:=w.heap.size) (by intro b _ hb;omega) _ _ _ _ _ _).alloc _).to (by omega)) ?_ (by show w.heap.size<=w5.heap.size;omega);have e:=heap_newP (set6 (w5.setCell ⟨w.heap.size+1,3,none⟩ (.slice (some (qa w5.heap.size 0)) 1 1)) w.heap.size (qi 1) (.string m) (.string n) (.slice (some (qa w5.heap.size 0)) 1 1) (qs) (qs)) (kzE x.op x.n x.mod x.name a5 x.args.length c5);simp only [vaq] at e;exact e
   obtain ⟨h0,h1,h2,h3,h4,h5,h6⟩:=zam Av.out;obtain ⟨g0,g1,g2,g3,g4,g5,g6⟩:=zam BU.out
   have Qj:w.heap.size+1<w5.heap.size:=by omega
   have Qi:w.heap.size<w5.heap.size:=by omega
   clear hn Aw Bu AU AM hx3 Ar D5 AX Ax;go_wp2_with fail;refine bodyPost_ret (v:=.agg #[qi 1,.string m,.string n,.slice (some (qa w5.heap.size 0)) 1 1,qs,qs]) (by simp [results,Tryz.results285,go_sem,h0,h1,h2,h3,h4,h5,Qi]) rfl HF.out
 . have Bz:=Am.size
   have Ae:Hid (w3.heap[w.heap.size]? = some za1):=(Am.block w.heap.size (by omega) (by omega)).trans Af.out;have BK:Hid (w3.heap[w.heap.size+1]? = some (.cells #[qi 0,.string m,.string n,qs,qs,qs] 176 (0,0))):=(Am.block (w.heap.size+1) (by omega) (by omega)).trans Bp.out;obtain ⟨h0,h1,h2,h3,h4,h5,h6⟩:=zam BK.out;have AX:Hid (Rd R a cap ts (w3.setCell ⟨w.heap.size+1,0,none⟩ (qi 2)) l1.tail):=Aq.setAbove HR.out (by show _<=w.heap.size+1;omega) _;have Ax:Hid (Keeps R w (w3.setCell ⟨w.heap.size+1,0,none⟩ (qi 2))):=(AL.out.trans Am).set (by show _<=w.heap.size+1;omega) _;have Ar:Hid ((w3.setCell ⟨w.heap.size+1,0,none⟩ (qi 2)).heap[w.heap.size]? = some za1):=(heap_set_ne (by show w.heap.size≠w.heap.size+1;omega) _).trans Ae.out;have D5:Hid ((w3.setCell ⟨w.heap.size+1,0,none⟩ (qi 2)).heap[w.heap.size+1]? = some (.cells #[qi 2,.string m,.string n,qs,qs,qs] 176 (0,0))):=heap_set BK.out _
   have D1:(w3.setCell ⟨w.heap.size+1,0,none⟩ (qi 2)).heap.size=w3.heap.size:=by simp only [vaq]
   clear Aq Am Ae Ao AL Af Bp;go_wp2_with fail;generalize w3.setCell ⟨w.heap.size+1,0,none⟩ (qi 2)=w4 at *;clear h0 h1 h2 h3 h4 h5 h6 BK;refine (zet R cap a ts l1.tail w4 AX.out).mono ?_;rintro e w5 ⟨Aw,⟨hn,rfl⟩ | ⟨x,l5,v,hn,rfl,⟨a5,c5,rfl,AU,AM,hx3⟩,Bu⟩⟩
   . exact ⟨rfl,Ax.out.trans Aw,Or.inl ⟨by rw [Bc.out,if_neg (by simp [s1]),if_pos s2,hn],rfl⟩⟩
   have C4:=Aw.size
   have Ld:Hid (zbr l=if skB l5 tRs then (if skB l5.tail tEq then (match pX l5.tail.tail with | none=>none | some (y,l3)=>some (.mk 2 m n [x,y] [] [],l3)) else none) else none):=by show zbr l=_;rw [Bc.out,if_neg (by simp [s1]),if_pos s2,hn]
   have Av:Hid (w5.heap[w.heap.size]? = some za1):=(Aw.block w.heap.size (by omega) (by omega)).trans Ar.out;have BU:Hid (w5.heap[w.heap.size+1]? = some (.cells #[qi 2,.string m,.string n,qs,qs,qs] 176 (0,0))):=(Aw.block (w.heap.size+1) (by omega) (by omega)).trans D5.out;have Cs:Hid (Keeps R w w5):=Ax.out.trans Aw;have DD:Hid (Rd R a cap ts w5 l5):=Bu;have CJ:Hid (zau w5 (w4.heap.size<=·) x.ds (zfl x a5 c5)):=zfm AU AM hx3;obtain ⟨h0,h1,h2,h3,h4,h5,h6⟩:=zam BU.out
   have Qj:w.heap.size+1<w5.heap.size:=by omega
   clear hn Aw Bu AU AM hx3 Ar D5 AX Ax Bc;go_wp2_with fail;refine (zfk R cap _ a ts l5 tRs _ (by simp) ((DD.out.setAbove HR.out (by show _<=w.heap.size+1;omega) _).alloc _) (by decide)).mono ?_;rintro e w6 ⟨EF,⟨t6,rfl⟩ | ⟨t6,rfl,I5⟩⟩
   . exact ⟨rfl,((Cs.out.set (by show _<=w.heap.size+1;omega) _).alloc _).trans EF,Or.inl ⟨by rw [Ld.out,t6];rfl,rfl⟩⟩
   have GM:=EF.size;simp at GM
   have IO:Hid (Row (w.heap.size+2) 174 5 w6 (.slice (some (qa w5.heap.size 0)) 1 1) 1 x.ds):=by
    have e:=Row.first (base:=w.heap.size+2) (e:=174) (size:=5) (w:=w5.setCell ⟨w.heap.size+1,3,none⟩ (.slice (some (qa w5.heap.size 0)) 1 1)) (A:=(w4.heap.size<=·)) (ds:=x.ds) (cs:=#[qi x.op,qi x.n,.string x.mod,.string x.name,.slice a5 x.args.length c5])
     (CJ.out.moves ((zad.refl w5 _).set (by intro b _ hb;show b≠w.heap.size+1;omega) _)) (fun b _ hb=>by omega) (by simp;omega) rfl
    simp only [vaq] at e;exact Row.keeps e EF (by omega)
   have CA:Hid (w6.heap[w.heap.size]? = some za1):=(EF.block w.heap.size (by simp;omega) (by omega)).trans (zab ((heap_set_ne (by show w.heap.size≠w.heap.size+1;omega) _).trans Av.out));have Ij:Hid (w6.heap[w.heap.size+1]? = some (.cells #[qi 2,.string m,.string n,.slice (some (qa w5.heap.size 0)) 1 1,qs,qs] 176 (0,0))):=(EF.block (w.heap.size+1) (by simp;omega) (by omega)).trans (zab (heap_set BU.out _));have Ic:Hid (Keeps R w w6):=((Cs.out.set (by show _<=w.heap.size+1;omega) _).alloc _).trans EF;have K3:Hid (Rd R a cap ts w6 l5.tail):=I5;clear I5 EF DD Cs CJ Av BU h0 h1 h2 h3 h4 h5 h6;go_wp2_with fail;refine (zfk R cap _ a ts l5.tail tEq _ (by simp) K3.out (by decide)).mono ?_;rintro e w7 ⟨CZ,⟨t7,rfl⟩ | ⟨t7,rfl,HR7⟩⟩
   . exact ⟨rfl,Ic.out.trans CZ,Or.inl ⟨by rw [Ld.out,t6,t7];rfl,rfl⟩⟩
   have Iu:=CZ.size;have GE:Hid (Row (w.heap.size+2) 174 5 w7 (.slice (some (qa w5.heap.size 0)) 1 1) 1 x.ds):=IO.out.keeps CZ (by omega);have BE:Hid (w7.heap[w.heap.size]? = some za1):=(CZ.block w.heap.size (by omega) (by omega)).trans CA.out;have FL:Hid (w7.heap[w.heap.size+1]? = some (.cells #[qi 2,.string m,.string n,.slice (some (qa w5.heap.size 0)) 1 1,qs,qs] 176 (0,0))):=(CZ.block (w.heap.size+1) (by omega) (by omega)).trans Ij.out;have DH:Hid (Keeps R w w7):=Ic.out.trans CZ;have DC:Hid (Rd R a cap ts w7 l5.tail.tail):=HR7
   have E7:Hid (zbr l=match pX l5.tail.tail with | none=>none | some (y,l3)=>some (.mk 2 m n [x,y] [] [],l3)):=by show zbr l=_;rw [Ld.out,t6,t7];rfl
   obtain ⟨h0,h1,h2,h3,h4,h5,h6⟩:=zam FL.out;clear HR7 CZ K3 Ic CA Ij IO Ld t6 t7
   cases hx:pX l5.tail.tail with
   | none=>
     have HE:Hid (∀ w',Rd R a cap ts w' l5.tail.tail->qc 283 #[pq R 0] w' fun e Az=>e = .panicked zag/\Keeps R w' Az):=fun w' h'=>by
      refine (zet R cap a ts _ w' h').mono ?_;rintro e Az ⟨hk,⟨_,rfl⟩ | ⟨_,_,_,h,_⟩⟩
      . exact ⟨rfl,hk⟩
      . rw [hx] at h;cases h
     have HP:Hid (zbr l=none):=by show zbr l=_;rw [E7.out,hx]
     clear hx E7;go_wp2_with fail;refine wp_region_any (by kernel_rfl) ?_
     change wpAny _ _ _ _ _ _ _ (World.drew _)
     refine wpAny_take (i:=2) (v:=pq R 0) rfl (by kernel_rfl) (by kernel_rfl) (by kernel_rfl) (fun c a w h=>h) (Or.inl ⟨by rfl,fun w=>by go_simp⟩) ?_;refine wpAny_take (i:=0) (v:=.pointer (some ⟨w.heap.size+1,3,none⟩)) rfl (by kernel_rfl) (by kernel_rfl) (by kernel_rfl) (fun c a w h=>h) (Or.inl ⟨by rfl,fun w=>by go_simp⟩) ?_;refine wpAny_ready (rs:=[1,3]) (by kernel_rfl) (by simp) ?_;refine veh rfl (fun K hK=>?_) (veh rfl (fun K hK=>?_) vej)
     . go_simp
       refine hK _ _ ?_;clear hK K;refine wpAny_ready (rs:=[3]) (by kernel_rfl) (by simp) ?_;refine veh rfl (fun K hK=>?_) vej;refine zbf (by rfl) 283 _ _ (by rfl) z5j _ (by rfl) zag (HE.out _ DC.out.drew) ?_;intro w8 hk8;exact ⟨rfl,DH.out.drew.trans hk8,Or.inl ⟨HP.out,rfl⟩⟩
     . refine zbf (by rfl) 283 _ _ (by rfl) z5j _ (by rfl) zag (HE.out _ DC.out.drew) ?_
       intro w8 hk8;exact ⟨rfl,DH.out.drew.trans hk8,Or.inl ⟨HP.out,rfl⟩⟩
   | some r=>
     obtain ⟨y,l8⟩:=r
     have HE:Hid (∀ w',Rd R a cap ts w' l5.tail.tail->qc 283 #[pq R 0] w' fun e Az=>∃ u,e = .returned u/\(Keeps R w' Az/\zgs (w'.heap.size<=·) y Az u/\Rd R a cap ts Az l8)):=fun w' h'=>by
      refine (zet R cap a ts _ w' h').mono ?_;rintro e Az ⟨hk,⟨h,_⟩ | ⟨y',l',u,h,rfl,hr,hd⟩⟩
      . rw [hx] at h;cases h
      . rw [hx] at h
        obtain ⟨rfl,rfl⟩:=vao (vab h);exact ⟨u,rfl,hk,hr,hd⟩
     have HP:Hid (zbr l=some (.mk 2 m n [x,y] [] [],l8)):=by show zbr l=_;rw [E7.out,hx]
     clear hx E7;go_wp2_with fail
     go_region_law (first
      | (refine zb9 (by rfl) 283 _ _ (by rfl) z5j _ (by rfl) (HE.out _ DC.out.drew) ?_
         rintro u8 w8 ⟨AN,⟨a8,c8,rfl,D8,CN,Dp⟩,Cf⟩;have Do:w7.heap.size<=w8.heap.size:=AN.size
         have Ix:w.heap.size+1<w8.heap.size:=by omega
         have Dh:Hid (w8.heap[w.heap.size+1]? = some (.cells #[qi 2,.string m,.string n,.slice (some (qa w5.heap.size 0)) 1 1,qs,qs] 176 (0,0))):=(AN.block (w.heap.size+1) (show w.heap.size+1<w7.heap.size by omega) (by omega)).trans FL.out;have Be:Hid (w8.heap[w.heap.size]? = some za1):=(AN.block w.heap.size (show w.heap.size<w7.heap.size by omega) (by omega)).trans BE.out;have Ho:w8.cell? ⟨w.heap.size+1,3,none⟩=some (.slice (some (qa w5.heap.size 0)) 1 1):=(AN.cell (show w.heap.size+1<w7.heap.size by omega) (by omega)).trans h3
         have CX:Hid (Row (w.heap.size+2) 174 5 w8 (.slice (some (qa w5.heap.size 0)) 1 1) 1 x.ds):=(GE.out.keeps (Keeps.refl R w7).drew (by omega)).keeps AN (by omega))
      | (refine zbj (by rfl) _ _ 172 (by rfl) (w.heap.size+2) 174 _ 5 72 Tryz.underlying172 Tryz.infoP80 rfl (by decide) w8 _ 1 x.ds y.ds (by rfl) CX.out _ _ rfl (by rfl) rfl (w7.heap.size<=·) (zfm D8 CN Dp) (fun b _ hb=>⟨by omega,fun h=>by have h':w5.heap.size=b:=vab h;omega⟩) (by omega) (by decide) (by omega) ?_
         intro g9 c9 w9 DF B8 EM;have IX:Hid (w9.heap[w.heap.size+1]? = some (.cells #[qi 2,.string m,.string n,.slice (some (qa w5.heap.size 0)) 1 1,qs,qs] 176 (0,0))):=(B8.block (w.heap.size+1) (by omega)).trans Dh.out;have S9:Hid (w9.heap[w.heap.size]? = some za1):=(B8.block w.heap.size (by omega)).trans Be.out;obtain ⟨k0,k1,k2,k3,k4,k5,k6⟩:=zam IX.out;obtain ⟨m0,m1,m2,m3,m4,m5,m6⟩:=zam S9.out
         have Qo:w.heap.size≠w.heap.size+1:=by omega
         have HF:Hid (zd4 R a cap ts w (zbr l) (zf7 (w.heap.size<=·)) (.returned (.agg #[qi 2,.string m,.string n,.slice (some (qa g9 0)) 2 c9,qs,qs])) (set6 (w9.setCell ⟨w.heap.size+1,3,none⟩ (.slice (some (qa g9 0)) 2 c9)) w.heap.size (qi 2) (.string m) (.string n) (.slice (some (qa g9 0)) 2 c9) (qs) (qs))):=z5i HR.out HP.out (DH.out.drew.trans AN) Cf hm Ez B8 DF))
     all_goals
      go_wp2_with fail;refine bodyPost_ret (v:=.agg #[qi 2,.string m,.string n,.slice (some (qa g9 0)) 2 c9,qs,qs]) (by simp [results,Tryz.results285,go_sem,m0,m1,m2,m3,m4,m5]) rfl HF.out
 . have Bz:=Am.size
   have Ae:Hid (w3.heap[w.heap.size]? = some za1):=(Am.block w.heap.size (by omega) (by omega)).trans Af.out;have BK:Hid (w3.heap[w.heap.size+1]? = some (.cells #[qi 0,.string m,.string n,qs,qs,qs] 176 (0,0))):=(Am.block (w.heap.size+1) (by omega) (by omega)).trans Bp.out;obtain ⟨h0,h1,h2,h3,h4,h5,h6⟩:=zam BK.out;have AX:Hid (Rd R a cap ts (w3.setCell ⟨w.heap.size+1,0,none⟩ (qi 3)) l1.tail):=Aq.setAbove HR.out (by show _<=w.heap.size+1;omega) _;have Ax:Hid (Keeps R w (w3.setCell ⟨w.heap.size+1,0,none⟩ (qi 3))):=(AL.out.trans Am).set (by show _<=w.heap.size+1;omega) _;have Ar:Hid ((w3.setCell ⟨w.heap.size+1,0,none⟩ (qi 3)).heap[w.heap.size]? = some za1):=(heap_set_ne (by show w.heap.size≠w.heap.size+1;omega) _).trans Ae.out;have D5:Hid ((w3.setCell ⟨w.heap.size+1,0,none⟩ (qi 3)).heap[w.heap.size+1]? = some (.cells #[qi 3,.string m,.string n,qs,qs,qs] 176 (0,0))):=heap_set BK.out _
   have D1:(w3.setCell ⟨w.heap.size+1,0,none⟩ (qi 3)).heap.size=w3.heap.size:=by simp only [vaq]
   clear Aq Am Ae Ao AL Af Bp;go_wp2_with fail;generalize w3.setCell ⟨w.heap.size+1,0,none⟩ (qi 3)=w4 at *;clear h0 h1 h2 h3 h4 h5 h6 BK;refine (z12 R cap a ts l1.tail w4 AX.out).mono ?_;rintro e w5 ⟨Aw,⟨hn,rfl⟩ | ⟨xs,l5,v,hn,rfl,⟨a5,c5,rfl,hx3⟩,Bu⟩⟩
   . exact ⟨rfl,Ax.out.trans Aw,Or.inl ⟨by rw [Bc.out,if_neg (by simp [s1]),if_neg (by simp [s2]),if_pos s3,hn],rfl⟩⟩
   have C4:=Aw.size
   have HP:Hid (zbr l=some (.mk 3 m n xs [] [],l5)):=by show zbr l=_;rw [Bc.out,if_neg (by simp [s1]),if_neg (by simp [s2]),if_pos s3,hn]
   have Av:Hid (w5.heap[w.heap.size]? = some za1):=(Aw.block w.heap.size (by omega) (by omega)).trans Ar.out;have BU:Hid (w5.heap[w.heap.size+1]? = some (.cells #[qi 3,.string m,.string n,qs,qs,qs] 176 (0,0))):=(Aw.block (w.heap.size+1) (by omega) (by omega)).trans D5.out
   have HF:Hid (zd4 R a cap ts w (zbr l) (zf7 (w.heap.size<=·)) (.returned (.agg #[qi 3,.string m,.string n,.slice a5 xs.length c5,qs,qs])) (set6 (w5.setCell ⟨w.heap.size+1,3,none⟩ (.slice a5 xs.length c5)) w.heap.size (qi 3) (.string m) (.string n) (.slice a5 xs.length c5) (qs) (qs))):=by
    refine znc (s:=.mk 3 m n xs [] []) HP.out (((Ax.out.trans Aw).set (by show _<=w.heap.size+1;omega) _).set6 (vaa _) _ _ _ _ _ _) ((Bu.setAbove HR.out (by show _<=w.heap.size+1;omega) _).set6 HR.out (vaa _) _ _ _ _ _ _) hm Ez ?_ (Or.inl rfl) (Or.inl rfl);exact hx3.moves ((((zad.refl w5 _).set (by intro b _ hb;show b≠w.heap.size+1;omega) _).set6 (b:=w.heap.size) (by intro b _ hb;omega) _ _ _ _ _ _).to (by omega))
   obtain ⟨h0,h1,h2,h3,h4,h5,h6⟩:=zam Av.out;obtain ⟨g0,g1,g2,g3,g4,g5,g6⟩:=zam BU.out;clear hn Aw Bu hx3 Ar D5 AX Ax;go_wp2_with fail;refine bodyPost_ret (v:=.agg #[qi 3,.string m,.string n,.slice a5 xs.length c5,qs,qs]) (by simp [results,Tryz.results285,go_sem,h0,h1,h2,h3,h4,h5]) rfl HF.out
set_option maxHeartbeats 1600000
theorem zzf {l l':List Tk} {s:St} (h:zbr l=some (s,l')):l'.length<l.length:=by
 unfold zbr at h
 split at h
 . cases h
 rename_i m n l1 h1
 have:=zru h1
 split at h
 . rename_i hs
   have:=zah (by decide) hs
   split at h
   . cases h
   rename_i x l2 h2
   have:=zn4 h2;obtain ⟨_,rfl⟩:=vao (vab h);omega
 split at h
 . rename_i hs
   have:=zah (by decide) hs
   split at h
   . cases h
   rename_i x l2 h2
   have:=zn4 h2
   split at h
   . rename_i AB
     have:=zah (by decide) AB
     split at h
     . rename_i Bl
       have:=zah (by decide) Bl
       split at h
       . cases h
       rename_i y l3 h3
       have:=zn4 h3;obtain ⟨_,rfl⟩:=vao (vab h);omega
     . cases h
   . cases h
 split at h
 . rename_i hs
   have:=zah (by decide) hs
   split at h
   . cases h
   rename_i x l2 h2
   have:=z60 h2;obtain ⟨_,rfl⟩:=vao (vab h);omega
 . cases h
theorem zkz {r:Option (St × List Tk)} {l':List Tk} {s:St} {n:Nat} (h:zdt r=some (s,l')) (hr:∀ s l,r=some (s,l)->l.length<n):l'.length<n:=by
 unfold zdt at h
 split at h
 . cases h
 . rename_i s1 l1
   have:=hr s1 l1 rfl
   split at h
   . rename_i hs
     have:=zah (by decide) hs;obtain ⟨_,rfl⟩:=vao (vab h);omega
   . cases h
def zco (f:Nat) (l:List Tk):Option (St × List Tk):=
 match pX l with
 | none=>none
 | some (x,l1)=>match zbt f l1 with
   | none=>none
   | some (b,l2)=>if skB l2 zrt then (match zbt f l2.tail with | none=>none | some (o,l3)=>if o.length=0 then none else some (.mk 4 ⟨#[]⟩ ⟨#[]⟩ [x] b o,l3))
     else some (.mk 4 ⟨#[]⟩ ⟨#[]⟩ [x] b [],l2)
theorem zuq {f:Nat} {l:List Tk} (h:skB l tIf=true):zce (f+1) l=zco f l.tail:=by
 unfold zce;rw [if_pos h];rfl
theorem zha {f:Nat} {l:List Tk} (h:skB l tIf=false) (h1:skB l zgw=true):zce (f+1) l=(match pX l.tail with
 | none=>none
 | some (x,l1)=>match zbt f l1 with | none=>none | some (b,l2)=>some (.mk 5 ⟨#[]⟩ ⟨#[]⟩ [x] b [],l2)):=by
 unfold zce;rw [if_neg (by simp [h]),if_pos h1];rfl
theorem zf8 {f:Nat} {l:List Tk} (h:skB l tIf=false) (h1:skB l zgw=false) (h2:skB l zfh=true):zce (f+1) l=zdt (match pX l.tail with | none=>none | some (x,l1)=>some (.mk 6 ⟨#[]⟩ ⟨#[]⟩ [x] [] [],l1)):=by
 unfold zce;rw [if_neg (by simp [h]),if_neg (by simp [h1]),if_pos h2];rfl
theorem zk0 {f:Nat} {l:List Tk} (h:skB l tIf=false) (h1:skB l zgw=false) (h2:skB l zfh=false) (h3:skB l z3s=true):zce (f+1) l=zdt (match pX l.tail with | none=>none | some (x,l1)=>some (.mk 7 ⟨#[]⟩ ⟨#[]⟩ [x] [] [],l1)):=by
 unfold zce;rw [if_neg (by simp [h]),if_neg (by simp [h1]),if_neg (by simp [h2]),if_pos h3];rfl
theorem zhb {f:Nat} {l:List Tk} (h:skB l tIf=false) (h1:skB l zgw=false) (h2:skB l zfh=false) (h3:skB l z3s=false):zce (f+1) l=zdt (zbr l):=by
 unfold zce;rw [if_neg (by simp [h]),if_neg (by simp [h1]),if_neg (by simp [h2]),if_neg (by simp [h3])]
mutual
theorem zot:∀ (f:Nat) (l l':List Tk) (s:St),zce f l=some (s,l')->l'.length<l.length
 | 0,_,_,_,h=>by simp [zce] at h
 | f + 1,l,l',s,h=>by
   unfold zce at h
   split at h
   . rename_i hs
     have:=zah (by decide) hs
     split at h
     . cases h
     rename_i x l1 h1
     have:=zn4 h1
     split at h
     . cases h
     rename_i b l2 h2
     have:=zf9 f _ _ _ h2
     split at h
     . rename_i AB
       have:=zah (by decide) AB
       split at h
       . cases h
       rename_i o l3 h3
       have:=zf9 f _ _ _ h3
       split at h
       . cases h
       . obtain ⟨_,rfl⟩:=vao (vab h)
         omega
     . obtain ⟨_,rfl⟩:=vao (vab h)
       omega
   split at h
   . rename_i hs
     have:=zah (by decide) hs
     split at h
     . cases h
     rename_i x l1 h1
     have:=zn4 h1
     split at h
     . cases h
     rename_i b l2 h2
     have:=zf9 f _ _ _ h2;obtain ⟨_,rfl⟩:=vao (vab h);omega
   split at h
   . rename_i hs
     have:=zah (by decide) hs;refine zkz h ?_;intro s l2 h2
     split at h2
     . cases h2
     rename_i x l1 h1
     have:=zn4 h1;obtain ⟨_,rfl⟩:=vao (vab h2);omega
   split at h
   . rename_i hs
     have:=zah (by decide) hs;refine zkz h ?_;intro s l2 h2
     split at h2
     . cases h2
     rename_i x l1 h1
     have:=zn4 h1;obtain ⟨_,rfl⟩:=vao (vab h2);omega
   . exact zkz h fun s l2 h2=>zzf h2
theorem zf9:∀ (f:Nat) (l l':List Tk) (b:List St),zbt f l=some (b,l')->l'.length<l.length
 | 0,_,_,_,h=>by simp [zbt] at h
 | f + 1,l,l',s,h=>by
   unfold zbt at h
   split at h
   . rename_i hs
     have:=zah (by decide) hs;have:=zqs f _ _ _ _ h;omega
   . cases h
theorem zqs:∀ (f:Nat) (A5:List St) (l l':List Tk) (b:List St),zeh f A5 l=some (b,l')->l'.length<l.length
 | 0,_,_,_,_,h=>by simp [zeh] at h
 | f + 1,A5,l,l',b,h=>by
   unfold zeh at h
   split at h
   . rename_i hs
     obtain ⟨_,rfl⟩:=vao (vab h);exact zah (by decide) hs
   split at h
   . cases h
   . rename_i s l1 h1
     have:=zot f _ _ _ h1;have:=zqs f _ _ _ _ h;omega
end
structure StC (R cap:Nat) (a:OA) (ts:List Tk) (f:Nat):Prop where
 stmt:∀ (l:List Tk) (w:World),Rd R a cap ts w l->3*l.length+1<=f->qc 254 #[pq R 0] w (zd4 R a cap ts w (zce f l) (zf7 (w.heap.size<=·)))
 block:∀ (l:List Tk) (w:World),Rd R a cap ts w l->3*l.length+1<=f->qc 201 #[pq R 0] w (zd4 R a cap ts w (zbt f l) (z84 (w.heap.size<=·)))
theorem zv7 (R cap:Nat) (a:OA) (ts:List Tk) (f:Nat) (IH:∀ g,g<=f->StC R cap a ts g) (l:List Tk) (w:World) (h:Rd R a cap ts w l) (hf:3*l.length+1<=f+1) :
 qc 201 #[pq R 0] w (zd4 R a cap ts w (zbt (f+1) l) (z84 (w.heap.size<=·))):=by
 have HI:Hid (∀ g,g<=f->StC R cap a ts g):=IH;have HR:Hid (Rd R a cap ts w l):=h;have CC:=h.lt
 have GZ:l.length<=4096:=by
  obtain ⟨k,_,rfl,_⟩:=h.idx;have:=h.len
  rw [vbv];omega
 clear IH h;go_enter Tryz.func201,Tryz.ntmps201;go_wp2_with fail;refine (zfk R cap _ a ts l tLb _ rfl HR.out (by decide)).mono ?_;rintro e w1 ⟨AF,⟨hs,rfl⟩ | ⟨hs,rfl,B3⟩⟩
 . exact ⟨rfl,AF,Or.inl ⟨by unfold zbt;rw [if_neg (by simp [hs])],rfl⟩⟩
 have CI:=zah (by decide) hs
 have HP:Hid (zbt (f+1) l=zeh f [] l.tail):=by show zbt (f+1) l=_;unfold zbt;rw [if_pos hs]
 have BF:Hid (Rd R a cap ts w1 l.tail):=B3;have AY:Hid (Keeps R w w1):=AF;have An:=AF.size;clear B3 AF hs;go_wp2_with fail
 go_loopw [3] (fun v wr=>∃ (g:Nat) (A5:List St) (l':List Tk),g<=f/\zbt (f+1) l=zeh g A5 l'/\3*l'.length+2<=g/\A5.length+l'.length<=l.length/\Row w.heap.size 176 6 wr v A5.length (zbp A5)/\Rd R a cap ts wr l'/\Keeps R w wr) (fun _ wr=>zhv R ts.length wr)
 case atStart=>exact ⟨f,[],l.tail,vaa _,HP.out,by omega,by simp,Row.nil _ _ _ _,BF.out,AY.out⟩
 case round=>
  obtain ⟨g,A5,l',hg,hpm,Ah,hacc,Aa,Dj,Bg⟩:=hrel;have HG:Hid (zbt (f+1) l=zeh g A5 l'):=hpm;have HO:Hid (Row w.heap.size 176 6 wr u3 A5.length (zbp A5)):=Aa;have HD:Hid (Rd R a cap ts wr l'):=Dj;have HE:Hid (Keeps R w wr):=Bg;have Cd:=Bg.size
  obtain ⟨g,rfl⟩:∃ g',g=g'+1:=⟨g - 1,by omega⟩
  clear hpm Aa Dj Bg HP;go_wp2_with fail
  by_cases hs:skB l' tRb=true
  . have HP:Hid (zbt (f+1) l=some (A5,l'.tail)):=by show zbt (f+1) l=_;rw [HG.out];unfold zeh;rw [if_pos hs]
    refine (zbl R cap a ts l' tRb wr (by decide) HD.out hs).mono ?_;rintro e w3 ⟨rfl,Aq,Am⟩;have CY:Hid (Row w.heap.size 176 6 w3 u3 A5.length (zbp A5)):=HO.out.keeps Am CC;go_wp2_with fail;go_ret;exact ⟨HE.out.trans Am,Or.inr ⟨A5,l'.tail,_,HP.out,rfl,CY.out.slice,Aq⟩⟩
  refine (zb2 R cap a ts l' tRb wr HD.out (by simpa using hs)).mono ?_;rintro e w3 ⟨rfl,Aq,Am⟩;have Bz:=Am.size;go_wp2_with fail;refine ((HI.out g (by omega)).stmt l' w3 Aq (by omega)).mono ?_;rintro e w4 ⟨Ax,⟨hn,rfl⟩ | ⟨y,l4,v,hn,rfl,⟨a1,c1,a2,c2,a3,c3,rfl,AU,AM,hx3,hx4,hx5⟩,AX⟩⟩
  . exact ⟨rfl,(HE.out.trans Am).trans Ax,Or.inl ⟨by rw [HG.out];unfold zeh;rw [if_neg hs,hn],rfl⟩⟩
  have EW:=zot _ _ _ _ hn
  have HP:Hid (zbt (f+1) l=zeh g (A5++[y]) l4):=by show zbt (f+1) l=_;rw [HG.out];unfold zeh;rw [if_neg hs,hn];cases g<;>rfl
  have E6:Hid (zau w4 (w3.heap.size<=·) y.ds (zzd y a1 c1 a2 c2 a3 c3)):=z13 AU AM hx3 hx4 hx5;have BX:Hid (Rd R a cap ts w4 l4):=AX;have BH:Hid (Keeps R w w4):=(HE.out.trans Am).trans Ax;have Em:Hid (Row w.heap.size 176 6 w4 u3 A5.length (zbp A5)):=(HO.out.keeps Am CC).keeps Ax CC;have D1:=Ax.size
  have HL:Hid (∀ k,u3.ownBlock=some k->k<w3.heap.size):=fun k hk=>((HO.out.keeps Am CC).lt k hk).2
  have Eg:=HD.out.left;clear hn Aq AX Am Ax AU AM hx3 hx4 hx5 hs
  go_wp2_with (at_builtin;refine zbs rfl (.tmp 10) (.tmp 13) 25 rfl w.heap.size 176 _ 6 112 Tryz.underlying25 Tryz.infoP48 rfl (by decide) w4 u3 A5.length (zbp A5) y.ds rfl Em.out _ _ rfl rfl rfl (w3.heap.size<=·) E6.out ?_ (by omega) (by decide) (by omega) ?_)
  . intro b _ hb
    exact ⟨by omega,fun h=>by have:=HL.out b h;omega⟩
  . intro g5 c5 w5 Bq Av C4
    have B5:Hid (Row w.heap.size 176 6 w5 (.slice (some (qa g5 0)) (A5.length+1) c5) (A5.length+1) (zbp A5++y.ds)):=Bq;have Bu:Hid (Rd R a cap ts w5 l4):=BX.out.belowOf HR.out Av;have Aw:Hid (Keeps R w w5):=BH.out.belowOf Av;have FX:=Bu.out.left;clear Bq Av Em BX BH E6;go_wp2_with fail;go_roundw
    case rel=>exact ⟨g,A5++[y],l4,by omega,HP.out,by omega,by simp;omega,by rw [zhg,zu0,vam];exact B5.out,Bu.out,Aw.out⟩
    case measure=>rw [FX,Eg];omega
end Go.Proofs.YtndkhgakfodldaaGreatDoor
